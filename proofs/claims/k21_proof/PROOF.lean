import PyProof.Rows.All
import Wide.All
import OpenK.AllK
import Wide.FinOn
import Lean
import PyProof.EqAt
import PyProof.EqKinds
import PyProof.TupleCall
import KE.KRevIter
import PyProof.NeKinds
import PyProof.Draws
import PyProof.EnumMake
import KE.KSortTup
import PyProof.ZipIter
import KE.KDictList
import PyProof.AttrMissHeap
import KE.KDictOf
import PyProof.Rows.SetFrom
import PyProof.Rows.SortRunsK
import PyProof.IsRules
import PyProof.SetRoads
import KE.KSortKey
import PyProof.RulesDel
import PyProof.DelItemList
import PySem.Challenge.RW_wordwishes_k21_signs_of_choices
set_option Elab.async false
set_option linter.all false
set_option maxRecDepth 100000
set_option maxHeartbeats 4000000
set_option bootstrap.genMatcherCode false
set_option compiler.extract_closed false
noncomputable section
open PySem renaming wpAny_bind->o0,Value->s0,Shared->E2,wpAny_pure->E3,sizeLine->E4,Addr->E5,starEach->E8,wpAny->F6,mainGlobals->F9,Heap->I0,Program->J4,Builtin->J7,model->J9,FuncData->K1,Spec->K3,Expr->K4,wpAny_mono->L5,Around->L8,foldedSetIterable->O1,World->O3,wpAny_field->O7,wpAny_newObj_type->O8,wpAny_holding->P4,mem_of_lookup->P8,compareOp->Q9,wpAny_ite_false->R0,NameKind->R5,sizeLine_eq->R6,wpAny_callSpecial?_slot->S0,wpAny_loadPart_at->S2,wpAny_loadPart'->S6,excClassObj->T1,PassesOwn->T3,behindInMarks->T6,wpAny_pyIter_tuple->U0,binaryOp->U8,backTo->V0,assignEach->V2,bootBuiltins->V8,wpAny_seqItems->X5,wpAny_pyIter_list->X6,swapsWith->Z0,eval->Z4,Stmt->Z7,Paired->Z8,wpAny_call_entry->aa2,call_meets->aa3,Scope->aa5,wpAny_standAt->aa6,attributeBase->aa7,wpAny_Call_Name_kw->aa8,wpAny_setField_rec->ab0,wpAny_binaryOp_repeat_ref->ab5,codeAny_call_builtin->ab6,wpAny_truthy_bool->ab7,wpAny_execs_nil->ab8,wpAny_passesOwn->ab9,codeAny->ac2,wpAny_getItem_str_slice->ac5,sysModules->ac9,letOwnedTupleGo->ad4,codeAny_mono->ad5,wpAny_call->ad9,Comprehension->ae0,cLine->ae6,wpAny_setField->ae7,IsPair->ae8,wpAny_execs_cons->af0,keywordEach->af2,wpAny_isSubtype_exc->af3,wpAny_typeOf->af5,typeIs_int->af6,assign->af7,rawInt->af8,tupleKind_room_in1->ag1,noteFrame->ag3,wpAny_onRaise->ag4,codeAny_builtin->ag6,sliceBounds->ah0,Keyword->ah1,wpAny_ite_true->ai1,wpAny_loadPart->ai2,wpAny_attempt->ai9,holding->aj3,getItem->aj4,post_val_or_str->aj6,wpAny_rule->al2,GenState->al4,backToKw->al5,wpAny_of_eq->al6,plainId_quiet->al7,wpAny_load'->al8,standAt->am0,DictEntry->am1,CmpOp->am9,pyNext->an0,subscripted->an1,callerA->an2,IsZip->an4,wpAny_letGo->an5,tupleKind->an6,Result->an7,IsPart->an8,compEnvC->an9,compPost->ao0,ZipApart->ao2,Model->ao3,BindsTo->ao4,leaving->ao5,valueAt->ao8,pyIter->ao9,Data->ap0,call->ap2,Code->ap3,cellsFrom->ap4,setFlight->ap7,OwnTail->ap8
open PySem.W renaming Frag->u8,nsIn->K6,kitOne->L6,mg_none_of->M7,findIn->N8,mg_of->O2,hideAll_get->P7,hideAll_none->Q4,keepIn->S5,emptyDict->T4,funFrames_hide->Z6,of_hideAll->aa4,fnOf->aa9,instObj->ad1,hideAll->ad2,callWith_K->af9,hasDictIn->ag8,specialIn->ah6,codeIn->ah9,mroIn->aj0,Looks->ak0
open PySem.Heap renaming get?_push_of_some->E1,get?_push_size->F0,lt_size->F2,get?_update_other->K2,get?_update_self->P5,size_push->R8,get?_none_of_le->U3,SameBut->U6,IsTuple->am6
open List renaming replicate->E6,length_map->E7,mem_cons->E9,size_toArray->F1,getElem?_eq_some_iff->F4,mem_cons_of_mem->F7,getElem?_eq_getElem->H0,mem_singleton->J0,mem_append_right->J3,map_cons->J5,mem_of_getElem?->J8,length_append->K7,length_take->K9,getElem?_map->L7,mem_append->L9,replicate_succ->N5,length_cons->N6,nil_append->O5,mem_cons_self->P0,lookup_cons->P2,eq_of_mem_replicate->P3,getElem?_append_left->P9,mem_of_mem_take->Q5,mem_map->R3,getElem?_set_self->R4,append_nil->R7,getElem?_cons_succ->S1,getElem?_append_right->S3,mem_filterMap->S4,map_append->S7,all_eq_true->S9,length_nil->T7,find?_cons->T8,mem_append_left->U4,getElem?_set_ne->U5,getD_eq_getElem?_getD->U9,take_of_length_le->V1,length->V3,flatten_cons->V4,filter_eq_self->V5,drop_eq_getElem_cons->V7,map_map->W1,range->W3,length_drop->W5,getElem_mem->W6,not_mem_nil->W7,take_length->W8,mem_iff_getElem->X0,any_cons->X1,length_eq_zero_iff->X4,take_add_one->X7,filterMap_cons->X8,drop_eq_nil_of_le->Z5,zip_cons_cons->ab1,map_take->ab3,append_assoc->ac0,getElem?_replicate->ac3,length_pos_iff->ac7,any_eq_true->ac8,mem_filter->ad3,nodup_cons->ad7,mem_of_mem_drop->ae5,reverse_cons->ah2,flatMap_cons->ah7,mem_range->ah8,all_cons->ai8,map_drop->aj1,map_nil->ak3,all_map->ak4,lookup->an3,cons->ao1,foldl->ao7
open PySem.Value renaming ref->F3,none->K0,type->O0,builtin->ae1,bool->ag7,str->ak8,int->ap1
open Nat renaming le_refl->F5,ne_of_lt->F8,lt_of_lt_of_le->J6,zero_le->O4,lt_succ_of_lt->O9,le_trans->Q0,lt_irrefl->S8,lt_succ_self->U7,ne_of_gt->V9,le_succ->ad6,le_add_right->ai7,mod_lt->aj2,le_of_lt->ak1,lt_trans->am3
open Int renaming eq_ofNat_of_zero_le->K5,toNat_natCast->Q7
open Bool renaming false_eq_true->K8,and_eq_true->N7,false_ne_true->P1,eq_iff_iff->W0,false_xor->ae9,and_false->ai0,false_and->ak6
open PySem.Str renaming ofString->L4
open PyProof.Rows renaming slot_tuple_getitem->M0,envOfC->W9,callWith_type1->Z1,tupleItemsOf_->ag0,AllBare->ai4,kindOf->ak2,slicePart_none->ak7,IsTup->am8,Subscript_->ao6
open Ne renaming symm->M9
open PySem.Builtin.Tuple renaming tupleExact->N0,tupleItemsOf->aa0
open Array renaming getElem?_eq_some_iff->N1,length_toList->X9
open Option.some renaming inj->N3,injEq->ae2
open Or renaming inl->N4,inr->am2
open PySem.Builtin.SmallTypes renaming nextOf->N9,ownedTupleIsFree->T0
open Option renaming some->O6,isSome_iff_exists->T5,map_some->ac1,isSome_map->ah4
open PySem.PassesOwn renaming never->P6
open False renaming elim->Q6
open Bind renaming bind->Q8
open PySem.Builtin.Slice renaming slicePlaces->R1,sliceApplied->Z9
open PySem.SeqAt renaming EqAt->R9
open ForInStep renaming yield->T9
open PySem.Obj renaming data_mapFields->U1,mapFields->U2,isFreed_of_fields->ad8,dropNameByArray->af4,dropName_eq->aj9,mapSeq->ak9
open PySem.NameKind renaming free->V6,cell->ag2
open PySem.Builtin.List renaming listTooLong->W4
open PySem.F renaming slot_int_rmul->Z3,slot_tuple_iterator_next->aa1,plainAttrs_list->ac6,excAttr_ValueError->ae4,slot_tuple_mul->af1,args_int_rmul_2->ah3,slot_int_index->ai5,entry_int_rmul->ai6,fills_int_mul->aj5,slot_zip_next->aj7
open PySem.Data renaming fields->ab4,dict->al0,seq->am7
open PySem.Code renaming compLoop->ac4
open Pure renaming pure->ad0
open PySem.Around renaming under_plainId->ae3
open List.cons renaming injEq->ag5
open True renaming intro->ag9
open PySem.Shared renaming heap->ah5
open PySem.W.Looks renaming here->ai3
open Eq renaming refl->aj8
open Sum renaming inr->ak5,inl->al9
open PySem.Paired renaming length->al3
open PySem.Txt renaming slice->am4,slice_le->am5
open LawfulMonad renaming pure_bind->ap5
open Inhabited renaming default->ap6
set_option compiler.extract_closed false
namespace L2
open PySem PySem.Spec PyProof.Rows
abbrev Key:=Sum Int Str
def jI:Key->s0->Bool
 |.inl k,v=>s0.isInt k v
 |.inr x,v=>s0.isStrOf x v
noncomputable def D7(w:O3):Key->Int
 |.inl k=>hashInt k
 |.inr x=>hashStr w x
theorem aZ:∀{k:Key}{v:s0},jI k v=true->(∃i t,k=al9 i/\v=ap1 i t)∨(∃x t,k=ak5 x/\v=ak8 x t)
 |.inl i,v,h=>by
  obtain⟨t,e⟩:=s0.isInt_shape (k:=i) (v:=v) h;exact .inl ⟨i,t,rfl,e⟩
 |.inr x,v,h=>by
  obtain⟨t,e⟩:=s0.isStrOf_shape (x:=x) (v:=v) h;exact .inr ⟨x,t,rfl,e⟩
theorem rY(i:Int) (t:Tok):jI (.inl i) (.int i t)=true:=by simp[jI,s0.isInt]
theorem sO(x:Str) (t:Tok):jI (.inr x) (.str x t)=true:=by simp[jI,s0.isStrOf]
theorem AE(a b:Int):decide ((al9 a:Key)=al9 b)=(a==b):=by
 by_cases e:a=b
 ·subst e;simp
 ·have h:¬ (al9 a:Key)=al9 b:=fun q=>e (al9.inj q);rw[decide_eq_false h];exact(beq_eq_false_iff_ne.mpr e).symm
theorem A3(a b:Str):decide ((ak5 a:Key)=ak5 b)=decide (a=b):=by
 by_cases e:a=b
 ·subst e;simp
 ·have h:¬ (ak5 a:Key)=ak5 b:=fun q=>e (ak5.inj q);rw[decide_eq_false h,decide_eq_false e]
theorem Bp(a:Int) (b:Str):decide ((al9 a:Key)=ak5 b)=false:=decide_eq_false (fun q=>nomatch q)
theorem Al(a:Str) (b:Int):decide ((ak5 a:Key)=al9 b)=false:=decide_eq_false (fun q=>nomatch q)
def aS(prog:J4) (w:O3):PySem.KeyKind prog w Key where
 is:=jI
 hash:=D7 w
 inj:=fun v a b ha hb=>by
  rcases aZ ha with⟨i,t,rfl,rfl⟩|⟨x,t,rfl,rfl⟩
  ·rcases aZ hb with⟨j,u,rfl,e⟩|⟨y,u,rfl,e⟩
   ·injection e with e1 _;rw[e1]
   ·exact nomatch e
  ·rcases aZ hb with⟨j,u,rfl,e⟩|⟨y,u,rfl,e⟩
   ·exact nomatch e
   ·injection e with e1 _;rw[e1]
 byValue:=fun k v h=>by
  rcases aZ h with⟨i,t,rfl,rfl⟩|⟨x,t,rfl,rfl⟩<;>rfl
 pyHash:=fun hv h=>by
  rcases aZ hv with⟨i,t,rfl,rfl⟩|⟨x,t,rfl,rfl⟩
  ·exact wpAny_pyHash_int h
  ·exact wpAny_pyHash_str h
 eqBool:=fun hu hv h=>by
  rcases aZ hu with⟨i,t,rfl,rfl⟩|⟨x,t,rfl,rfl⟩
  ·rcases aZ hv with⟨j,u,rfl,rfl⟩|⟨y,u,rfl,rfl⟩
   ·rw[AE]at h;exact wpAny_eqBool_int h
   ·rw[Bp]at h;exact R9.int_str i t y u _ _ _ _ h
  ·rcases aZ hv with⟨j,u,rfl,rfl⟩|⟨y,u,rfl,rfl⟩
   ·rw[Al]at h;exact R9.str_int x t j u _ _ _ _ h
   ·rw[A3]at h;exact wpAny_eqBool_str h
 «strs»:=fun k x t v h=>by
  rcases aZ h with⟨i,u,rfl,e⟩|⟨y,u,rfl,e⟩
  ·exact nomatch e
  ·injection e with e1 _
   subst e1;cases v<;>rfl
theorem oD(prog:J4) (w:O3) (i:Int) (t:Tok):(aS prog w).is (.inl i) (.int i t)=true:=rY i t
theorem oJ(prog:J4) (w:O3) (x:Str) (t:Tok):(aS prog w).is (.inr x) (.str x t)=true:=sO x t
inductive V where
 |non|bl (b:Bool)|int (i:Int)|str (x:Str)|byt (b:Array UInt8)|flt (b:UInt64)|ref (a:E5)|ty (n:String)
 deriving DecidableEq
def aF:V->s0->Prop
 |.non,u=>u=K0
 |.bl b,u=>u=ag7 b
 |.int i,u=>∃t,u=ap1 i t
 |.str x,u=>∃t,u=ak8 x t
 |.byt b,u=>∃t,u=s0.bytes b t
 |.flt b,u=>∃t,u=s0.float b t
 |.ref a,u=>u=F3 a
 |.ty n,u=>u=O0 n
abbrev ax:List V->List s0->Prop:=Z8 aF
theorem ax.length{xs:List V}{us:List s0}(r:ax xs us):xs.length=us.length:=al3 r
theorem ax.get:∀{xs:List V}{us:List s0}{i:Nat}{x:V},ax xs us->xs[i]?=some x->∃u,us[i]?=some u/\aF x u
 |_,_,_,_,.nil,e=>by simp at e
 |_,_,0,_,.cons r _,e=>by simp at e;subst e;exact⟨_,rfl,r⟩
 |_,_,i+1,x,.cons _ t,e=>by
  obtain⟨u,h1,h2⟩:=ax.get (i:=i) (x:=x) t (by simpa using e);exact⟨u,by simpa using h1,h2⟩
theorem ax.set{x:V}{u:s0}(r:aF x u):∀{xs:List V}{us:List s0}(i:Nat),ax xs us->ax (xs.set i x) (us.set i u)
 |_,_,_,.nil=>.nil
 |_,_,0,.cons _ t=>.cons r t
 |_,_,i+1,.cons q t=>.cons q (ax.set r i t)
theorem ax.append:∀{xs ys:List V}{us ws:List s0},ax xs us->ax ys ws->ax (xs++ys) (us++ws)
 |_,_,_,_,.nil,s=>s
 |_,_,_,_,.cons r t,s=>.cons r (ax.append t s)
theorem ax.take:∀{xs:List V}{us:List s0}(n:Nat),ax xs us->ax (xs.take n) (us.take n)
 |_,_,0,_=>.nil
 |_,_,_+1,.nil=>.nil
 |_,_,n+1,.cons r t=>.cons r (ax.take n t)
theorem ax.drop:∀{xs:List V}{us:List s0}(n:Nat),ax xs us->ax (xs.drop n) (us.drop n)
 |_,_,0,r=>r
 |_,_,_+1,.nil=>.nil
 |_,_,n+1,.cons _ t=>ax.drop n t
def i8:Option V->Option s0->Prop
 |some v,some u=>aF v u
 |none,none=>True
 |_,_=>False
def KV{κ:Type}:List (κ×V)->List (κ×s0)->Prop:=Z8 fun(p:κ×V) (q:κ×s0)=>p.1=q.1/\aF p.2 q.2
def kV:Key->V
 |.inl i=>.int i
 |.inr x=>.str x
inductive HO where
 |lst (xs:List V)
 |tup (xs:List V)
 |dK (kvs:List (Key×V))|dT (kvs:List (List Key×V))
 |set (S:Int->Bool) (n:Nat)
 |ins (C dx:E5) (fs:List (Str×V))
 |own (x:E5)
 |xd (fs:List (Str×V))
 |met (f x:E5)
 |rng (lo hi:Int)
 |frz (o:Obj) (u:HO)
 |tbl (ps:Array s0)
 |ext (φ:I0->Prop)
abbrev Hp:=E5->Option HO
def upd(H:Hp) (a:E5) (o:HO):Hp:=fun b=>if b=a then some o else H b
theorem az{H:Hp}{a:E5}{o:HO}:upd H a o a=some o:=by unfold upd;rw[if_pos rfl]
theorem aB{H:Hp}{a b:E5}{o:HO}(h:b≠a):upd H a o b=H b:=by unfold upd;rw[if_neg h]
theorem qE{H:Hp}{a:E5}{o u:HO}:upd (upd H a o) a u=upd H a u:=by
 funext b;unfold upd;split<;>rfl
theorem De{H:Hp}{a b:E5}{o u:HO}(h:H a=some o) (h':H b=some u) (d:o≠u):a≠b:=by
 intro e;subst e;rw[h]at h';exact d (N3 h')
theorem bF{H:Hp}{a b:E5}{o:HO}(h:H a=some o) (h':H b=none):a≠b:=by
 intro e;subst e;rw[h]at h';cases h'
def gf(h:I0) (a:E5) (xs:Array s0):Prop:=∃o,h.get? a=some o/\o.cls=.type "tuple"/\(∃n,o.data=.seq xs n)/\o.dict=none
theorem gf.tup{h:I0}{a:E5}{xs:Array s0}(x:gf h a xs):am8 h a xs:=let⟨o,e,c,d,_⟩:=x;⟨o,e,c,d⟩
theorem gf.lt{h:I0}{a:E5}{xs:Array s0}(x:gf h a xs):a<h.objs.size:=let⟨_,e,_⟩:=x;F2 e
theorem gf.new(h:I0) (xs:Array s0):gf (h.push { cls:=.type "tuple",data:=.seq xs }) h.objs.size xs:=⟨_,F0 h rfl,rfl,⟨_,rfl⟩,rfl⟩
section
variable(P:J4) (w:O3)
def bg(H:Hp) (h:I0) (a:E5):HO->Prop
 |.lst xs=>xs.length<=E4/\∃(its:List s0) (n:Nat),ax xs its/\h.get? a=some { cls:=.type "list",data:=.seq its.toArray n }
 |.tup xs=>xs.length<=E4/\∃its:List s0,ax xs its/\gf h a its.toArray
 |.dK kvs=>kvs.length<=E4/\(a==ac9)=false/\∃vs,KV kvs vs/\h.DictOf (aS P w) a vs
 | .dT kvs => kvs.length ≤ E4 ∧ (a == ac9) = false ∧ ∃ xs:List (List Key × E5 × s0),
   Z8 (fun(p:List Key×V) (q:List Key×E5×s0)=>p.1=q.1/\H q.2.1=some (.tup (p.1.map kV))/\aF p.2 q.2.2) kvs xs /\
   ∃o es ep,h.get? a=some o/\o.ExactDict/\o.data=.dict es ep/\es.toList=xs.map (entryOfKey (an6 (aS P w)))/\(xs.map (·.1)).Nodup
 |.set S n=>h.SetOf (intKind P w) a S n
 | .ins C dx fs => H dx = some (.own a) ∧ fs.length ≤ 1000 ∧ dx ≠ a ∧ h.get? a = some (ad1 C dx) ∧
   ∃mA,h.Ns1 dx mA/\(∀f,i8 (fs.lookup f) (mA f))/\PySem.Within mA (fs.map (·.1))
 |.own _=>∃o,h.get? a=some o
 |.xd fs=>∃mA,h.Ns1 a mA/\∀f,i8 (fs.lookup f) (mA f)
 |.rng lo hi=>∃t u v,h.get? a=some { cls:=.type "range",data:=.fields #[.int lo t,.int hi u,.int 1 v] }
 |.frz o u=>h.get? a=some o/\bg H h a u
 |.tbl ps=>h.get? a=some { cls:=.none,data:=.fields ps }
 |.met f x=>h.get? a=some (PySem.W.methodObj (.ref f) (.ref x))
 |.ext φ=>φ h/\(∃o,h.get? a=some o)/\∀h1 h2:I0,φ h1->(∀o,h1.get? a=some o->h2.get? a=some o)->φ h2
def HOk(H:Hp) (h:I0):Prop:=∀a o,H a=some o->bg P w H h a o
end
section
variable{P:J4}{w:O3}{H H':Hp}{h h':I0}{a:E5}{o:HO}
theorem bg.lt(x:bg P w H h a o):a<h.objs.size:=by
 cases o with
 |lst xs=>obtain⟨_,_,_,_,e⟩:=x;exact F2 e
 |tup xs=>obtain⟨_,_,_,p⟩:=x;exact p.lt
 |dK kvs=>obtain⟨_,_,_,_,o,_,_,e,_⟩:=x;exact F2 e
 |dT kvs=>obtain⟨_,_,_,_,o,_,_,e,_⟩:=x;exact F2 e
 |set S n=>obtain⟨o,_,_,_,e,_⟩:=x;exact F2 e
 |ins C dx fs=>obtain⟨_,_,_,e,_⟩:=x;exact F2 e
 |own y=>obtain⟨_,e⟩:=x;exact F2 e
 |xd fs=>obtain⟨_,⟨_,_,_,e,_⟩,_⟩:=x;exact F2 e
 |rng lo hi=>obtain⟨_,_,_,e⟩:=x;exact F2 e
 |frz ob u=>obtain⟨e,_⟩:=x;exact F2 e
 |tbl ps=>exact F2 (show h.get? a=some _ from x)
 |met f y=>exact F2 (show h.get? a=some _ from x)
 |ext φ=>obtain⟨_,⟨_,e⟩,_⟩:=x;exact F2 e
theorem Z8.mapP{α β:Type}{F G:α->β->Prop}:∀{l₁:List α}{l₂:List β},Z8 F l₁ l₂->(∀a b,F a b->G a b)->Z8 G l₁ l₂
 |_,_,.nil,_=>.nil
 |_,_,.cons r t,f=>.cons (f _ _ r) (Z8.mapP t f)
theorem Z8.imp'{α β:Type}{F G:α->β->Prop}(f:∀a b,F a b->G a b) {l₁:List α}{l₂:List β}(r:Z8 F l₁ l₂):Z8 G l₁ l₂:=Z8.mapP r f
theorem bg.stay(x:bg P w H h a o) (k:∀b u,(b=a∨H b=some (.own a))->h.get? b=some u->h'.get? b=some u)
  (ho:∀b,H b=some (.own a)->H' b=some (.own a)) (ht:∀b xs,H b=some (.tup xs)->H' b=some (.tup xs)):bg P w H' h' a o:=by
 induction o with
 |lst xs=>obtain⟨z,its,n,r,e⟩:=x;exact⟨z,its,n,r,k _ _ (.inl rfl) e⟩
 |tup xs=>obtain⟨z,its,r,ob,e,c⟩:=x;exact⟨z,its,r,ob,k _ _ (.inl rfl) e,c⟩
 |dK kvs=>obtain⟨z,y,vs,r,ob,es,ep,e,c⟩:=x;exact⟨z,y,vs,r,ob,es,ep,k _ _ (.inl rfl) e,c⟩
 |dT kvs =>
  obtain⟨z,y,xs,r,ob,es,ep,e,c⟩:=x;exact⟨z,y,xs,Z8.mapP r fun p q z=>⟨z.1,ht _ _ z.2.1,z.2.2⟩,ob,es,ep,k _ _ (.inl rfl) e,c⟩
 |set S n=>obtain⟨ob,es,ep,t,e,c⟩:=x;exact⟨ob,es,ep,t,k _ _ (.inl rfl) e,c⟩
 |ins C dx fs =>
  obtain⟨d,z,ne,e,mA,⟨od,es,ep,e2,c⟩,r⟩:=x;exact⟨ho _ d,z,ne,k _ _ (.inl rfl) e,mA,⟨od,es,ep,k _ _ (.inr d) e2,c⟩,r⟩
 |own y=>obtain⟨ob,e⟩:=x;exact⟨ob,k _ _ (.inl rfl) e⟩
 |xd fs=>obtain⟨mA,⟨od,es,ep,e,c⟩,r⟩:=x;exact⟨mA,⟨od,es,ep,k _ _ (.inl rfl) e,c⟩,r⟩
 |rng lo hi=>obtain⟨t,u,v,e⟩:=x;exact⟨t,u,v,k _ _ (.inl rfl) e⟩
 |frz ob u ih=>obtain⟨e,q⟩:=x;exact⟨k _ _ (.inl rfl) e,ih q⟩
 |tbl ps =>
  have e:h.get? a=some { cls:=.none,data:=.fields ps }:=x;show h'.get? a=some { cls:=.none,data:=.fields ps };exact k a _ (.inl rfl) e
 |met f y =>
  have e:h.get? a=some (PySem.W.methodObj (.ref f) (.ref y)):=x;show h'.get? a=some (PySem.W.methodObj (.ref f) (.ref y));exact k a _ (.inl rfl) e
 |ext φ=>obtain⟨p,⟨o,e⟩,st⟩:=x;exact⟨st _ _ p fun o q=>k _ _ (.inl rfl) q,⟨o,k _ _ (.inl rfl) e⟩,st⟩
theorem HOk.lt(x:HOk P w H h) (e:H a=some o):a<h.objs.size:=(x a o e).lt
theorem HOk.fresh(x:HOk P w H h) (e:h.objs.size<=a):H a=none:=by
 cases q:H a with
 |none=>rfl
 |some u=>exact absurd (J6 (x.lt q) e) (S8 _)
theorem HOk.kept(x:HOk P w H h) (k:∀b u,h.get? b=some u->h'.get? b=some u):HOk P w H h':=fun a o e =>
 (x a o e).stay (fun b u _ q=>k b u q) (fun _ q=>q) fun _ _ q=>q
theorem HOk.laid(x:HOk P w H h) (k:∀b u,h.get? b=some u->h'.get? b=some u) (hp:h.objs.size<=a) (new:bg P w (upd H a o) h' a o):HOk P w (upd H a o) h':=fun b u e=>by
 have hn:=x.fresh hp
 by_cases hb:b=a
 ·subst hb;rw[az]at e;cases e;exact new
 ·rw[aB hb]at e;exact(x b u e).stay (fun c v _ q=>k c v q) (fun c q=>by rw[aB (bF q hn)];exact q) fun c xs q=>by rw[aB (bF q hn)];exact q
end
def Rd(H:Hp) (a:E5) (u:HO):Prop:=H a=some u∨∃o,H a=some (.frz o u)
theorem Rd.of{H:Hp}{a:E5}{u:HO}(h:H a=some u):Rd H a u:=.inl h
theorem Rd.ok{P:J4}{w:O3}{H:Hp}{h:I0}{a:E5}{u:HO}(r:Rd H a u) (x:HOk P w H h):bg P w H h a u:=by
 rcases r with r|⟨o,r⟩
 ·exact x a u r
 ·obtain⟨_,q⟩:=x a _ r;exact q
def Mut:Option HO->Prop
 |some (.lst _)=>True
 |some (.dK _)=>True
 |some (.dT _)=>True
 |some (.set _ _)=>True
 |some (.ins _ _ _)=>True
 |some (.ext _)=>True
 |_=>False
section
variable{P:J4}{w:O3}{H:Hp}{h h':I0}{x e:E5}{o':HO}
theorem HOk.write(ok:HOk P w H h) (mu:Mut (H x)) (he:e=x∨H e=some (.own x)) (k:∀b u,b≠e->h.get? b=some u->h'.get? b=some u) (heo:∃u,h'.get? e=some u)
  (new:bg P w (upd H x o') h' x o'):HOk P w (upd H x o') h':=fun b u q=>by
 have nown:∀c y,H c=some (.own y)->c≠x:=fun c y r z=>by subst z;rw[r]at mu;exact mu
 have ntup:∀c xs,H c=some (.tup xs)->c≠x:=fun c xs r z=>by subst z;rw[r]at mu;exact mu
 by_cases hb:b=x
 ·subst hb;rw[az]at q;cases q;exact new
 ·rw[aB hb]at q
  by_cases hbe:b=e
  ·have q':H b=some (.own x):=by
    rcases he with z|z
    ·exact absurd (hbe.trans z) hb
    ·rw[hbe];exact z
   rw[q]at q';cases q';obtain⟨v,hv⟩:=heo;exact⟨v,by rw[hbe];exact hv⟩
  ·refine(ok b u q).stay (fun c v hc r=>k c v ?_ r) (fun c r=>by rw[aB (nown c b r)];exact r) fun c xs r=>by rw[aB (ntup c xs r)];exact r
   rcases hc with rfl|hc
   ·exact hbe
   ·rintro rfl;rcases he with z|z
    ·exact nown c b hc z
    ·rw[hc]at z;cases z;exact hb rfl
end
structure Un(fs ex:List E5) (H H':Hp) (h h':I0):Prop where
 keep:∀b o,h.get? b=some o->H b=none->b∉fs->b∉ex->h'.get? b=some o
 slot:∀b o,h.get? b=some o->H b=none->b∈fs->b∉ex->∃sl,h'.get? b=some { o with slots:=sl }
 free:∀b o,h.get? b=some o->H b=none->b∉ex->H' b=none
 there:∀b o,h.get? b=some o->b∉ex->∃o',h'.get? b=some o'
 tups:∀b xs,H b=some (.tup xs)->H' b=some (.tup xs)
 frzs:∀b o u,H b=some (.frz o u)->H' b=some (.frz o u)
 tbls:∀b ps,H b=some (.tbl ps)->∃more,H' b=some (.tbl (ps++more))
section
variable{fs fs' ex ex':List E5}{H H1 H2:Hp}{h h1 h2 h':I0}{a x e:E5}{o:HO}
theorem Un.any(u:Un fs ex H H1 h h1) {b:E5}{ob:Obj}(q:h.get? b=some ob) (n:H b=none) (hx:b∉ex):∃sl,h1.get? b=some { ob with slots:=sl }:=by
 by_cases hb:b∈fs
 ·exact u.slot b ob q n hb hx
 ·exact⟨ob.slots,u.keep b ob q n hb hx⟩
theorem Un.kept(k:∀b u,h.get? b=some u->h'.get? b=some u):Un fs ex H H h h' :=
 ⟨fun b ob q _ _ _=>k b ob q,fun b ob q _ _ _=>⟨ob.slots,k b ob q⟩,fun _ _ _ n _=>n,fun b ob q _=>⟨ob,k b ob q⟩,fun _ _ q=>q,fun _ _ _ q=>q,fun _ ps q=>⟨#[],by rw[q];simp⟩⟩
theorem Un.refl:Un fs ex H H h h:=Un.kept fun _ _ q=>q
theorem Un.laid(k:∀b u,h.get? b=some u->h'.get? b=some u) (hp:h.objs.size<=a) (hn:H a=none):Un fs ex H (upd H a o) h h' where
 keep:=fun b u q _ _ _=>k b u q
 slot:=fun b u q _ _ _=>⟨u.slots,k b u q⟩
 free:=fun b u q n _=>by rw[aB (F8 (J6 (F2 q) hp))];exact n
 there:=fun b u q _=>⟨u,k b u q⟩
 tups:=fun b xs q=>by rw[aB (bF q hn)];exact q
 frzs:=fun b u xs q=>by rw[aB (bF q hn)];exact q
 tbls:=fun b ps q=>⟨#[],by rw[aB (bF q hn),q];simp⟩
theorem Un.write(mu:Mut (H x)) (he:e=x∨H e=some (.own x)) (k:∀b u,b≠e->h.get? b=some u->h'.get? b=some u) (heo:∃u,h'.get? e=some u):Un fs ex H (upd H x o) h h':=by
 have hx:∀b,H b=none->b≠x:=fun b n z=>by subst z;rw[n]at mu;exact mu
 have hb:∀b,H b=none->b≠e:=fun b n z=>by
  subst z;rcases he with r|r
  ·exact hx b n r
  ·rw[n]at r;cases r
 have hm:∀b u,H b=some u->¬ Mut (some u)->b≠x:=fun b u q nm z=>by subst z;rw[q]at mu;exact nm mu
 refine⟨fun b u q n _ _=>k b u (hb b n) q,fun b u q n _ _=>⟨u.slots,k b u (hb b n) q⟩,fun b u q n _=>by rw[aB (hx b n)];exact n,fun b u q _=>?_,
  fun b xs q=>by rw[aB (hm b _ q fun z=>z)];exact q,fun b u xs q=>by rw[aB (hm b _ q fun z=>z)];exact q,fun b ps q=>⟨#[],by rw[aB (hm b _ q fun z=>z),q];simp⟩⟩
 by_cases hbe:b=e
 ·subst hbe;exact heo
 ·exact⟨u,k b u hbe q⟩
end
def trk(h:I0) (H:Hp):List E5:=(W3 h.objs.size).filter fun a=>(H a).isSome
def mm(h:I0) (H:Hp):I0:=ad2 h (trk h H)
theorem sL(h:I0) (H:Hp):(mm h H).objs.size=h.objs.size:=PySem.W.hideAll_size _ _
theorem uU{h:I0}{H:Hp}{b:E5}{o:Obj}(e:h.get? b=some o) (n:H b=none):(mm h H).get? b=some o :=
 P7 _ e fun hm=>by
  have q:(H b).isSome=true:=(ad3.mp hm).2;rw[n]at q;simp at q
theorem wU{h:I0}{H:Hp}{b:E5}{o:Obj}(e:(mm h H).get? b=some o):h.get? b=some o/\H b=none:=by
 have e':h.get? b=some o:=aa4 (trk h H) e;refine⟨e',?_⟩;cases q:H b with
 |none=>rfl
 |some x =>
  have hm:b∈trk h H:=ad3.mpr ⟨ah8.mpr (F2 e'),by simp[q]⟩;have z:(mm h H).get? b=none:=Q4 (trk h H) hm;rw[z]at e;cases e
noncomputable def xf(g h:I0) (L:E5):List (E5×Obj):=(W3 h.objs.size).filterMap fun a=>if a=L∨(g.get? a).isSome=true then none else(h.get? a).map fun o=>(a,o)
def rest(g h:I0) (L d:E5):List (E5×Obj):=(xf g h L).filter fun p=>decide (p.1≠d)
structure Mod(K:u8) (mg:Str->Option s0) (base:I0):Prop where
 kin:K.In base
 glob:base.Ns F9 mg
 blt:∃mb,base.Ns builtinsNs mb/\∀x:Str,x≠"__name__"->mb x=V8 x
 nolimit:base.NoLimit
structure Cx where
 prog:J4
 w:O3
 K:u8
 mg:Str->Option s0
 base:I0
 A:L8
 N:List Str
 s₀:E2
 H₀:Hp
 env:Env
 outer:List Env
 stack:List Env
 ex:List E5
 fn:Str->Bool
 calm:Bool
 pn:List (E5×Obj)
 xe:s0->E2->Prop
def frs(l:List Env):List E5:=l.filterMap (·.frame)
abbrev Cx.fs(X:Cx):List E5:=frs X.outer
def Vis(sc:aa5) (x:Str):Prop:=sc.names.lookup x=some .local∨sc.names.lookup x=some .cell∨sc.names.lookup x=some .free
def Loc(sc:aa5) (x:Str):Prop:=sc.names.lookup x=some .local∨sc.names.lookup x=some .cell
def DW(env:Env) (h:I0) (m:Str->Option s0) (x:Str) (u:s0):Prop :=
 (env.kindOf x=some .local/\m x=some u)∨((env.kindOf x=some .cell∨env.kindOf x=some .free)/\∃c,env.cells.lookup x=some c/\h.IsCell c (some u))
structure Cx.Ok(X:Cx):Prop where
 mod:Mod X.K X.mg X.base
 kind:X.env.scope.kind=.function
 glob:X.env.globals=F9
 blt:X.env.builtins=builtinsNs
 above:X.s₀.heap.objs.size<=X.env.locals
 inj:∀x y c,X.env.cells.lookup x=some c->X.env.cells.lookup y=some c->x=y
 has:∀x,(X.env.kindOf x=some .cell∨X.env.kindOf x=some .free)->∃c,X.env.cells.lookup x=some c
 cab:∀x c,X.fn x=true->X.env.cells.lookup x=some c->X.s₀.heap.objs.size<=c
 hd:X.calm=true->X.A.handled=none
 frames:X.A.frames=some X.stack
 stk:X.stack=X.outer∨(X.stack=X.env::X.outer/\X.env.frame=some X.env.locals)
 exf:∀b∈X.ex,b≠X.env.locals/\∀x c,X.env.cells.lookup x=some c->c≠b
 bs:∀b o,X.base.get? b=some o->X.s₀.heap.get? b=some o/\X.H₀ b=none
 bsz:X.base.objs.size<=X.s₀.heap.objs.size
 noex:∀b o,X.base.get? b=some o->b∉X.ex
 exfs:∀b∈X.ex,b∉X.fs
 funs:X.s₀.heap.FunFrames X.base X.outer
 frf:∀b∈X.fs,X.H₀ b=none
structure Inv(X:Cx) (aa:List (E5×Obj)) (σ:List (Option V)) (H:Hp) (s:E2):Prop where
 ok:X.Ok
 os:s.os=X.s₀.os
 bare:ai4 s.gens
 base:Un X.fs X.ex X.H₀ H X.s₀.heap s.heap
 loc:∃m,s.heap.Ns X.env.locals m/\∀(i:Nat) (x:Str) (v:V),X.N[i]?=some x->σ[i]?=some (some v)->Vis X.env.scope x->∃u,aF v u/\DW X.env s.heap m x u
 cell:∀x c,X.env.cells.lookup x=some c->∃v,s.heap.IsCell c v
 free:H X.env.locals=none
 freeC:∀x c,X.env.cells.lookup x=some c->H c=none
 pin:∀p∈X.pn++aa,s.heap.get? p.1=some p.2/\H p.1=none/\p.1≠X.env.locals/\p.1∉X.fs/\∀v,p.2.data≠.cell v
 hok:HOk X.prog X.w H s.heap
 len:σ.length=X.N.length
section
variable{X:Cx}{aa:List (E5×Obj)}{σ:List (Option V)}{H H':Hp}{s:E2}{h':I0}
theorem Cx.Ok.nofr(ok:X.Ok) {b:E5}{o:Obj}(e:X.base.get? b=some o):b∉X.fs:=fun hb=>by
 have:=(ok.funs.mem hb).1;rw[e]at this;cases this
theorem Inv.bs(I:Inv X aa σ H s):∀b o,X.base.get? b=some o->s.heap.get? b=some o/\H b=none:=fun b o e =>
 ⟨I.base.keep b o (I.ok.bs b o e).1 (I.ok.bs b o e).2 (I.ok.nofr e) (I.ok.noex b o e),I.base.free b o (I.ok.bs b o e).1 (I.ok.bs b o e).2 (I.ok.noex b o e)⟩
theorem Inv.bk(I:Inv X aa σ H s):∀b o,X.base.get? b=some o->s.heap.get? b=some o:=fun b o e=>(I.bs b o e).1
theorem Inv.mod(I:Inv X aa σ H s):Mod X.K X.mg X.base:=I.ok.mod
theorem Inv.kIn(I:Inv X aa σ H s):X.K.In s.heap:=I.ok.mod.kin.keeps I.bk
theorem Inv.lt(I:Inv X aa σ H s):X.env.locals<s.heap.objs.size:=let⟨_,hn,_⟩:=I.loc;hn.lt
theorem Inv.sz(I:Inv X aa σ H s):X.s₀.heap.objs.size<=s.heap.objs.size:=Q0 I.ok.above (ak1 I.lt)
theorem Inv.nofs(I:Inv X aa σ H s) {a:E5}(h:s.heap.objs.size<=a):a∉X.fs:=fun hb=>by
 obtain⟨_,o,ho,_⟩:=I.ok.funs.mem hb;exact absurd (J6 (F2 ho) (Q0 I.sz h)) (S8 _)
theorem Inv.cne(I:Inv X aa σ H s):∀x c,X.env.cells.lookup x=some c->c≠X.env.locals:=fun x c e z=>by
 obtain⟨v,o,ho,hd⟩:=I.cell x c e;obtain⟨m,⟨o',es,ep,ho',hd',_⟩,_⟩:=I.loc;rw[z,ho']at ho;cases ho;rw[hd']at hd;cases hd
theorem Inv.funs(I:Inv X aa σ H s):s.heap.FunFrames X.base X.outer:=by
 have all:∀(l:List Env),(∀b∈frs l,b∈X.fs)->X.s₀.heap.FunFrames X.base l->s.heap.FunFrames X.base l:=by
  intro l
  induction l with
  |nil=>intro _ _;trivial
  |cons env r ih =>
   intro hs hl;obtain⟨hk,⟨L,o,hf,hn,ho,hd⟩,hr⟩:=hl;have hL:L∈X.fs:=hs L (by unfold frs;rw[X8,hf];exact P0);obtain⟨sl,e⟩:=I.base.slot L o ho (I.ok.frf L hL) hL fun z=>I.ok.exfs L z hL;exact⟨hk,⟨L,_,hf,hn,e,hd⟩,ih (fun b hb=>hs b (by unfold frs;rw[X8,hf];exact F7 _ hb)) hr⟩
 exact all X.outer (fun _ hb=>hb) I.ok.funs
theorem Inv.stack(I:Inv X aa σ H s):s.heap.FunFrames X.base X.stack:=by
 rcases I.ok.stk with e|⟨e,hf⟩
 ·rw[e];exact I.funs
 ·rw[e];obtain⟨m,hn,_⟩:=I.loc;refine .cons (by rw[I.ok.kind];decide) hf hn ?_ I.funs;exact U3 (Q0 I.ok.bsz I.ok.above)
theorem Inv.stkSub(I:Inv X aa σ H s):∀b∈frs X.stack,b∈X.env.locals::X.fs:=fun b hb=>by
 rcases I.ok.stk with e|⟨e,hf⟩
 ·rw[e]at hb;exact F7 _ hb
 ·rw[e]at hb;unfold frs at hb;rw[X8,hf]at hb;exact hb
theorem Inv.stkFree(I:Inv X aa σ H s):∀b∈frs X.stack,H b=none:=fun b hb=>by
 rcases E9.mp (I.stkSub b hb)with e|hb
 ·rw[e];exact I.free
 ·obtain⟨_,o,ho,_⟩:=I.ok.funs.mem hb;exact I.base.free b o ho (I.ok.frf b hb) fun z=>I.ok.exfs b z hb
theorem Inv.step{g':Array al4}{t':Nat}{d':Drawn}{ch:List E5}(I:Inv X aa σ H s)
  (hch:∀b∈ch,(b∈X.ex∨X.s₀.heap.objs.size<=b)/\b≠X.env.locals/\(∀x c,X.env.cells.lookup x=some c->c≠b)/\∀p∈X.pn++aa,p.1≠b)
  (keep:∀b o,b≠X.env.locals->b∉X.fs->b∉ch->s.heap.get? b=some o->H b=none->h'.get? b=some o)
  (slot:∀b o,b≠X.env.locals->b∈X.fs->b∉ch->s.heap.get? b=some o->H b=none->∃sl,h'.get? b=some { o with slots:=sl }) (free:∀b o,b∉ch->s.heap.get? b=some o->H b=none->H' b=none)
  (there:∀b o,b∉ch->s.heap.get? b=some o->∃o',h'.get? b=some o')
  (tups:∀b xs,H b=some (.tup xs)->H' b=some (.tup xs)) (frzs:∀b o u,H b=some (.frz o u)->H' b=some (.frz o u)) (tbls:∀b ps,H b=some (.tbl ps)->∃more,H' b=some (.tbl (ps++more)))
  (ns:∀m,s.heap.Ns X.env.locals m->h'.Ns X.env.locals m) (hok:HOk X.prog X.w H' h') (hg:ai4 g') :
  Inv X aa σ H' { s with heap:=h',gens:=g',drawn:=d',toks:=t' }:=by
 have neL:∀b o,X.s₀.heap.get? b=some o->b≠X.env.locals:=fun b o e=>F8 (J6 (F2 e) I.ok.above);have neC:∀b o,X.s₀.heap.get? b=some o->b∉X.ex->b∉ch:=fun b o e hx hb=>by
  rcases(hch b hb).1 with z|z
  ·exact hx z
  ·exact absurd (J6 (F2 e) z) (S8 _)
 have cellK:∀x c,X.env.cells.lookup x=some c->∀v,s.heap.IsCell c v->h'.IsCell c v:=fun x c e v ⟨o,ho,hd⟩=>by
  have nch:c∉ch:=fun z=>(hch c z).2.2.1 x c e rfl
  by_cases hc:c∈X.fs
  ·obtain⟨sl,q⟩:=slot c o (I.cne x c e) hc nch ho (I.freeC x c e);exact⟨_,q,hd⟩
  ·exact⟨o,keep c o (I.cne x c e) hc nch ho (I.freeC x c e),hd⟩
 refine⟨I.ok,I.os,hg,⟨fun b o e n hb hx=>?_,fun b o e n hb hx=>?_,fun b o e n hx=>?_,fun b o e hx=>?_,fun b xs e=>tups b xs (I.base.tups b xs e),fun b o xs e=>frzs b o xs (I.base.frzs b o xs e),fun b ps e=>?_⟩,?_,fun x c e=>?_,?_,fun x c e=>?_,fun p hp=>?_,hok,I.len⟩
 ·exact keep b o (neL b o e) hb (neC b o e hx) (I.base.keep b o e n hb hx) (I.base.free b o e n hx)
 ·obtain⟨sl,e1⟩:=I.base.slot b o e n hb hx;obtain⟨sl',e2⟩:=slot b _ (neL b o e) hb (neC b o e hx) e1 (I.base.free b o e n hx);exact⟨sl',e2⟩
 ·obtain⟨o',e1⟩:=I.base.there b o e hx;exact free b o' (neC b o e hx) e1 (I.base.free b o e n hx)
 ·obtain⟨o',e1⟩:=I.base.there b o e hx;exact there b o' (neC b o e hx) e1
 ·obtain⟨m1,e1⟩:=I.base.tbls b ps e;obtain⟨m2,e2⟩:=tbls b _ e1;exact⟨m1++m2,by rw[e2,Array.append_assoc]⟩
 ·obtain⟨m,hn,hl⟩:=I.loc;refine⟨m,ns m hn,fun i x v e1 e2 e3=>?_⟩;obtain⟨u,r,l⟩:=hl i x v e1 e2 e3;refine⟨u,r,?_⟩;rcases l with l|⟨k,c,e,z⟩
  ·exact .inl l
  ·exact .inr ⟨k,c,e,cellK x c e _ z⟩
 ·obtain⟨v,z⟩:=I.cell x c e;exact⟨v,cellK x c e v z⟩
 ·obtain⟨m,⟨o,_,_,ho,_⟩,_⟩:=I.loc;exact free _ o (fun z=>(hch _ z).2.1 rfl) ho I.free
 ·obtain⟨v,o,ho,hd⟩:=I.cell x c e;exact free c o (fun z=>(hch c z).2.2.1 x c e rfl) ho (I.freeC x c e)
 ·obtain⟨e,n,ne,nf,d⟩:=I.pin p hp;have nch:p.1∉ch:=fun z=>(hch p.1 z).2.2.2 p hp rfl;exact⟨keep p.1 p.2 ne nf nch e n,free p.1 p.2 nch e n,ne,nf,d⟩
theorem Inv.un{t':Nat}(I:Inv X aa σ H s) (u:Un X.fs [] H H' s.heap h') (hok:HOk X.prog X.w H' h'):Inv X aa σ H' { s with heap:=h',toks:=t' }:=by
 obtain⟨m,⟨o,es,ep,ho,r⟩,_⟩:=id I.loc;obtain⟨sl,hL⟩:=u.any ho I.free (by simp);exact I.step (g':=s.gens) (d':=s.drawn) (ch:=[]) (fun _ z=>nomatch z) (fun b o _ hb _ e n=>u.keep b o e n hb (by simp)) (fun b o _ hb _ e n=>u.slot b o e n hb (by simp)) (fun b o _ e n=>u.free b o e n (by simp)) (fun b o _ e=>u.there b o e (by simp)) u.tups u.frzs u.tbls (fun m' hm=>by
  obtain⟨o',es',ep',ho',r'⟩:=hm;rw[ho]at ho';cases ho';exact⟨_,es',ep',hL,r'⟩) hok I.bare
theorem Inv.call{g':Array al4}{t':Nat}{d':Drawn}{ch:List E5}(I:Inv X aa σ H s) (u:Un (frs X.stack) ch H H' s.heap h') (hok:HOk X.prog X.w H' h') (hg:ai4 g')
  (hch:∀b∈ch,(b∈X.ex∨X.s₀.heap.objs.size<=b)/\b≠X.env.locals/\(∀x c,X.env.cells.lookup x=some c->c≠b)/\∀p∈X.pn++aa,p.1≠b) :
  Inv X aa σ H' { s with heap:=h',gens:=g',drawn:=d',toks:=t' }:=by
 obtain⟨m,⟨o,es,ep,ho,r⟩,_⟩:=id I.loc;obtain⟨sl,hL⟩:=u.any ho I.free fun z=>(hch _ z).2.1 rfl;exact I.step (ch:=ch) hch (fun b o hL hb hc e n=>u.keep b o e n (fun z=>(E9.mp (I.stkSub b z)).elim hL hb) hc) (fun b o _ _ hc e n=>u.any e n hc) (fun b o hc e n=>u.free b o e n hc) (fun b o hc e=>u.there b o e hc) u.tups u.frzs u.tbls (fun m' hm=>by
  obtain⟨o',es',ep',ho',r'⟩:=hm;rw[ho]at ho';cases ho';exact⟨_,es',ep',hL,r'⟩) hok hg
theorem Inv.turned{t':Nat}{it:E5}(I:Inv X aa σ H s) (k:∀b o,b≠it->s.heap.get? b=some o->h'.get? b=some o) (hn:H it=none) (hL:it≠X.env.locals)
  (h1:it∈X.ex∨X.s₀.heap.objs.size<=it) (h2:∀x c,X.env.cells.lookup x=some c->c≠it) (h3:∀p∈X.pn++aa,p.1≠it):Inv X aa σ H { s with heap:=h',toks:=t' }:=by
 have nit:∀b u,H b=some u->b≠it:=fun b u e z=>by rw[z,hn]at e;cases e
 refine I.step (g':=s.gens) (d':=s.drawn) (ch:=[it]) (fun b hb=>?_) (fun b o _ _ hc e _=>k b o (fun z=>hc (by simp[z])) e) (fun b o _ _ hc e _=>⟨o.slots,k b o (fun z=>hc (by simp[z])) e⟩) (fun _ _ _ _ n=>n)
  (fun b o hc e=>⟨o,k b o (fun z=>hc (by simp[z])) e⟩) (fun _ _ e=>e) (fun _ _ _ e=>e) (fun b ps e=>⟨#[],by rw[e];simp⟩) (fun m hm=>?_) (fun b u e=>?_) I.bare
 ·have e:b=it:=by simpa using hb
  subst e;exact⟨h1,hL,h2,h3⟩
 ·obtain⟨o,es,ep,ho,r⟩:=hm;exact⟨o,es,ep,k _ o (M9 hL) ho,r⟩
 ·refine(I.hok b u e).stay (fun c v hc q=>k c v ?_ q) (fun _ q=>q) fun _ _ q=>q;rcases hc with z|z
  ·rw[z];exact nit b u e
  ·exact nit c _ z
theorem Inv.tok(I:Inv X aa σ H s) (t:Nat):Inv X aa σ H { s with toks:=t }:=I.un (h':=s.heap) (t':=t) Un.refl I.hok
theorem Inv.kept{t':Nat}(I:Inv X aa σ H s) (k:∀b u,s.heap.get? b=some u->h'.get? b=some u):Inv X aa σ H { s with heap:=h',toks:=t' }:=I.un (Un.kept k) (I.hok.kept k)
theorem Inv.laid{a:E5}{o:HO}{t':Nat}(I:Inv X aa σ H s) (k:∀b u,s.heap.get? b=some u->h'.get? b=some u) (hp:s.heap.objs.size<=a) (new:bg X.prog X.w (upd H a o) h' a o) :
  Inv X aa σ (upd H a o) { s with heap:=h',toks:=t' }:=I.un (Un.laid k hp (I.hok.fresh hp)) (I.hok.laid k hp new)
theorem Inv.write{x e:E5}{o:HO}{t':Nat}(I:Inv X aa σ H s) (mu:Mut (H x)) (he:e=x∨H e=some (.own x)) (k:∀b u,b≠e->s.heap.get? b=some u->h'.get? b=some u) (heo:∃u,h'.get? e=some u)
  (new:bg X.prog X.w (upd H x o) h' x o):Inv X aa σ (upd H x o) { s with heap:=h',toks:=t' }:=I.un (Un.write mu he k heo) (I.hok.write mu he k heo new)
theorem Inv.pins_of{pins':List (E5×Obj)}(I:Inv X aa σ H s) (h:∀p∈pins',s.heap.get? p.1=some p.2/\H p.1=none/\p.1≠X.env.locals/\p.1∉X.fs/\∀v,p.2.data≠.cell v):Inv X pins' σ H s :=
 ⟨I.ok,I.os,I.bare,I.base,I.loc,I.cell,I.free,I.freeC,fun p hp=>(L9.mp hp).elim (fun z=>I.pin p (U4 _ z)) (h p),I.hok,I.len⟩
theorem jv{N:List Str}(hN:N.Nodup) {i j:Nat}{x:Str}(a:N[i]?=some x) (b:N[j]?=some x):i=j:=by
 obtain⟨h1,e1⟩:=F4.mp a;obtain⟨h2,e2⟩:=F4.mp b;exact(List.getElem_inj hN).mp (e1.trans e2.symm)
theorem ig{M:ao3}{A:L8}{E:s0->E2->Prop}{i:Nat}{x:Str}{v:V}{u:s0}{Q:Unit->E2->Prop}(I:Inv X aa σ H s) (hN:X.N.Nodup) (hi:X.N[i]?=some x) (hx:Loc X.env.scope x) (r:aF v u)
  (h:∀s',Inv X aa (σ.set i (some v)) H s'->(∃a,U6 a s.heap s'.heap/\(a=X.env.locals∨X.env.cells.lookup x=some a))->Q () s') (hf:X.fn x=true∨X.env.scope.names.lookup x=some .local:=by first|exact .inl rfl|exact .inr rfl|assumption):F6 M A (storeName X.env x u) Q E s:=by
 obtain⟨m,hn,hl⟩:=id I.loc;have hcls:(X.env.scope.kind==.class || (X.env.scope.kind==.module&&X.env.locals != X.env.globals))=false:=by rw[I.ok.kind];rfl
 have hiσ:i<σ.length:=by rw[I.len];exact(F4.mp hi).1
 have cne:=I.cne;have tracked:∀{a:E5} {h':I0},(∃o,s.heap.get? a=some o/\H a=none)->U6 a s.heap h'->HOk X.prog X.w H h':=fun {a h'} ha hs b ob e=>by
  obtain⟨_,_,hfree⟩:=ha;refine(I.hok b ob e).stay (fun c w' hc q=>(hs.2 c ?_).trans q) (fun _ q=>q) fun _ _ q=>q;rintro rfl;rcases hc with rfl|hc
  ·rw[hfree]at e;cases e
  ·rw[hfree]at hc;cases hc
 rcases hx with hk|hk
 ·refine wpAny_storeName_local hk hn (fun h' hn' hs=>?_) hcls;obtain⟨oL,_,_,hoL,_⟩:=id hn;refine h _ ⟨I.ok,I.os,I.bare,⟨fun b o e n hb hx=>?_,fun b o e n hb hx=>?_,I.base.free,fun b o e hx=>?_,I.base.tups,I.base.frzs,I.base.tbls⟩,⟨_,hn',fun j y v' e1 e2 e3=>?_⟩,fun y c e=>?_,I.free,I.freeC,fun p hp=>?_,tracked ⟨oL,hoL,I.free⟩ hs,by simpa using I.len⟩ ⟨_,hs,.inl rfl⟩
  ·exact(hs.2 b (F8 (J6 (F2 e) I.ok.above))).trans (I.base.keep b o e n hb hx)
  ·obtain⟨sl,e1⟩:=I.base.slot b o e n hb hx;exact⟨sl,(hs.2 b (F8 (J6 (F2 e) I.ok.above))).trans e1⟩
  ·obtain⟨o',e1⟩:=I.base.there b o e hx;exact⟨o',(hs.2 b (F8 (J6 (F2 e) I.ok.above))).trans e1⟩
  ·by_cases hj:j=i
   ·subst hj;rw[hi]at e1;cases e1;rw[R4 hiσ]at e2;cases e2;exact⟨u,r,.inl ⟨hk,by simp⟩⟩
   ·rw[U5 (M9 hj)]at e2;obtain⟨u',r',q⟩:=hl j y v' e1 e2 e3;refine⟨u',r',?_⟩;rcases q with⟨k,e⟩|⟨k,c,e,z⟩
    ·refine .inl ⟨k,?_⟩;have:y≠x:=fun e=>hj (jv hN e1 (e▸hi));simp[this,e]
    ·exact .inr ⟨k,c,e,z.sameBut hs (cne y c e)⟩
  ·obtain⟨w',z⟩:=I.cell y c e;exact⟨w',z.sameBut hs (cne y c e)⟩
  ·obtain⟨e,n,ne,nf,d⟩:=I.pin p hp;exact⟨(hs.2 p.1 ne).trans e,n,ne,nf,d⟩
 ·have hfn:X.fn x=true:=by
   rcases hf with z|z
   ·exact z
   ·rw[z]at hk;cases hk
  obtain⟨c,hc⟩:=I.ok.has x (.inl hk);obtain⟨w',z⟩:=I.cell x c hc;refine wpAny_storeName_cell I.ok.kind hk hc z (fun h' hc' hs=>?_);obtain⟨oc,hoc,hocd⟩:=id z;refine h { s with heap:=h' } ⟨I.ok,I.os,I.bare,⟨fun b o e n hb hx=>?_,fun b o e n hb hx=>?_,I.base.free,fun b o e hx=>?_,I.base.tups,I.base.frzs,I.base.tbls⟩,⟨m,hn.sameBut hs (M9 (cne x c hc)),fun j y v' e1 e2 e3=>?_⟩,fun y c' e=>?_,I.free,I.freeC,fun p hp=>?_,tracked ⟨oc,hoc,I.freeC x c hc⟩ hs,by simpa using I.len⟩ ⟨c,hs,.inr hc⟩
  ·exact(hs.2 b (F8 (J6 (F2 e) (I.ok.cab x c hfn hc)))).trans (I.base.keep b o e n hb hx)
  ·obtain⟨sl,e1⟩:=I.base.slot b o e n hb hx;exact⟨sl,(hs.2 b (F8 (J6 (F2 e) (I.ok.cab x c hfn hc)))).trans e1⟩
  ·obtain⟨o',e1⟩:=I.base.there b o e hx;exact⟨o',(hs.2 b (F8 (J6 (F2 e) (I.ok.cab x c hfn hc)))).trans e1⟩
  ·by_cases hj:j=i
   ·subst hj;rw[hi]at e1;cases e1;rw[R4 hiσ]at e2;cases e2;exact⟨u,r,.inr ⟨.inl hk,c,hc,hc'⟩⟩
   ·rw[U5 (M9 hj)]at e2;obtain⟨u',r',q⟩:=hl j y v' e1 e2 e3;refine⟨u',r',?_⟩;rcases q with q|⟨k,c',e,z'⟩
    ·exact .inl q
    ·refine .inr ⟨k,c',e,z'.sameBut hs ?_⟩;rintro rfl;exact hj (jv hN e1 (I.ok.inj _ _ _ e hc▸hi))
  ·by_cases hcc:c'=c
   ·subst hcc;exact⟨_,hc'⟩
   ·obtain⟨w2,z2⟩:=I.cell y c' e;exact⟨w2,z2.sameBut hs hcc⟩
  ·obtain⟨e,n,ne,nf,d⟩:=I.pin p hp;refine⟨(hs.2 p.1 ?_).trans e,n,ne,nf,d⟩;intro q;rw[q,hoc]at e;have q':oc=p.2:=N3 e;exact d w' (by rw[<-q'];exact hocd)
theorem gD{M:ao3}{A:L8}{E:s0->E2->Prop}{i:Nat}{x:Str}{v:V}{u:s0}{Q:Unit->E2->Prop}(I:Inv X aa σ H s) (hN:X.N.Nodup) (hi:X.N[i]?=some x) (hx:Loc X.env.scope x) (r:aF v u)
  (h:∀s',Inv X aa (σ.set i (some v)) H s'->Q () s') (hf:X.fn x=true∨X.env.scope.names.lookup x=some .local:=by first|exact .inl rfl|exact .inr rfl|assumption):F6 M A (storeName X.env x u) Q E s :=
 ig I hN hi hx r (fun s' I' _=>h s' I') hf
theorem Inv.call'{s':E2}{ch:List E5}(I:Inv X aa σ H s) (ho:s'.os=s.os) (u:Un (frs X.stack) ch H H' s.heap s'.heap) (hok:HOk X.prog X.w H' s'.heap) (hg:ai4 s'.gens)
  (hch:∀b∈ch,(b∈X.ex∨X.s₀.heap.objs.size<=b)/\b≠X.env.locals/\(∀x c,X.env.cells.lookup x=some c->c≠b)/\∀p∈X.pn++aa,p.1≠b):Inv X aa σ H' s':=by
 obtain⟨h',g',d',t',o'⟩:=s';have e:o'=s.os:=ho;subst e;exact I.call (g':=g') (t':=t') (d':=d') u hok hg hch
end
abbrev XK:=s0->Option E5->Hp->Prop
noncomputable abbrev St:=List (Option V)
abbrev VK:=V->Hp->Prop
abbrev TE:=St->Hp->VK->Prop
abbrev TT:=St->Hp->(Bool->Hp->Prop)->Prop
abbrev TA:=St->Hp->(List V->Hp->Prop)->Prop
structure kB where
 nx:St->Hp->Prop
 rt:VK
 bk:St->Hp->Prop:=fun _ _=>False
 ct:St->Hp->Prop:=fun _ _=>False
abbrev TS:=kB->St->Hp->Prop
def EP(X:Cx) (aa:List (E5×Obj)) (σ:St) (Q:VK) (u:s0) (s':E2):Prop:=∃v H',Inv X aa σ H' s'/\aF v u/\Q v H'
def TP(X:Cx) (aa:List (E5×Obj)) (σ:St) (Q:Bool->Hp->Prop) (b:Bool) (s':E2):Prop:=∃H',Inv X aa σ H' s'/\Q b H'
def AP(X:Cx) (aa:List (E5×Obj)) (σ:St) (Q:List V->Hp->Prop) (us:List s0) (s':E2):Prop:=∃vs H',Inv X aa σ H' s'/\ax vs us/\Q vs H'
theorem EP.el{X:Cx}{aa:List (E5×Obj)}{σ:St}{Q:VK}{u:s0}{s:E2}{P:Prop}(h:EP X aa σ Q u s) (f:∀(v:V) (H:Hp),Inv X aa σ H s->aF v u->Q v H->P):P:=by
 obtain⟨x1,x2,a,b,c⟩:=h;exact f x1 x2 a b c
theorem AP.el{X:Cx}{aa:List (E5×Obj)}{σ:St}{Q:List V->Hp->Prop}{u:List s0}{s:E2}{P:Prop}(h:AP X aa σ Q u s) (f:∀(v:List V) (H:Hp),Inv X aa σ H s->ax v u->Q v H->P):P:=by
 obtain⟨x1,x2,a,b,c⟩:=h;exact f x1 x2 a b c
theorem TP.el{X:Cx}{aa:List (E5×Obj)}{σ:St}{Q:Bool->Hp->Prop}{u:Bool}{s:E2}{P:Prop}(h:TP X aa σ Q u s) (f:∀(H:Hp),Inv X aa σ H s->Q u H->P):P:=by
 obtain⟨x1,a,b⟩:=h;exact f x1 a b
def SP(X:Cx) (aa:List (E5×Obj)) (D:kB) (f:Flow) (s':E2):Prop :=
 match f with
 |.next=>∃ σ' H',Inv X aa σ' H' s'/\D.nx σ' H'
 |.brk=>∃ σ' H',Inv X aa σ' H' s'/\D.bk σ' H'
 |.cont=>∃ σ' H',Inv X aa σ' H' s'/\D.ct σ' H'
 |.ret u=>∃v σ' H',Inv X aa σ' H' s'/\aF v u/\D.rt v H'
def PE(X:Cx) (e:K4) (t:TE):Prop :=
 ∀(aa:List (E5×Obj)) (s:E2) (σ:St) (H:Hp) (Q:VK),Inv X aa σ H s->t σ H Q->F6 (J9 X.prog X.w) X.A (Z4 e X.env) (EP X aa σ Q) X.xe s
def PT(X:Cx) (e:K4) (t:TT):Prop :=
 ∀(aa:List (E5×Obj)) (s:E2) (σ:St) (H:Hp) (Q:Bool->Hp->Prop),Inv X aa σ H s->t σ H Q->F6 (J9 X.prog X.w) X.A (isTrue e X.env (Z4 e X.env)) (TP X aa σ Q) X.xe s
def PW(X:Cx) (e:K4) (t:TT):Prop :=
 ∀(whole:Sem s0) (aa:List (E5×Obj)) (s:E2) (σ:St) (H:Hp) (Q:Bool->Hp->Prop),Inv X aa σ H s->t σ H Q->F6 (J9 X.prog X.w) X.A (isTrue e X.env whole) (TP X aa σ Q) X.xe s
theorem PW.pt{X:Cx}{e:K4}{t:TT}(h:PW X e t):PT X e t:=h _
def PA(X:Cx) (es:List K4) (t:TA):Prop :=
 ∀(pos:Pos) (aa:List (E5×Obj)) (s:E2) (σ:St) (H:Hp) (Q:List V->Hp->Prop),Inv X aa σ H s->t σ H Q->F6 (J9 X.prog X.w) X.A (spliced (V0 pos (E8 es X.env))) (AP X aa σ Q) X.xe s
def PS(X:Cx) (st:Z7) (t:TS):Prop :=
 ∀(aa:List (E5×Obj)) (s:E2) (σ:St) (H:Hp) (D:kB),Inv X aa σ H s->t D σ H->F6 (J9 X.prog X.w) X.A (exec st X.env) (SP X aa D) X.xe s
def PSs(X:Cx) (st:List Z7) (t:TS):Prop :=
 ∀(aa:List (E5×Obj)) (s:E2) (σ:St) (H:Hp) (D:kB),Inv X aa σ H s->t D σ H->F6 (J9 X.prog X.w) X.A (execs st X.env) (SP X aa D) X.xe s
theorem thn{α:Type}{t:Sem α}{Q Q':α->E2->Prop}{M:ao3}{A:L8}{E:s0->E2->Prop}{s:E2}(h:F6 M A t Q E s) (hQ:∀a s,Q a s->Q' a s):F6 M A t Q' E s:=L5 h hQ fun _ _ x=>x
section
variable{X:Cx}
def sV(i:Nat):TE:=fun σ H Q=>∃v,σ[i]?=some (some v)/\Q v H
def tC(v:V):TE:=fun _ H Q=>Q v H
theorem uX{i:Nat}{x:Str}{pos:Pos}(hN:X.N[i]?=some x) (hv:Vis X.env.scope x) (hd:(x==("__debug__":Str))=false:=by decide) (hcd:(x==("__classdict__":Str))=false:=by decide):PE X (.Name x pos) (sV i):=by
 intro aa s σ H Q I h;obtain⟨v,e,h⟩:=h;obtain⟨m,hn,hl⟩:=I.loc;obtain⟨u,r,l⟩:=hl i x v hN e hv;have fin:EP X aa σ Q u s:=⟨v,H,I,r,h⟩;rcases l with⟨hk,hm⟩|⟨hk,c,hc,hcell⟩
 ·exact wpAny_Name (wpAny_loadName_local I.ok.kind hk hn hm fin) hd
 ·rcases hk with hk|hk
  ·exact wpAny_Name (wpAny_loadName_cell I.ok.kind hk hc hcell fin) hd
  ·exact wpAny_Name (wpAny_loadName_free I.ok.kind hk hc hcell fin hcd) hd
theorem zW{i j pos}:PE X (.Constant (.int i) j pos) (tC (.int i)):=fun _ _ _ H _ I h=>wpAny_Constant_int ⟨.int i,H,I.tok _,⟨_,rfl⟩,h⟩
theorem Cc{b j pos}:PE X (.Constant (.bool b) j pos) (tC (.bl b)):=fun _ _ _ H _ I h=>Constant_bool ⟨.bl b,H,I,rfl,h⟩
theorem Bk{j pos}:PE X (.Constant .none j pos) (tC .non):=fun _ _ _ H _ I h=>Constant_none ⟨.non,H,I,rfl,h⟩
theorem vB{x j pos}:PE X (.Constant (.str x) j pos) (tC (.str x)):=fun _ _ _ H _ I h=>Calls.Constant_str ⟨.str x,H,I.tok _,⟨_,rfl⟩,h⟩
def Gl(X:Cx) (x:Str):Prop:=X.env.kindOf x=some .globalImplicit
theorem fM{E:s0->E2->Prop}{aa:List (E5×Obj)}{s:E2}{σ:St}{H:Hp}{x:Str}{u:s0}{pos:Pos}{Q:s0->E2->Prop}(I:Inv X aa σ H s) (hg:Gl X x) (hm:X.mg x=some u) (h:Q u s)
  (hd:(x==("__debug__":Str))=false:=by decide):F6 (J9 X.prog X.w) X.A (Z4 (.Name x pos) X.env) Q E s :=
 Calls.Name_function_global I.ok.kind hg (Calls.loadGlobal_global (by rw[I.ok.glob];exact I.mod.glob.keeps I.bk) hm h) hd
theorem ij{E:s0->E2->Prop}{aa:List (E5×Obj)}{s:E2}{σ:St}{H:Hp}{x:Str}{u:s0}{pos:Pos}{Q:s0->E2->Prop}(I:Inv X aa σ H s) (hg:Gl X x) (hm:X.mg x=none) (hv:V8 x=some u) (h:Q u s)
  (hn:x≠"__name__":=by decide) (hd:(x==("__debug__":Str))=false:=by decide):F6 (J9 X.prog X.w) X.A (Z4 (.Name x pos) X.env) Q E s:=by
 obtain⟨mb,h1,h2⟩:=I.mod.blt;exact Calls.Name_function_global I.ok.kind hg (Calls.loadGlobal_builtin (by rw[I.ok.glob];exact I.mod.glob.keeps I.bk) hm (by rw[I.ok.blt];exact h1.keeps I.bk) ((h2 x hn).trans hv) h) hd
theorem jd{x:Str}{v:V}{u:s0}{pos:Pos}(hg:Gl X x) (hm:X.mg x=some u) (r:aF v u) (hd:(x==("__debug__":Str))=false:=by decide):PE X (.Name x pos) (tC v) :=
 fun _ _ _ H _ I h=>fM I hg hm ⟨v,H,I,r,h⟩ hd
theorem qH{x:Str}{v:V}{u:s0}{pos:Pos}(hg:Gl X x) (hm:X.mg x=none) (hv:V8 x=some u) (r:aF v u) (hn:x≠"__name__":=by decide) (hd:(x==("__debug__":Str))=false:=by decide):PE X (.Name x pos) (tC v) :=
 fun _ _ _ H _ I h=>ij I hg hm hv ⟨v,H,I,r,h⟩ hn hd
variable{a b:K4}{ta tb:TE}{pos:Pos}
def PC(X:Cx) (op:am9) (a b:K4) (t:TE):Prop :=
 ∀(aa:List (E5×Obj)) (s:E2) (σ:St) (H:Hp) (Q:VK),Inv X aa σ H s->t σ H Q ->
  F6 (J9 X.prog X.w) X.A (Z4 a X.env) (fun v s₁=>F6 (J9 X.prog X.w) X.A (Z4 b X.env) (fun u s₂=>F6 (J9 X.prog X.w) X.A (Q9 op v u) (EP X aa σ Q) X.xe s₂) X.xe s₁) X.xe s
theorem jO(b:K4) {op:am9}(h:op≠.In) (h2:op≠.NotIn):T6 op b=false:=by
 have e1:(op==am9.In)=false:=by cases op<;>first|rfl|exact absurd rfl h
 have e2:(op==am9.NotIn)=false:=by cases op<;>first|rfl|exact absurd rfl h2
 cases b<;>simp[T6,e1,e2]
def tB(t:TE):TT:=fun σ H Q=>t σ H fun x H1=>∃c,x=.bl c/\Q c H1
theorem Az{op:am9}{t:TE}(h:PC X op a b t) (h1:T6 op b=false:=by first|exact jO _ (by decide) (by decide)|rfl):PE X (.Compare a [op] [b] pos) t:=fun aa s σ H Q I hw=>wpAny_Compare1 (h aa s σ H Q I hw) h1
theorem wa{op:am9}{t:TE}(h:PC X op a b t) (h1:T6 op b=false:=by first|exact jO _ (by decide) (by decide)|rfl):PT X (.Compare a [op] [b] pos) (tB t):=by
 intro aa s σ H Q I hw;refine wpAny_isTrue_Compare1 (thn (h aa s σ H _ I hw) fun v s1 h1=>thn h1 fun u s2 h2=>thn h2 fun c s3 hup=>hup.el fun x H1 I1 r1 q1=>?_) h1;obtain⟨d,rfl,q⟩:=q1;cases r1;exact ab7 ⟨H1,I1,q⟩
theorem zG{e:K4}{t:TE}(h:PE X e t) (he:∀whole,isTrue e X.env whole=(do let v <-whole;am0 e.pos;aj3 [v] (truthy v)):=by intro _;rfl):PT X e (tB t):=by
 intro aa s σ H Q I hw;refine isTrue_plain (thn (h aa s σ H _ I hw) fun v s1 hup=>hup.el fun x H1 I1 r1 q1=>?_) (he _);obtain⟨d,rfl,q⟩:=q1;cases r1;exact ab7 ⟨H1,I1,q⟩
variable{tA tB':TT}{rest:List K4}
def DU(t u:TT):TT:=fun σ H Q=>t σ H fun c H1=>if c=true then u σ H1 Q else Q false H1
def tOr(t u:TT):TT:=fun σ H Q=>t σ H fun c H1=>if c=true then Q true H1 else u σ H1 Q
def DB(t:TT):TT:=fun σ H Q=>t σ H fun c H1=>Q (!c) H1
theorem xk(ha:PT X a tA):PW X (.BoolOp .And [a] pos) tA:=by
 intro wh aa s σ H Q I h;refine isTrue_and (thn (ha aa s σ H Q I h) fun c s1 e=>?_);cases c with
 |true=>exact isTrue_and_nil e
 |false=>exact e
theorem Bu(ha:PT X a tA):PW X (.BoolOp .Or [a] pos) tA:=by
 intro wh aa s σ H Q I h;refine isTrue_or (thn (ha aa s σ H Q I h) fun c s1 e=>?_);cases c with
 |false=>exact isTrue_or_nil e
 |true=>exact e
theorem AL(ha:PT X a tA) (hb:PW X (.BoolOp .And (b::rest) pos) tB'):PW X (.BoolOp .And (a::b::rest) pos) (DU tA tB'):=by
 intro wh aa s σ H Q I h;refine isTrue_and (thn (ha aa s σ H _ I h) fun c s1 hup=>hup.el fun H1 I1 q1=>?_);cases c with
 |true=>exact hb wh aa s1 σ H1 Q I1 q1
 |false=>exact⟨H1,I1,q1⟩
theorem CL(ha:PT X a tA) (hb:PW X (.BoolOp .Or (b::rest) pos) tB'):PW X (.BoolOp .Or (a::b::rest) pos) (tOr tA tB'):=by
 intro wh aa s σ H Q I h;refine isTrue_or (thn (ha aa s σ H _ I h) fun c s1 hup=>hup.el fun H1 I1 q1=>?_);cases c with
 |true=>exact⟨H1,I1,q1⟩
 |false=>exact hb wh aa s1 σ H1 Q I1 q1
theorem AM(ha:PT X a tA):PT X (.UnaryOp .Not a pos) (DB tA):=by
 intro aa s σ H Q I h;exact isTrue_not (ha aa s σ H (fun c H1=>Q (!c) H1) I h)
def BG(ta tb:TE):TE:=fun σ H Q=>ta σ H fun x H1=>∃c,x=.bl c/\if c=true then tb σ H1 Q else Q (.bl false) H1
theorem AS{op}{t:TE}(h:PE X a t):PE X (.BoolOp op [a] pos) t:=fun aa s σ H Q I hw=>BoolOp_one (h aa s σ H Q I hw)
theorem A8(ha:PE X a ta) (hb:PE X (.BoolOp .And (b::rest) pos) tb):PE X (.BoolOp .And (a::b::rest) pos) (BG ta tb):=by
 intro aa s σ H Q I h;refine BoolOp_and (thn (ha aa s σ H _ I h) fun v s1 hup=>hup.el fun x H1 I1 r1 q1=>?_);obtain⟨c,rfl,q1⟩:=q1;cases r1;refine ab7 ?_;cases c with
 |true=>exact hb aa s1 σ H1 Q I1 q1
 |false=>exact⟨.bl false,H1,I1,rfl,q1⟩
end
def SqL(K:u8) (H:Hp) (a:E5) (xs:List V):Prop :=
 Rd H a (.lst xs) ∨
  ∃(o:Obj) (its:Array s0) (n:Nat),K.lookup a=some o/\o.cls=.type "list"/\o.dict=none/\o.data=.seq its n/\its.size<=E4/\ax xs its.toList
def SqT(K:u8) (H:Hp) (a:E5) (xs:List V):Prop :=
 Rd H a (.tup xs) ∨
  ∃(o:Obj) (its:Array s0) (n:Nat),K.lookup a=some o/\(o.cls=.type "tuple"/\o.dict=none)/\o.data=.seq its n/\its.size<=E4/\ax xs its.toList
noncomputable def D5:s0->Option V
 |.none=>some .non
 |.bool b=>some (.bl b)
 |.int i _=>some (.int i)
 |.str x _=>some (.str x)
 |.bytes b _=>some (.byt b)
 |.float b _=>some (.flt b)
 |.ref a=>some (.ref a)
 |.type n=>some (.ty n)
 |_=>none
theorem aF.abs{x:V}{u:s0}(r:aF x u):D5 u=some x:=by
 cases x with
 |non=>cases r;rfl
 |bl _=>cases r;rfl
 |int _=>obtain⟨t,rfl⟩:=r;rfl
 |str _=>obtain⟨t,rfl⟩:=r;rfl
 |byt _=>obtain⟨t,rfl⟩:=r;rfl
 |flt _=>obtain⟨t,rfl⟩:=r;rfl
 |ref _=>cases r;rfl
 |ty _=>cases r;rfl
theorem aF.inj{x y:V}{u:s0}(r:aF x u) (q:aF y u):x=y:=N3 (r.abs.symm.trans q.abs)
theorem ax.inj:∀{xs ys:List V}{us:List s0},ax xs us->ax ys us->xs=ys
 |_,_,_,.nil,.nil=>rfl
 |_,_,_,.cons r t,.cons r' t'=>by rw[r.inj r',ax.inj t t']
section
variable{X:Cx}{aa:List (E5×Obj)}{σ:St}{H:Hp}{s:E2}{a:E5}{xs ys:List V}
theorem SqL.of{K:u8}(h:H a=some (.lst xs)):SqL K H a xs:=.inl (.inl h)
theorem SqT.of{K:u8}(h:H a=some (.tup xs)):SqT K H a xs:=.inl (.inl h)
theorem Inv.list(I:Inv X aa σ H s) (h:SqL X.K H a xs):∃its:List s0,ax xs its/\PlainL s.heap a its.toArray/\xs.length<=E4:=by
 rcases h with h|⟨o,its,n,hk,hc,hd,hs,hz,r⟩
 ·obtain⟨z,its,n,r,e⟩:=h.ok I.hok;exact⟨its,r,⟨_,n,e,rfl,rfl,rfl⟩,z⟩
 ·refine⟨its.toList,r,⟨o,n,I.kIn a o hk,hc,hd,by simpa using hs⟩,?_⟩;have e:=r.length;simp only[X9]at e
  lia
theorem Inv.tuple(I:Inv X aa σ H s) (h:SqT X.K H a xs):∃its:List s0,ax xs its/\am8 s.heap a its.toArray/\xs.length<=E4:=by
 rcases h with h|⟨o,its,n,hk,hc,hs,hz,r⟩
 ·obtain⟨z,its,r,p⟩:=h.ok I.hok;exact⟨its,r,p.tup,z⟩
 ·refine⟨its.toList,r,⟨o,I.kIn a o hk,hc.1,n,by simpa using hs⟩,?_⟩;have e:=r.length;simp only[X9]at e
  lia
theorem Inv.tupN(I:Inv X aa σ H s) (h:SqT X.K H a xs):∃its:List s0,ax xs its/\gf s.heap a its.toArray/\xs.length<=E4:=by
 rcases h with h|⟨o,its,n,hk,hc,hs,hz,r⟩
 ·obtain⟨z,its,r,p⟩:=h.ok I.hok;exact⟨its,r,p,z⟩
 ·refine⟨its.toList,r,⟨o,I.kIn a o hk,hc.1,⟨n,by simpa using hs⟩,hc.2⟩,?_⟩;have e:=r.length;have e2:its.toList.length=its.size:=X9
  lia
theorem Inv.list_inj(I:Inv X aa σ H s) (h:SqL X.K H a xs) (h':SqL X.K H a ys):xs=ys:=by
 obtain⟨its,r,⟨o,n,e,_,_,d⟩,_⟩:=I.list h;obtain⟨its',r',⟨o',n',e',_,_,d'⟩,_⟩:=I.list h';rw[e]at e';cases e';rw[d]at d';injection d' with d1 _
 have:its=its':=by simpa using congrArg Array.toList d1
 subst this;exact r.inj r'
theorem Inv.tuple_inj(I:Inv X aa σ H s) (h:SqT X.K H a xs) (h':SqT X.K H a ys):xs=ys:=by
 obtain⟨its,r,⟨o,e,_,n,d⟩,_⟩:=I.tuple h;obtain⟨its',r',⟨o',e',_,n',d'⟩,_⟩:=I.tuple h';rw[e]at e';cases e';rw[d]at d';injection d' with d1 _
 have:its=its':=by simpa using congrArg Array.toList d1
 subst this;exact r.inj r'
end
abbrev Cx.wish(X:Cx) (E:s0->E2->Prop):Cx:={ X with xe:=E }
abbrev Cx.nox(X:Cx):Cx:=X.wish fun _ _=>False
theorem Cx.Ok.wish{X:Cx}(ok:X.Ok) (E:s0->E2->Prop):(X.wish E).Ok :=
 ⟨ok.mod,ok.kind,ok.glob,ok.blt,ok.above,ok.inj,ok.has,ok.cab,ok.hd,ok.frames,ok.stk,ok.exf,ok.bs,ok.bsz,ok.noex,ok.exfs,ok.funs,ok.frf⟩
theorem Cx.Ok.unwish{X:Cx}{E:s0->E2->Prop}(ok:(X.wish E).Ok):X.Ok :=
 ⟨ok.mod,ok.kind,ok.glob,ok.blt,ok.above,ok.inj,ok.has,ok.cab,ok.hd,ok.frames,ok.stk,ok.exf,ok.bs,ok.bsz,ok.noex,ok.exfs,ok.funs,ok.frf⟩
section
variable{X:Cx}{aa:List (E5×Obj)}{σ:St}{H:Hp}{s:E2}{E:s0->E2->Prop}
theorem Inv.wish(I:Inv X aa σ H s) (E:s0->E2->Prop):Inv (X.wish E) aa σ H s:=⟨I.ok.wish E,I.os,I.bare,I.base,I.loc,I.cell,I.free,I.freeC,I.pin,I.hok,I.len⟩
theorem Inv.unwish(I:Inv (X.wish E) aa σ H s):Inv X aa σ H s:=⟨I.ok.unwish,I.os,I.bare,I.base,I.loc,I.cell,I.free,I.freeC,I.pin,I.hok,I.len⟩
theorem SP.unwish{D:kB}{f:Flow}{s':E2}(h:SP (X.wish E) aa D f s'):SP X aa D f s':=by
 cases f with
 |next=>obtain⟨σ',H',I,q⟩:=h;exact⟨σ',H',I.unwish,q⟩
 |brk=>obtain⟨σ',H',I,q⟩:=h;exact⟨σ',H',I.unwish,q⟩
 |cont=>obtain⟨σ',H',I,q⟩:=h;exact⟨σ',H',I.unwish,q⟩
 |ret u=>obtain⟨v,σ',H',I,r,q⟩:=h;exact⟨v,σ',H',I.unwish,r,q⟩
theorem PSs.nox{st:List Z7}{t:TS}(h:PSs X.nox st t):PSs X st t:=fun aa s σ H D I hw =>
 L5 (h aa s σ H D (I.wish _) hw) (fun _ _ q=>q.unwish) fun _ _ z=>Q6 z
end
section
variable{X:Cx}{st:Z7}{rest:List Z7}{t u:TS}{e:K4}{te:TE}{pos:Pos}
def Cn:TS:=fun D σ H=>D.nx σ H
def DG(t u:TS):TS:=fun D σ H=>t { D with nx:=u D } σ H
theorem qY:PSs X [] Cn:=fun _ _ σ H _ I h=>ab8 ⟨σ,H,I,h⟩
theorem jo(h1:PS X st t) (h2:PSs X rest u):PSs X (st::rest) (DG t u):=by
 intro aa s σ H D I h;refine af0 (thn (h1 aa s σ H { D with nx:=u D } I h) fun f s1 q=>?_);cases f with
 |next =>
  obtain⟨σ',H',I',q⟩:=q;exact h2 aa s1 σ' H' D I' q
 |ret v=>exact q
 |brk=>exact q
 |cont=>exact q
theorem mP(h1:PS X st t):PSs X [st] t:=by
 intro aa s σ H D I h;refine af0 (thn (h1 aa s σ H D I h) fun f s1 q=>?_);cases f with
 |next=>exact ab8 q
 |ret v=>exact q
 |brk=>exact q
 |cont=>exact q
theorem Inv.quiet{aa:List (E5×Obj)}{σ:St}{H:Hp}{s:E2}(I:Inv X aa σ H s):interactive X.env=false:=by simp[interactive,I.ok.kind]
def BZ(te:TE):TS:=fun D σ H=>te σ H fun _ H1=>D.nx σ H1
theorem qG(he:PE X e te) (hs:Z0 e none pos.line X.env=ad0 false:=by rfl):PS X (.Expr e pos) (BZ te):=by
 intro aa s σ H D I h;exact wpAny_Expr_any (thn (he aa s σ H _ I h) fun v s1 hup=>hup.el fun x H1 I1 r1 q1=>⟨σ,H1,I1,q1⟩) I.quiet hs
def DN(te:TE):TS:=fun D σ H=>te σ H D.rt
theorem mr(he:PE X e te):PS X (.Return (some e) pos) (DN te):=by
 intro aa s σ H D I h;exact wpAny_Return_some (thn (he aa s σ H _ I h) fun v s1 hup=>hup.el fun x H1 I1 r1 q1=>⟨x,σ,H1,I1,r1,q1⟩)
def DF(c:TT) (t u:TS):TS:=fun D σ H=>c σ H fun b H1=>if b=true then t D σ H1 else u D σ H1
theorem zf{c:K4}{a b:List Z7}{tc:TT}(hc:PT X c tc) (ha:PSs X a t) (hb:PSs X b u):PS X (.If c a b pos) (DF tc t u):=by
 intro aa s σ H D I h;refine wpAny_If (thn (hc aa s σ H _ I h) fun d s1 hup=>hup.el fun H1 I1 q1=>?_);cases d with
 |true=>exact ha aa s1 σ H1 D I1 q1
 |false=>exact hb aa s1 σ H1 D I1 q1
end
abbrev TG:=V->St->Hp->(St->Hp->Prop)->Prop
abbrev TGs:=List V->St->Hp->(St->Hp->Prop)->Prop
def PG(X:Cx) (target:K4) (t:TG):Prop :=
 ∀(aa:List (E5×Obj)) (s:E2) (σ:St) (H:Hp) (v:V) (u:s0) (Q:St->Hp->Prop),Inv X aa σ H s->aF v u->t v σ H Q ->
  F6 (J9 X.prog X.w) X.A (af7 target X.env u) (fun _ s'=>∃ σ' H',Inv X aa σ' H' s'/\Q σ' H') X.xe s
def PGs(X:Cx) (ts:List K4) (t:TGs):Prop :=
 ∀(aa:List (E5×Obj)) (s:E2) (σ:St) (H:Hp) (vs:List V) (us:List s0) (Q:St->Hp->Prop),Inv X aa σ H s->ax vs us->t vs σ H Q ->
  F6 (J9 X.prog X.w) X.A (assignInOrder ((V2 ts X.env).map (·.2)) us) (fun _ s'=>∃ σ' H',Inv X aa σ' H' s'/\Q σ' H') X.xe s
abbrev Ax:=V->V->V->Hp->(Hp->Prop)->Prop
def CW(X:Cx) (t:Ax):Prop :=
 ∀(aa:List (E5×Obj)) (s:E2) (σ:St) (H:Hp) (o i v:V) (ov iv u:s0) (Q:Hp->Prop),Inv X aa σ H s->aF o ov->aF i iv->aF v u->t o i v H Q ->
  F6 (J9 X.prog X.w) X.A (setItem ov iv u) (fun _ s'=>∃H',Inv X aa σ H' s'/\Q H') X.xe s
section
variable{X:Cx}{pos:Pos}
def nX(i:Nat):TG:=fun v σ H Q=>Q (σ.set i (some v)) H
theorem qV{i:Nat}{x:Str}(hN:X.N.Nodup) (hi:X.N[i]?=some x) (hx:Loc X.env.scope x) (hf:X.fn x=true∨X.env.scope.names.lookup x=some .local:=by first|exact .inl rfl|exact .inr rfl|assumption):PG X (.Name x pos) (nX i):=by
 intro aa s σ H v u Q I r h;exact wpAny_assign_Name (gD I hN hi hx r (fun s' I'=>⟨_,H,I',h⟩) hf)
def Ay:TGs:=fun vs σ H Q=>vs=[]/\Q σ H
def uR(t:TG) (u:TGs):TGs:=fun vs σ H Q=>∃v r,vs=v::r/\t v σ H fun σ' H'=>u r σ' H' Q
theorem rK:PGs X [] Ay:=by
 intro aa s σ H vs us Q I r h;obtain⟨e,h⟩:=h;subst e;cases r;exact assignInOrder_nil ⟨σ,H,I,h⟩
theorem oK{e:K4}{es:List K4}{t:TG}{u:TGs}(h1:PG X e t) (h2:PGs X es u)
  (hs:(V2 (e::es) X.env).map (·.2)=af7 e X.env::(V2 es X.env).map (·.2):=by rfl):PGs X (e::es) (uR t u):=by
 intro aa s σ H vs us Q I r h;obtain⟨v,vr,e1,h⟩:=h;subst e1;cases r with
 |cons r rr =>
  rw[hs];refine assignInOrder_cons (thn (h1 aa s σ H _ _ _ I r h) fun _ s1 ⟨σ1,H1,I1,q1⟩=>?_);exact h2 aa s1 σ1 H1 _ _ Q I1 rr q1
def zR(K:u8) (n:Nat) (t:TGs):TG:=fun v σ H Q=>∃a xs,v=.ref a/\SqT K H a xs/\xs.length=n/\t xs σ H Q
theorem vQ{es:List K4}{k:Nat}{t:TGs}{n:Nat}(hc:X.calm=true) (h:PGs X es t)
  (hn:(V2 es X.env).length=n:=by rfl) (hst:(V2 es X.env).findIdx? (·.1)=none:=by rfl):PG X (.Tuple es k pos) (zR X.K n t):=by
 intro aa s σ H v u Q I r hw;obtain⟨a,xs,e1,hq,hl,hw⟩:=hw;subst e1;cases r;obtain⟨its,rv,ht,hz⟩:=I.tuple hq;refine assign_Tuple_tuple (I.ok.hd hc) ht (by simp[hn,<-hl,rv.length]) hst fun h' hx=>?_;have I1:Inv X aa σ H { s with heap:=h' }:=I.kept (t':=s.toks) fun b o e=>hx b o (F8 (F2 e)) e;exact h aa _ σ H xs _ Q I1 (by simpa using rv) hw
def DR(to ti:TE) (t:Ax):TG:=fun v σ H Q=>to σ H fun o H1=>ti σ H1 fun i H2=>t o i v H2 fun H3=>Q σ H3
theorem zE{o i:K4}{to ti:TE}{t:Ax}(ho:PE X o to) (hi:PE X i ti) (hs:CW X t)
  (ha:∀ v,af7 (.Subscript o i pos) X.env v = (do
   let ov <-aj3 [v] (Z4 o X.env)
   let iv <-aj3 [v,ov] (Z4 i X.env)
   am0 pos
   aj3 [v,ov,iv] (setItem ov iv v)
   release [v,ov,iv] []):=by intro _;rfl):PG X (.Subscript o i pos) (DR to ti t):=by
 intro aa s σ H v u Q I r h;rw[ha];refine o0 (P4 (thn (ho aa s σ H _ I h) fun ov s1 hup=>hup.el fun x H1 I1 r1 q1=>?_));refine o0 (P4 (thn (hi aa s1 σ H1 _ I1 q1) fun iv s2 hup=>hup.el fun y H2 I2 r2 q2=>?_));refine o0 (aa6 (o0 (P4 (thn (hs aa s2 σ H2 x y v ov iv u _ I2 r1 r2 r q2) fun _ s3 ⟨H3,I3,q3⟩=>?_))));exact wpAny_release ⟨σ,H3,I3,q3⟩
def Bc(te:TE) (g:TG):TS:=fun D σ H=>te σ H fun x H1=>g x σ H1 D.nx
theorem ub{tg e:K4}{te:TE}{g:TG}(he:PE X e te) (hg:PG X tg g) (hs:swapsWithSole [tg] e pos.line X.env=ad0 false:=by rfl) (hw:swappedStores [tg] e X.env=ad0 none:=by rfl)
  (h1:(V2 [tg] X.env).map (·.2)=[af7 tg X.env]:=by rfl):PS X (.Assign [tg] e pos) (Bc te g):=by
 intro aa s σ H D I h;refine wpAny_Assign_stores (thn (he aa s σ H _ I h) fun v s1 hup=>hup.el fun x H1 I1 r1 q1=>?_) hs hw;rw[h1];exact thn (hg aa s1 σ H1 x v _ I1 r1 q1) fun _ s2 q=>q
theorem uI{i:Nat}{x:Str}{e:K4}{te:TE}{pos':Pos}(hN:X.N.Nodup) (hi:X.N[i]?=some x) (hx:Loc X.env.scope x) (he:PE X e te) (hs:Z0 e (some (.Name x pos')) pos.line X.env=ad0 false:=by rfl) (hf:X.fn x=true∨X.env.scope.names.lookup x=some .local:=by first|exact .inl rfl|exact .inr rfl|assumption) :
  PS X (.Assign [.Name x pos'] e pos) (Bc te (nX i)):=by
 intro aa s σ H D I h;refine wpAny_Assign_Name (thn (he aa s σ H _ I h) fun v s1 hup=>hup.el fun y H1 I1 r1 q1=>?_) hs;exact gD I1 hN hi hx r1 (fun s2 I2=>⟨_,H1,I2,q1⟩) hf
end
section
variable{X:Cx}{pos:Pos}
def Bm(c:TT) (tb:TS):TS:=fun D σ H=>∃W:Nat->St->Hp->Prop,(∃m,W m σ H)/\∀m σ H,W m σ H ->
 c σ H fun b H1=>if b=true then ∃N:St->Hp->Prop,(∀ σ' H',N σ' H'->∃m',m'<m/\W m' σ' H')/\tb { D with nx:=N,ct:=N,bk:=D.nx } σ H1 else D.nx σ H1
theorem um{c:K4}{body:List Z7}{tc:TT}{tb:TS}(hp:T3 (J9 X.prog X.w) X.A X.env X.xe) (hc:PT X c tc) (hb:PSs X body tb):PS X (.While c body [] pos) (Bm tc tb):=by
 intro aa s σ H D I h;obtain⟨W,⟨m0,w0⟩,turn⟩:=h;refine wpAny_While (codeAny_whileLoop (fun n s'=>∃ σ' H',Inv X aa σ' H' s'/\W n σ' H') ?_ m0 ⟨σ,H,I,w0⟩);rintro n s1 ⟨σ1,H1,I1,w1⟩;refine ab9 hp (thn (hc aa s1 σ1 H1 _ I1 (turn n σ1 H1 w1)) fun b s2 hup=>hup.el fun H2 I2 q2=>?_);cases b with
 |true =>
  obtain⟨N,hN,q2⟩:=q2;rw[if_pos rfl];refine ab9 hp (thn (hb aa s2 σ1 H2 _ I2 q2) fun f s3 q3=>?_);cases f with
  |next =>
   obtain⟨σ3,H3,I3,n3⟩:=q3;obtain⟨m',hm,w3⟩:=hN σ3 H3 n3;exact⟨m',hm,σ3,H3,I3,w3⟩
  |cont =>
   obtain⟨σ3,H3,I3,n3⟩:=q3;obtain⟨m',hm,w3⟩:=hN σ3 H3 n3;exact⟨m',hm,σ3,H3,I3,w3⟩
  |brk=>exact q3
  |ret v=>exact q3
 |false =>
  rw[if_neg P1];exact ab8 ⟨σ1,H2,I2,q2⟩
end
structure It where
 go:Nat->Hp->Prop
 yld:Nat->Hp->V->Hp->Prop
 stop:Nat->Hp->Prop
def cA(X:Cx) (aa:List (E5×Obj)) (H:Hp) (b:E5):Prop :=
 H b=none/\b≠X.env.locals/\b∉X.fs/\(b∈X.ex∨X.s₀.heap.objs.size<=b)/\(∀x c,X.env.cells.lookup x=some c->c≠b)/\∀p∈X.pn++aa,p.1≠b
theorem Inv.fpOk{X:Cx}{aa:List (E5×Obj)}{σ:St}{H H':Hp}{s:E2}{b:E5}(I:Inv X aa σ H s) (hb:s.heap.objs.size<=b) (hn:H' b=none):cA X aa H' b:=by
 refine⟨hn,V9 (J6 I.lt hb),I.nofs hb,.inr (Q0 I.sz hb),fun x c e z=>?_,fun p hp z=>?_⟩
 ·obtain⟨v,q⟩:=I.cell x c e;exact absurd (J6 q.lt (by rw[z];exact hb)) (S8 _)
 ·exact absurd (J6 (F2 (I.pin p hp).1) (by rw[z];exact hb)) (S8 _)
structure iB(P:J4) (w:O3) (K:u8) (tg:K4) (J:It) (fp:List E5) (it:E5) (tn:Nat->I0->Prop):Prop where
 mem:it∈fp
 obj:∀i h,tn i h->∀b∈fp,∃o,h.get? b=some o/\∀v,o.data≠.cell v
 keep:∀i h h',tn i h->(∀b∈fp,∀o,h.get? b=some o->h'.get? b=some o)->tn i h'
 item:∀(X:Cx),X.prog=P->X.w=w->X.K=K->X.calm=true->∀(i:Nat) (aa:List (E5×Obj)) (s:E2) (σ:St) (H:Hp) (E:s0->E2->Prop),Inv X aa σ H s->(∀b∈fp,cA X aa H b)->tn i s.heap->J.go i H ->
  F6 (J9 P w) X.A (an0 (.ref it)) (fun r s1=>∃u,r=some u /\
   F6 (J9 P w) X.A (ad4 tg (.ref it) u) (fun _ s2=>∃x H',Inv X aa σ H' s2/\aF x u/\J.yld i H x H'/\tn (i+1) s2.heap/\∀b∈fp,H' b=none) E s1) E s
 done:∀(X:Cx),X.prog=P->X.w=w->X.K=K->X.calm=true->∀(i:Nat) (aa:List (E5×Obj)) (s:E2) (σ:St) (H:Hp) (E:s0->E2->Prop),Inv X aa σ H s->(∀b∈fp,cA X aa H b)->tn i s.heap->J.stop i H ->
  F6 (J9 P w) X.A (an0 (.ref it)) (fun r s1=>r=none/\Inv X aa σ H s1) E s
 self:∀(A:L8) (i:Nat) (s:E2) (Q:s0->E2->Prop) (E:s0->E2->Prop),tn i s.heap->Q (.ref it) s->F6 (J9 P w) A (ao9 (.ref it)) Q E s
abbrev TI:=St->Hp->(It->Hp->Prop)->Prop
def PIE(X:Cx) (aa:List (E5×Obj)) (σ:St) (tg:K4) (R:It->Hp->Prop) (itv:s0) (s2:E2):Prop :=
 ∃(it:E5) (fp:List E5) (tn:Nat->I0->Prop) (J:It) (H':Hp),itv=.ref it/\Inv X aa σ H' s2/\iB X.prog X.w X.K tg J fp it tn/\tn 0 s2.heap/\(∀b∈fp,cA X aa H' b)/\R J H'
def PI(X:Cx) (tg iter:K4) (wi:TI):Prop :=
 ∀(aa:List (E5×Obj)) (s:E2) (σ:St) (H:Hp) (R:It->Hp->Prop),Inv X aa σ H s->wi σ H R ->
  F6 (J9 X.prog X.w) X.A (Z4 iter X.env) (fun v s1=>F6 (J9 X.prog X.w) X.A (ao9 v) (PIE X aa σ tg R) X.xe s1) X.xe s
theorem oy{M:ao3}{A:L8}{E:s0->E2->Prop}{s:E2}{tg:K4}{it:E5}{u:s0}{o:Obj}{n:String}{vs:Array s0}{Q:Unit->E2->Prop}(ho:s.heap.get? it=some o) (hc:o.cls=.type n) (hd:o.data=.fields vs)
    (hn:["enumerate","zip","dict_itemiterator","dict_reverseitemiterator","odict_iterator","itertools.zip_longest","itertools.pairwise"].contains n=false) (hQ:Q () s):F6 M A (ad4 tg (.ref it) u) Q E s:=by
  unfold ad4;cases tg<;>first
    |exact E3 hQ
    |(cases u<;>first
        |exact E3 hQ
        | (refine o0 (wpAny_load ho ?_)
           rw[hc,hd];show F6 M A (if(["enumerate","zip","dict_itemiterator","dict_reverseitemiterator","odict_iterator","itertools.zip_longest","itertools.pairwise"].contains n&&vs[0]?==some (af8 _))=true then _ else _) Q E s;rw[if_neg (by intro h;rw[hn,ak6]at h;cases h)];exact E3 hQ))
def Itl(K:u8) (a:E5):It :=
 ⟨fun i H=>∃xs x,SqL K H a xs/\xs[i]?=some x,fun i H x H'=>H'=H/\∀xs,SqL K H a xs->xs[i]?=some x,fun i H=>∃xs,SqL K H a xs/\xs.length<=i⟩
def Itt(K:u8) (a:E5):It :=
 ⟨fun i H=>∃xs x,SqT K H a xs/\xs[i]?=some x,fun i H x H'=>H'=H/\∀xs,SqT K H a xs->xs[i]?=some x,fun i H=>∃xs,SqT K H a xs/\xs.length<=i⟩
def Itr(lo:Int) (n:Nat):It:=⟨fun i _=>i<n,fun i H x H'=>H'=H/\x=.int (lo+i),fun i _=>n<=i⟩
theorem lr{P:J4}{w:O3}{K:u8}{tg:K4}(a it:E5):iB P w K tg (Itl K a) [it] it (fun i h=>h.IsListIter it a i) where
 mem:=by simp
 obj:=fun i h st b hb=>by
  have e:b=it:=by simpa using hb
  subst e;obtain⟨o,e,c,d⟩:=st;exact⟨o,e,fun v z=>by rw[d]at z;cases z⟩
 keep:=fun i h h' st k=>st.at fun o e=>k it (by simp) o e
 item:=by
  intro X hP hw hK hc i aa s σ H E I hf st hg;subst hP hw hK;obtain⟨xs,x,hq,hx⟩:=hg;obtain⟨its,rv,p,hz⟩:=I.list hq;obtain⟨u,hu,ru⟩:=rv.get hx;obtain⟨f0,f1,f2,f3,f4,f5⟩:=hf it (by simp);refine wpAny_pyNext_list_item st p.isList (x:=u) (by simpa using hu) fun h' st' sb=>?_;have I1:Inv X aa σ H { s with heap:=h' }:=I.turned (t':=s.toks) (fun b o hb e=>(sb.2 b hb).trans e) f0 f1 f3 f4 f5;obtain⟨o,e,c,d⟩:=id st';exact⟨u,rfl,oy (s:={ s with heap:=h' }) e c d (by decide) ⟨x,H,I1,ru,⟨rfl,fun ys hy=>by rw[I.list_inj hy hq];exact hx⟩,st',fun b hb=>(hf b hb).1⟩⟩
 done:=by
  intro X hP hw hK hc i aa s σ H E I hf st hg;subst hP hw hK;obtain⟨xs,hq,hx⟩:=hg;obtain⟨its,rv,p,hz⟩:=I.list hq;obtain⟨f0,f1,f2,f3,f4,f5⟩:=hf it (by simp);have hl:=rv.length;exact wpAny_pyNext_list_end (I.ok.hd hc) st p.isList (by simp;lia) fun h' eb=>⟨rfl,I.turned (t':=s.toks) (fun b o hb e=>eb b o hb e) f0 f1 f3 f4 f5⟩
 self:=fun _ _ _ _ _ st h=>wpAny_pyIter_listiter st h
theorem pD{P:J4}{w:O3}{K:u8}{tg:K4}(a it:E5):iB P w K tg (Itt K a) [it] it (fun i h=>h.IsTupleIter it a i) where
 mem:=by simp
 obj:=fun i h st b hb=>by
  have e:b=it:=by simpa using hb
  subst e;obtain⟨o,e,c,d⟩:=st;exact⟨o,e,fun v z=>by rw[d]at z;cases z⟩
 keep:=fun i h h' st k=>st.at fun o e=>k it (by simp) o e
 item:=by
  intro X hP hw hK hc i aa s σ H E I hf st hg;subst hP hw hK;obtain⟨xs,x,hq,hx⟩:=hg;obtain⟨its,rv,p,hz⟩:=I.tuple hq;obtain⟨u,hu,ru⟩:=rv.get hx;obtain⟨f0,f1,f2,f3,f4,f5⟩:=hf it (by simp);refine wpAny_pyNext_tuple_item st (show s.heap.IsTuple a its.toArray from p) (x:=u) (by simpa using hu) fun h' st' sb=>?_;have I1:Inv X aa σ H { s with heap:=h' }:=I.turned (t':=s.toks) (fun b o hb e=>(sb.2 b hb).trans e) f0 f1 f3 f4 f5;obtain⟨o,e,c,d⟩:=id st';exact⟨u,rfl,oy (s:={ s with heap:=h' }) e c d (by decide) ⟨x,H,I1,ru,⟨rfl,fun ys hy=>by rw[I.tuple_inj hy hq];exact hx⟩,st',fun b hb=>(hf b hb).1⟩⟩
 done:=by
  intro X hP hw hK hc i aa s σ H E I hf st hg;subst hP hw hK;obtain⟨xs,hq,hx⟩:=hg;obtain⟨its,rv,p,hz⟩:=I.tuple hq;obtain⟨f0,f1,f2,f3,f4,f5⟩:=hf it (by simp);have hl:=rv.length;exact wpAny_pyNext_tuple_end (I.ok.hd hc) st (show s.heap.IsTuple a its.toArray from p) (by simp;lia) fun h' eb=>⟨rfl,I.turned (t':=s.toks) (fun b o hb e=>eb b o hb e) f0 f1 f3 f4 f5⟩
 self:=fun _ _ _ _ _ st h=>wpAny_pyIter_tupleiter st h
theorem pA{P:J4}{w:O3}{K:u8}{tg:K4}(it:E5) (lo:Int) (n:Nat):iB P w K tg (Itr lo n) [it] it (fun i h=>IsRangeIter h it (lo+(i:Nat)*1) ((n:Int)-(i:Nat)) 1) where
 mem:=by simp
 obj:=fun i h st b hb=>by
  have e:b=it:=by simpa using hb
  subst e;exact⟨_,st,fun v z=>by
   have z':ab4 _=ap0.cell v:=z;cases z'⟩
 keep:=fun i h h' st k=>k it (by simp) _ st
 item:=by
  intro X hP hw hK hc i aa s σ H E I hf st hg;subst hP hw hK;obtain⟨f0,f1,f2,f3,f4,f5⟩:=hf it (by simp);have W:=Walks.range (prog:=X.prog) (w:=X.w) (I.ok.hd hc) it lo 1 n;refine W.item i s _ _ hg st fun v h' tk hv st' kk=>?_;obtain⟨t,rfl⟩:=hv;have I1:Inv X aa σ H { s with heap:=h',toks:=tk }:=I.turned (fun b o hb e=>kk b o (by simpa using hb) e) f0 f1 f3 f4 f5;refine⟨_,rfl,oy (s:={ s with heap:=h',toks:=tk }) (n:="range_iterator") st' rfl rfl (by decide) ⟨.int (lo+i),H,I1,⟨t,?_⟩,⟨rfl,rfl⟩,st',fun b hb=>(hf b hb).1⟩⟩;rw[Int.mul_one]
 done:=by
  intro X hP hw hK hc i aa s σ H E I hf st hg;subst hP hw hK;obtain⟨f0,f1,f2,f3,f4,f5⟩:=hf it (by simp);exact wpAny_pyNext_range_end (I.ok.hd hc) st (by have:n<=i:=hg;lia) fun h' eb=>⟨rfl,I.turned (t':=s.toks) (fun b o hb e=>eb b o hb e) f0 f1 f3 f4 f5⟩
 self:=fun _ _ _ _ _ st h=>wpAny_pyIter_rangeiter st h
section
variable{X:Cx}{tg:K4}
theorem uZ{aa:List (E5×Obj)}{σ:St}{H:Hp}{s:E2}{R:It->Hp->Prop}{E:s0->E2->Prop}{lo hi:Int}{t u v:Tok}{tk:Nat}(I:Inv X aa σ H s) (h1:-(2 ^ 62)<=lo) (h2:lo<2 ^ 62) (h3:-(2 ^ 62)<=hi) (h4:hi<2 ^ 62)
  (q:R (Itr lo (hi-lo).toNat) H):F6 (J9 X.prog X.w) X.A (ao9 (.ref s.heap.objs.size)) (PIE X aa σ tg R) E { s with heap:=s.heap.push { cls:=.type "range",data:=.fields #[.int lo t,.int hi u,.int 1 v] },toks:=tk }:=by
 refine wpAny_pyIter_range (IsRange.new ..) (small_one h1 h2 h3 h4) ?_;have I1:Inv X aa σ H { s with heap:=s.heap.push { cls:=.type "range",data:=.fields #[.int lo t,.int hi u,.int 1 v] },toks:=tk }:=I.kept fun b o e=>E1 _ e;refine⟨(s.heap.push { cls:=.type "range",data:=.fields #[.int lo t,.int hi u,.int 1 v] }).objs.size,[(s.heap.push { cls:=.type "range",data:=.fields #[.int lo t,.int hi u,.int 1 v] }).objs.size],_,_,H,rfl,
  I1.kept (t':=tk) fun b o e=>E1 _ e,pA _ lo (hi-lo).toNat,?_,fun b hb=>?_,q⟩
 ·have e1:lo+((0:Nat):Int)*1=lo:=by simp
  have e2:(((hi-lo).toNat:Nat):Int)-((0:Nat):Int)=J7.Range.rangeSize lo hi 1:=by rw[rangeSize_one];split<;>lia
  show IsRangeIter _ _ (lo+((0:Nat):Int)*1) ((((hi-lo).toNat:Nat):Int)-((0:Nat):Int)) 1;rw[e1,e2];exact F0 _ rfl
 ·have e:b=(s.heap.push { cls:=.type "range",data:=.fields #[.int lo t,.int hi u,.int 1 v] }).objs.size:=by simpa using hb
  subst e;exact I1.fpOk (F5 _) (I1.hok.fresh (F5 _))
def CY(ta:TA):TI:=fun σ H R=>ta σ H fun vs H1=>∃j:Int,vs=[.int j]/\-(2 ^ 62)<=j/\j<2 ^ 62/\R (Itr 0 j.toNat) H1
theorem r8{a:K4}{ta:TA}{p pos:Pos}(hg:Gl X "range") (hm:X.mg "range"=none) (ha:PA X [a] ta) (hs:E8 [a] X.env=[(false,Z4 a X.env)]:=by rfl):PI X tg (.Call (.Name "range" p) [a] [] pos) (CY ta):=by
 intro aa s σ H R I h;refine Call_ (ij I hg hm boot_range (Z1 (thn (ha pos aa s σ H _ I h) fun us s1 hup=>hup.el fun vs H1 I1 r1 q1=>?_) hs rfl));obtain⟨j,e,q1,q2,q⟩:=q1;subst e;cases r1 with
 |cons r rr =>
  cases rr;obtain⟨t,rfl⟩:=r;exact call_range_1 (uZ I1 (by lia) (by lia) q1 q2 (by simpa using q))
def D9(wi:TI) (g:TG) (tb:TS):TS:=fun D σ H=>wi σ H fun J H1=>∃W:Nat->Nat->St->Hp->Prop,(∃m,W 0 m σ H1)/\∀i m σ H,W i m σ H ->
 (J.stop i H/\D.nx σ H)∨(J.go i H/\∃N:St->Hp->Prop,(∀ σ' H',N σ' H'->∃m',m'<m/\W (i+1) m' σ' H')/\∀x H',J.yld i H x H'->g x σ H' fun σ2 H2=>tb { D with nx:=N,ct:=N,bk:=D.nx } σ2 H2)
def gi(fp:List E5) (h:I0):List (E5×Obj):=fp.filterMap fun b=>(h.get? b).map fun o=>(b,o)
theorem cf{fp:List E5}{h:I0}{b:E5}{o:Obj}(hb:b∈fp) (e:h.get? b=some o):(b,o)∈gi fp h:=S4.mpr ⟨b,hb,by rw[e];rfl⟩
theorem lS{fp:List E5}{h:I0}{p:E5×Obj}(hp:p∈gi fp h):p.1∈fp/\h.get? p.1=some p.2:=by
 obtain⟨b,hb,e⟩:=S4.mp hp;cases q:h.get? b with
 |none=>rw[q]at e;cases e
 |some o =>
  rw[q]at e;have e':(b,o)=p:=N3 e;subst e';exact⟨hb,q⟩
theorem Inv.pinned{aa:List (E5×Obj)}{σ:St}{H:Hp}{s:E2}{fp:List E5}(I:Inv X aa σ H s) (hf:∀b∈fp,cA X aa H b) (ho:∀b∈fp,∃o,s.heap.get? b=some o/\∀v,o.data≠.cell v):Inv X (aa++gi fp s.heap) σ H s :=
 I.pins_of fun p hp=>(L9.mp hp).elim (fun z=>I.pin p (J3 _ z)) fun z=>by
  obtain⟨hb,e⟩:=lS z;obtain⟨f0,f1,f2,_⟩:=hf p.1 hb;obtain⟨o,e',d⟩:=ho p.1 hb;rw[e]at e';cases e';exact⟨e,f0,f1,f2,d⟩
theorem Inv.unpinned{aa pl:List (E5×Obj)}{σ:St}{H:Hp}{s:E2}(I:Inv X (aa++pl) σ H s):Inv X aa σ H s:=I.pins_of fun p hp=>I.pin p (J3 _ (U4 _ hp))
theorem uC{iter:K4}{body:List Z7}{wi:TI}{g:TG}{tb:TS}{pos:Pos}(hp:T3 (J9 X.prog X.w) X.A X.env X.xe) (hc:X.calm=true) (hi:PI X tg iter wi) (hg:PG X tg g) (hb:PSs X body tb)
  (hs:∀x,O1 iter X.env x=ad0 x:=by intro _;rfl):PS X (.For tg iter body [] pos) (D9 wi g tb):=by
 intro aa s σ H D I h;refine wpAny_For (thn (hi aa s σ H _ I h) fun v s1 h1=>thn h1 fun itv s2 h2=>?_) hs;obtain⟨it,fp,tn,J,H2,e,I2,T,st2,f2,W,⟨m0,w0⟩,turn⟩:=h2;subst e
 -- what stays true of the iterator's objects through the loop
 have stat:∀{H':Hp},(∀b∈fp,H' b=none)->∀b∈fp,cA X aa H' b:=fun hn b hb=>⟨hn b hb,(f2 b hb).2⟩;refine codeAny_forLoop_any (fun n s'=>∃i σ' H',Inv X aa σ' H' s'/\tn i s'.heap/\(∀b∈fp,H' b=none)/\W i n σ' H') ?_ m0 ⟨0,σ,H2,I2,st2,fun b hb=>(f2 b hb).1,w0⟩;rintro n s3 ⟨i,σ3,H3,I3,st3,fr3,w3⟩;rcases turn i n σ3 H3 w3 with⟨stop,qn⟩|⟨go,N,hN,step⟩
 ·refine ab9 hp (thn (T.done X rfl rfl rfl hc i aa s3 σ3 H3 X.xe I3 (stat fr3) st3 stop) fun r s4 ⟨hr,I4⟩=>?_);subst hr;exact ab8 ⟨σ3,H3,I4,qn⟩
 ·refine ab9 hp (thn (T.item X rfl rfl rfl hc i aa s3 σ3 H3 X.xe I3 (stat fr3) st3 go) fun r s4 ⟨u,hr,h4⟩=>?_);subst hr;refine ab9 hp (thn h4 fun _ s5 ⟨x,H5,I5,r5,y5,st5,fr5⟩=>?_);have I5':=I5.pinned (stat fr5) (T.obj _ _ st5);refine ab9 hp (thn (hg _ s5 σ3 H5 x u _ I5' r5 (step x H5 y5)) fun _ s6 ⟨σ6,H6,I6,q6⟩=>?_);refine ab9 hp (thn (hb _ s6 σ6 H6 _ I6 q6) fun f s7 q7=>?_);have again:∀{σ7:St} {H7:Hp},Inv X (aa++gi fp s5.heap) σ7 H7 s7->N σ7 H7->∃m,m<n/\∃i σ' H',Inv X aa σ' H' s7/\tn i s7.heap/\(∀b∈fp,H' b=none)/\W i m σ' H':=fun {σ7 H7} I7 n7=>by
   obtain⟨m',hm,w7⟩:=hN σ7 H7 n7;refine⟨m',hm,i+1,σ7,H7,I7.unpinned,T.keep _ _ _ st5 fun b hb o e=>(I7.pin (b,o) (J3 _ (J3 _ (cf hb e)))).1,fun b hb=>?_,w7⟩;obtain⟨o,e,d⟩:=T.obj _ _ st5 b hb;exact(I7.pin (b,o) (J3 _ (J3 _ (cf hb e)))).2.1
  cases f with
  |next=>obtain⟨σ7,H7,I7,n7⟩:=q7;exact again I7 n7
  |cont=>obtain⟨σ7,H7,I7,n7⟩:=q7;exact again I7 n7
  |brk=>obtain⟨σ7,H7,I7,q7⟩:=q7;exact⟨σ7,H7,I7.unpinned,q7⟩
  |ret v=>obtain⟨x7,σ7,H7,I7,r7,q7⟩:=q7;exact⟨x7,σ7,H7,I7.unpinned,r7,q7⟩
end
abbrev R2:=V->V->Hp->VK->Prop
def OpR(X:Cx) (f:s0->s0->Sem s0) (r:R2):Prop :=
 ∀(aa:List (E5×Obj)) (s:E2) (σ:St) (H:Hp) (x y:V) (v u:s0) (Q:VK),Inv X aa σ H s->aF x v->aF y u->r x y H Q ->
  F6 (J9 X.prog X.w) X.A (f v u) (EP X aa σ Q) X.xe s
def UnR(X:Cx) (f:s0->Sem s0) (r:V->Hp->VK->Prop):Prop :=
 ∀(aa:List (E5×Obj)) (s:E2) (σ:St) (H:Hp) (x:V) (v:s0) (Q:VK),Inv X aa σ H s->aF x v->r x H Q ->
  F6 (J9 X.prog X.w) X.A (f v) (EP X aa σ Q) X.xe s
def cw(X:Cx) (f:s0) (r:List V->Hp->VK->Prop):Prop :=
 ∀(aa:List (E5×Obj)) (s:E2) (σ:St) (H:Hp) (xs:List V) (us:List s0) (Q:VK),Inv X aa σ H s->ax xs us->r xs H Q ->
  F6 (J9 X.prog X.w) X.A (ap2 f us) (EP X aa σ Q) X.xe s
def tOp(r:R2) (ta tb:TE):TE:=fun σ H Q=>ta σ H fun x H1=>tb σ H1 fun y H2=>r x y H2 Q
def tUn(r:V->Hp->VK->Prop) (ta:TE):TE:=fun σ H Q=>ta σ H fun x H1=>r x H1 Q
def rI(C:Int->Int->Prop) (g:Int->Int->V):R2:=fun x y H Q=>∃i j,x=.int i/\y=.int j/\C i j/\Q (g i j) H
def rI0(g:Int->Int->V):R2:=fun x y H Q=>∃i j,x=.int i/\y=.int j/\Q (g i j) H
def rU(g:Int->V):V->Hp->VK->Prop:=fun x H Q=>∃i,x=.int i/\Q (g i) H
section
variable{X:Cx}{a b c:K4}{ta tb tc:TE}{pos:Pos}
theorem zT(ha:PE X a ta) (hb:PE X b tb) {aa:List (E5×Obj)}{s:E2}{σ:St}{H:Hp}{R:V->V->Hp->Prop}(I:Inv X aa σ H s)
  (h:ta σ H fun x H1=>tb σ H1 fun y H2=>R x y H2) {Q:s0->E2->Prop} {f:s0->s0->Sem s0}
  (hf:∀v u s2 x y H2,Inv X aa σ H2 s2->aF x v->aF y u->R x y H2->F6 (J9 X.prog X.w) X.A (f v u) Q X.xe s2) :
  F6 (J9 X.prog X.w) X.A (Z4 a X.env) (fun v s₁=>F6 (J9 X.prog X.w) X.A (Z4 b X.env) (fun u s₂=>F6 (J9 X.prog X.w) X.A (f v u) Q X.xe s₂) X.xe s₁) X.xe s:=by
 refine thn (ha aa s σ H _ I h) fun v s1 hup=>hup.el fun x H1 I1 r1 q1=>?_;refine thn (hb aa s1 σ H1 _ I1 q1) fun u s2 hup=>hup.el fun y H2 I2 r2 q2=>?_;exact hf v u s2 x y H2 I2 r1 r2 q2
theorem yZ{op:Operator}{r:R2}(ho:OpR X (U8 op) r) (ha:PE X a ta) (hb:PE X b tb):PE X (.BinOp a op b pos) (tOp r ta tb):=by
 intro aa s σ H Q I h;exact wpAny_BinOp (zT ha hb I h fun v u s2 x y H2 I2 rx ry q=>ho aa s2 σ H2 x y v u Q I2 rx ry q)
theorem B9{op:UnaryOp}{r:V->Hp->VK->Prop}(ho:UnR X (unaryOp op) r) (ha:PE X a ta):PE X (.UnaryOp op a pos) (tUn r ta):=by
 intro aa s σ H Q I h;exact UnaryOp_ (thn (ha aa s σ H _ I h) fun v s1 hup=>hup.el fun x H1 I1 r1 q1=>ho aa s1 σ H1 x v Q I1 r1 q1)
theorem opI{f:s0->s0->Sem s0}{C:Int->Int->Prop}{g:Int->Int->Int}
  (rule:∀(i j:Int) (t u:Tok) (s:E2) (Q:s0->E2->Prop) (E:s0->E2->Prop),C i j->Q (.int (g i j) s.toks) { s with toks:=s.toks+1 }->F6 (J9 X.prog X.w) X.A (f (.int i t) (.int j u)) Q E s) :
  OpR X f (rI C fun i j=>.int (g i j)):=by
 intro aa s σ H x y v u Q I rx ry h;obtain⟨i,j,rfl,rfl,hc,q⟩:=h;obtain⟨t,rfl⟩:=rx;obtain⟨t',rfl⟩:=ry;exact rule i j t t' s _ _ hc ⟨.int (g i j),H,I.tok _,⟨_,rfl⟩,q⟩
theorem BR{f:s0->s0->Sem s0}{g:Int->Int->Int}
  (rule:∀(i j:Int) (t u:Tok) (s:E2) (Q:s0->E2->Prop) (E:s0->E2->Prop),Q (.int (g i j) s.toks) { s with toks:=s.toks+1 }->F6 (J9 X.prog X.w) X.A (f (.int i t) (.int j u)) Q E s) :
  OpR X f (rI0 fun i j=>.int (g i j)):=by
 intro aa s σ H x y v u Q I rx ry h;obtain⟨i,j,rfl,rfl,q⟩:=h;obtain⟨t,rfl⟩:=rx;obtain⟨t',rfl⟩:=ry;exact rule i j t t' s _ _ ⟨.int (g i j),H,I.tok _,⟨_,rfl⟩,q⟩
theorem yb{f:s0->s0->Sem s0}{g:Int->Int->Bool}
  (rule:∀(i j:Int) (t u:Tok) (s:E2) (Q:s0->E2->Prop) (E:s0->E2->Prop),Q (.bool (g i j)) s->F6 (J9 X.prog X.w) X.A (f (.int i t) (.int j u)) Q E s) :
  OpR X f (rI0 fun i j=>.bl (g i j)):=by
 intro aa s σ H x y v u Q I rx ry h;obtain⟨i,j,rfl,rfl,q⟩:=h;obtain⟨t,rfl⟩:=rx;obtain⟨t',rfl⟩:=ry;exact rule i j t t' s _ _ ⟨.bl (g i j),H,I,rfl,q⟩
def jq(i j:Int):Prop:=0<j/\j<1073741824
def nh(i j:Int):Prop:=0<=j/\j<=1000000/\i.natAbs<2 ^ 64
def fA(i j:Int):Prop:=(-(2 ^ 64)<i/\i<2 ^ 64)∨(-(2 ^ 64)<j/\j<2 ^ 64)
theorem fA.ok{i j:Int}(h:fA i j):IntMulOk i j:=by
 rcases h with⟨h1,h2⟩|⟨h1,h2⟩
 ·exact .of_left (intBits_le_64 h1 h2)
 ·exact .of_right (intBits_le_64 h1 h2)
theorem AN:OpR X (U8 .Add) (rI0 fun i j=>.int (i+j)):=BR fun _ _ _ _ _ _ _ q=>add_int q
theorem Bj:OpR X (U8 .Sub) (rI0 fun i j=>.int (i-j)):=BR fun _ _ _ _ _ _ _ q=>sub_int q
theorem zX:OpR X (U8 .Mult) (rI fA fun i j=>.int (i*j)):=opI fun _ _ _ _ _ _ _ hc q=>mul_int q hc.ok
theorem xu:OpR X (U8 .FloorDiv) (rI jq fun i j=>.int (i / j)):=opI fun i j _ _ _ _ _ hc q=>by
 have h1:(0:Int)<j:=hc.1;have h2:j<1073741824:=hc.2;exact floordiv_int (by lia) (by rw[Int.fdiv_eq_ediv_of_nonneg i (by lia)];exact q) (.inl (PyProof.noPylong_small (by lia)))
theorem AY:OpR X (U8 .Mod) (rI (fun _ j=>0<j) fun i j=>.int (i % j)):=opI fun i j _ _ _ _ _ hc q=>by
 have h1:(0:Int)<j:=hc;exact mod_int' (by lia) (by rw[Int.fmod_eq_emod_of_nonneg i (by lia)];exact q)
theorem zF:OpR X (U8 .Pow) (rI nh fun i j=>.int (i ^ j.toNat)):=opI fun _ _ _ _ _ _ _ hc q=>pow_int_small hc.1 hc.2.1 hc.2.2 q
theorem unI{f:s0->Sem s0}{g:Int->Int}
  (rule:∀(i:Int) (t:Tok) (s:E2) (Q:s0->E2->Prop) (E:s0->E2->Prop),Q (.int (g i) s.toks) { s with toks:=s.toks+1 }->F6 (J9 X.prog X.w) X.A (f (.int i t)) Q E s) :
  UnR X f (rU fun i=>.int (g i)):=by
 intro aa s σ H x v Q I rx h;obtain⟨i,rfl,q⟩:=h;obtain⟨t,rfl⟩:=rx;exact rule i t s _ _ ⟨.int (g i),H,I.tok _,⟨_,rfl⟩,q⟩
theorem A9:UnR X (unaryOp .USub) (rU fun i=>.int (-i)):=unI fun _ _ _ _ _ q=>neg_int q
end
section
variable{X:Cx}{a b c:K4}{ta tb tc:TE}{pos:Pos}
theorem Ab{aa:List (E5×Obj)}{σ:St}{H:Hp}{s:E2}{Q:VK}{k k':Bool}(I:Inv X aa σ H s) (q:Q (.bl k) H) (e:k=k'):EP X aa σ Q (.bool k') s:=by
 subst e;exact⟨.bl k,H,I,rfl,q⟩
theorem BV:OpR X (Q9 .Lt) (rI0 fun i j=>.bl (decide (i<j))):=yb fun _ _ _ _ _ _ _ q=>lt_int q
theorem CZ:OpR X (Q9 .LtE) (rI0 fun i j=>.bl (decide (i<=j))):=yb fun _ _ _ _ _ _ _ q=>le_int q
theorem Cg:OpR X (Q9 .Gt) (rI0 fun i j=>.bl (decide (j<i))):=yb fun _ _ _ _ _ _ _ q=>gt_int q
theorem Dv:OpR X (Q9 .GtE) (rI0 fun i j=>.bl (decide (j<=i))):=yb fun _ _ _ _ _ _ _ q=>ge_int q
theorem sH:OpR X (Q9 .In) (fun x y H Q=>∃i j,x=.str i/\y=.str j/\Q (.bl (!(J7.Str.occurrences j i 0 j.length 1).isEmpty)) H):=by
 intro aa s σ H x y v u Q I rx ry h;obtain⟨i,j,rfl,rfl,q⟩:=h;obtain⟨t,rfl⟩:=rx;obtain⟨t',rfl⟩:=ry;exact in_str (Ab I q rfl)
theorem xQ{op:am9}{r:R2}(ho:OpR X (Q9 op) r) (ha:PE X a ta) (hb:PE X b tb) (hm:T6 op b=false):PE X (.Compare a [op] [b] pos) (tOp r ta tb):=by
 intro aa s σ H Q I h;exact wpAny_Compare1 (zT ha hb I h fun v u s2 x y H2 I2 rx ry q=>ho aa s2 σ H2 x y v u Q I2 rx ry q) hm
def yQ(t:TE):TT:=fun σ H Q=>t σ H fun x H'=>∃k,x=.bl k/\Q k H'
theorem yd{op:am9}{r:R2}(ho:OpR X (Q9 op) r) (ha:PE X a ta) (hb:PE X b tb) (hm:T6 op b=false):PT X (.Compare a [op] [b] pos) (yQ (tOp r ta tb)):=by
 intro aa s σ H Q I h;refine wpAny_isTrue_Compare1 (thn (ha aa s σ H _ I h) fun v s1 hup=>hup.el fun x H1 I1 r1 q1=>thn (hb aa s1 σ H1 _ I1 q1) fun u s2 hup=>hup.el fun y H2 I2 r2 q2 =>
  thn (ho aa s2 σ H2 x y v u _ I2 r1 r2 q2) fun c s3 ⟨z,H3,I3,r3,k,e,q3⟩=>?_) hm
 subst e;cases r3;exact ab7 ⟨H3,I3,q3⟩
def z9(r r':R2) (ta tb tc:TE):TE:=fun σ H Q=>ta σ H fun x H1=>tb σ H1 fun y H2=>r x y H2 fun z H3=>∃k,z=.bl k /\
 (if k=true then tc σ H3 fun w' H4=>r' y w' H4 Q else Q (.bl false) H3)
theorem we{op op':am9}{r r':R2}(ho:OpR X (Q9 op) r) (ho':OpR X (Q9 op') r') (ha:PE X a ta) (hb:PE X b tb) (hc:PE X c tc)
  (hm:lastMarks [op,op'] [b,c]=false:=by with_unfolding_all rfl):PE X (.Compare a [op,op'] [b,c] pos) (z9 r r' ta tb tc):=by
 intro aa s σ H Q I h;refine Compare_chain (thn (ha aa s σ H _ I h) fun v s1 hup=>hup.el fun x H1 I1 r1 q1=>chain_link (thn (hb aa s1 σ H1 _ I1 q1) fun u s2 hup=>hup.el fun y H2 I2 r2 q2 =>
  thn (ho aa s2 σ H2 x y v u _ I2 r1 r2 q2) fun d s3 ⟨z,H3,I3,r3,k,e,q3⟩=>?_)) hm
 subst e;cases r3;refine ab7 ?_;cases k with
 |false=>exact ite_ff ⟨.bl false,H3,I3,rfl,q3⟩
 |true=>exact ite_tt (chain_last (thn (hc aa s3 σ H3 _ I3 q3) fun w' s4 ⟨z',H4,I4,r4,q4⟩=>ho' aa s4 σ H4 y z' u w' Q I4 r2 r4 q4))
theorem ik:(E4:Nat)<2 ^ 63:=by rw[R6];decide
theorem pK:OpR X (U8 .Add) (fun x y H Q=>∃i j,x=.str i/\y=.str j/\i.length+j.length<=E4/\Q (.str (i++j)) H):=by
 intro aa s σ H x y v u Q I rx ry h;obtain⟨i,j,rfl,rfl,hz,q⟩:=h;obtain⟨t,rfl⟩:=rx;obtain⟨t',rfl⟩:=ry;exact add_str (fun t' tk=>⟨.str (i++j),H,I.tok _,⟨_,rfl⟩,q⟩) hz
theorem qw{x:V}{us:List s0}(r:ax [x] us):∃u,us=[u]/\aF x u:=by
 cases r with
 |cons r1 r2=>cases r2;exact⟨_,rfl,r1⟩
theorem vP{x y:V}{us:List s0}(r:ax [x,y] us):∃u w',us=[u,w']/\aF x u/\aF y w':=by
 cases r with
 |cons r1 r2 =>
  cases r2 with
  |cons r3 r4=>cases r4;exact⟨_,_,rfl,r1,r3⟩
theorem u7:cw X (.builtin "abs") (fun xs H Q=>∃i,xs=[.int i]/\Q (.int (if i<0 then -i else i)) H):=by
 intro aa s σ H xs us Q I r h;obtain⟨i,rfl,q⟩:=h;obtain⟨u,rfl,t,rfl⟩:=qw r;exact call_abs_int fun u tk=>⟨.int (if i<0 then -i else i),H,I.tok _,⟨_,rfl⟩,q⟩
theorem rT(hc:X.calm=true):cw X (.builtin "max") (fun xs H Q=>∃i j,xs=[.int i,.int j]/\Q (.int (if j > i then j else i)) H):=by
 intro aa s σ H xs us Q I r h;obtain⟨i,j,rfl,q⟩:=h;obtain⟨u,w',rfl,⟨t,rfl⟩,⟨t',rfl⟩⟩:=vP r;refine max_two_ints (I.ok.hd hc) fun h' tk k=>⟨_,H,I.kept k,?_,q⟩
 by_cases hj:j > i
 ·rw[if_pos hj,if_pos hj];exact⟨_,rfl⟩
 ·rw[if_neg hj,if_neg hj];exact⟨_,rfl⟩
theorem tq(hc:X.calm=true):cw X (.builtin "min") (fun xs H Q=>∃i j,xs=[.int i,.int j]/\Q (.int (if j<i then j else i)) H):=by
 intro aa s σ H xs us Q I r h;obtain⟨i,j,rfl,q⟩:=h;obtain⟨u,w',rfl,⟨t,rfl⟩,⟨t',rfl⟩⟩:=vP r;refine min_two_ints (I.ok.hd hc) fun h' tk k=>⟨_,H,I.kept k,?_,q⟩
 by_cases hj:j<i
 ·rw[if_pos hj,if_pos hj];exact⟨_,rfl⟩
 ·rw[if_neg hj,if_neg hj];exact⟨_,rfl⟩
theorem nu:cw X (.builtin "divmod") (fun xs H Q=>∃i j,xs=[.int i,.int j]/\jq i j/\∀p,H p=none->Q (.ref p) (upd H p (.tup [.int (i / j),.int (i % j)]))):=by
 intro aa s σ H xs us Q I r h;obtain⟨i,j,rfl,⟨h1,h2⟩,q⟩:=h;obtain⟨u,w',rfl,⟨t,rfl⟩,⟨t',rfl⟩⟩:=vP r;refine divmod_int (by lia) ?_ (.inl (PyProof.noPylong_small (by lia)));rw[Int.fdiv_eq_ediv_of_nonneg i (by lia),Int.fmod_eq_emod_of_nonneg i (by lia)];have hn:H s.heap.objs.size=none:=I.hok.fresh (F5 _);refine⟨.ref s.heap.objs.size,_,?_,rfl,q _ hn⟩;refine I.laid (fun b o e=>E1 _ e) (F5 _) ⟨by simp only[N6,T7];rw[R6];decide,[.int (i / j) s.toks,.int (i % j) (s.toks+1)],.cons ⟨_,rfl⟩ (.cons ⟨_,rfl⟩ .nil),?_⟩;exact⟨_,F0 s.heap rfl,rfl,⟨0,rfl⟩,rfl⟩
end
section
variable{prog:J4}{w:O3}{A:L8}{E:s0->E2->Prop}{s:E2}{K:u8}{x dx C f:E5}{mA:Str->Option s0}{name:Str}{v:s0}
theorem ve{R:an7->E2->Prop}{vs:List s0}{kw:List (Str×s0)}(X:K.In s.heap) (hm:PySem.W.makesIn K C=true)
  (hi:N8 K (.ref C) "__init__"=some (some (.ref f))) (hf:PySem.W.typeIn K (.ref f)=some (.type "function"))
  (h:ac2 (J9 prog w) (A.under (.builtin "type.__call__" ⟨.ref C :: vs,kw⟩)) (.call (.ref f) ⟨.ref (s.heap.objs.size + 1) :: vs,kw⟩) (PySem.W.InitBack (s.heap.objs.size + 1) R)
   { s with heap:=(s.heap.push T4).push (ad1 C s.heap.objs.size) }) :
  ac2 (J9 prog w) A (.call (.ref C) ⟨vs,kw⟩) R s:=by
 obtain⟨hh,g,d,t,os⟩:=s;exact PySem.W.make_core (PySem.W.makes_of X hm) (PySem.W.looks_findIn X hi) (fun self=>PySem.W.bind_fn X self hf) (.inl rfl) h
end
theorem i8.some_of{v:V}{o:Option s0}(r:i8 (some v) o):∃u,o=some u/\aF v u:=by
 cases o with
 |none=>exact(show False from r).elim
 |some u=>exact⟨u,rfl,r⟩
theorem sP{v:V}{u:s0}(r:aF v u):PySem.W.handedIn u=true:=by
 cases v with
 |non=>cases(show u=K0 from r);rfl
 |bl b=>cases(show u=ag7 b from r);rfl
 |int i=>obtain⟨t,e⟩:=(show ∃t,u=ap1 i t from r);cases e;rfl
 |str x=>obtain⟨t,e⟩:=(show ∃t,u=ak8 x t from r);cases e;rfl
 |byt b=>obtain⟨t,e⟩:=(show ∃t,u=s0.bytes b t from r);cases e;rfl
 |flt b=>obtain⟨t,e⟩:=(show ∃t,u=s0.float b t from r);cases e;rfl
 |ref a=>cases(show u=F3 a from r);rfl
 |ty n=>cases(show u=O0 n from r);rfl
structure Cls(K:u8) (C:E5):Prop where
 pg:PySem.W.plainGet K C Str.empty=true
 hd:ag8 K C=true
 po:PySem.W.plainOver K C=true
 sa:N8 K (.ref C) "__setattr__"=some (some (.builtin "object.__setattr__"))
theorem Cls.get{K:u8}{C:E5}(c:Cls K C) (f:Str):PySem.W.plainGet K C f=true:=c.pg
section
variable{X:Cx}{aa:List (E5×Obj)}{σ:St}{H:Hp}{s:E2}{a C dx:E5}{fs:List (Str×V)}{f:Str}{v:V}{A:L8}{E:s0->E2->Prop}
theorem Inv.made(I:Inv X aa σ H s):Inv X aa σ (upd (upd H s.heap.objs.size (.own (s.heap.objs.size+1))) (s.heap.objs.size+1) (.ins C s.heap.objs.size []))
  { s with heap:=(s.heap.push T4).push (ad1 C s.heap.objs.size) }:=by
 have e1:(s.heap.push T4).get? s.heap.objs.size=some T4:=F0 s.heap rfl;have e2:((s.heap.push T4).push (ad1 C s.heap.objs.size)).get? (s.heap.objs.size+1)=some (ad1 C s.heap.objs.size):=by
  have:=F0 (s.heap.push T4) (o:=ad1 C s.heap.objs.size) rfl
  rwa [R8]at this
 have e3:(s.heap.push T4).Ns s.heap.objs.size (fun _=>none):=⟨T4,#[],_,e1,rfl,(fun e he=>absurd he (by simp)),fun _=>rfl⟩;have I1:=I.laid (a:=s.heap.objs.size) (o:=.own (s.heap.objs.size+1)) (h':=s.heap.push T4) (t':=s.toks) (fun b u q=>E1 _ q) (F5 _) ⟨_,e1⟩;refine I1.laid (a:=s.heap.objs.size+1) (o:=.ins C s.heap.objs.size []) (t':=s.toks) (fun b u q=>E1 _ q) (Nat.le_of_eq (R8 _ _)) ?_;have ne:s.heap.objs.size≠s.heap.objs.size+1:=F8 (U7 _);refine⟨by rw[aB ne,az],O4 _,ne,e2,fun _=>none,(I0.Ns1.of_empty e3).at fun o q=>E1 _ q,fun _=>ag9,fun y hy=>absurd rfl hy⟩
theorem yH{prog:J4}{w:O3}{env:Env}{e:K4}{f:Str}{pos:Pos}{s:E2}{Q:s0->E2->Prop}(hb:aa7 e f env (Z4 e env)=Z4 e env)
  (h:F6 (J9 prog w) A (Z4 e env) (fun o s₁=>F6 (J9 prog w) A (getAttr o f true) Q E s₁) E s):F6 (J9 prog w) A (Z4 (.Attribute e f pos) env) Q E s :=
 Attribute_any_ h (by rw[arm_eval_Attribute,hb])
end
structure bt(k:Nat) (A:L8):Prop where
 hd:A.handled=none
 dp:A.depth+3*k+5<recursionLimit
 un:A.units+16*k+200<ae6
theorem bt.mono{j k:Nat}{A:L8}(r:bt k A) (h:j<=k):bt j A:=⟨r.hd,by have:=r.dp;lia,by have:=r.un;lia⟩
theorem bt.deeper{k:Nat}{A:L8}(r:bt (k+1) A) (env:Env):bt k (A.deeper env) :=
 ⟨r.hd,by have:=r.dp;show A.depth+1+3*k+5<_;lia,by have:=r.un;show A.units+3+16*k+200<_;lia⟩
theorem bt.in1{k:Nat}{A:L8}(r:bt (k+1) A):bt k A.in1 :=
 ⟨r.hd,by have:=r.dp;show A.depth+3*k+5<_;lia,by have:=r.un;show A.units+1+16*k+200<_;lia⟩
theorem qa{A:L8}{C:E5}{us:List s0}{kw:List (Str×s0)}:(A.under (.builtin "type.__call__" ⟨.ref C::us,kw⟩)).depth=A.depth+1:=by
 first|rfl|simp[L8.under,ap3.weight,ap3.isCreation,ap3.isGuard,ap3.isCaller,ap3.frames,ap3.isFrame,guardIds]
theorem pR{A:L8}{C:E5}{us:List s0}{kw:List (Str×s0)}:(A.under (.builtin "type.__call__" ⟨.ref C::us,kw⟩)).units=A.units+1:=by
 first|rfl|simp[L8.under,ap3.cUnits,ap3.frames,ap3.isFrame]
theorem bt.make{k:Nat}{A:L8}(r:bt (k+1) A) (C:E5) (us:List s0) (kw:List (Str×s0)):bt k (A.under (.builtin "type.__call__" ⟨.ref C::us,kw⟩)) :=
 ⟨r.hd,by have:=r.dp;rw[qa];lia,by have:=r.un;rw[pR];lia⟩
theorem bt.depth{k:Nat}{A:L8}(r:bt k A):A.depth<recursionLimit:=by have:=r.dp;lia
theorem bt.units{k:Nat}{A:L8}(r:bt k A):A.units+64<ae6:=by have:=r.un;lia
def A0:TA:=fun _ H Q=>Q [] H
def rn(ta:TE) (tr:TA):TA:=fun σ H Q=>ta σ H fun x H1=>tr σ H1 fun xs H2=>Q (x::xs) H2
section
variable{X:Cx}{e:K4}{es:List K4}{te:TE}{t:TA}{pos:Pos}
theorem dw:PA X [] A0:=fun _ _ _ _ H Q I h=>Calls.spliced_nil ⟨[],H,I,.nil,h⟩
theorem bf(ha:PE X e te) (hr:PA X es t) (hs:E8 (e::es) X.env=(false,Z4 e X.env)::E8 es X.env:=by rfl):PA X (e::es) (rn te t):=by
 intro pos aa s σ H Q I h;rw[hs];show F6 _ _ (spliced ((false,Z4 e X.env)::V0 pos (E8 es X.env))) _ _ s;refine Calls.spliced_cons (thn (ha aa s σ H _ I h) fun u s1 hup=>hup.el fun x H1 I1 r1 q1=>?_);exact thn (hr pos aa s1 σ H1 _ I1 q1) fun us s2 hup=>hup.el fun xs H2 I2 r2 q2=>⟨x::xs,H2,I2,.cons r1 r2,q2⟩
def Dk(t:TA):TE:=fun σ H Q=>t σ H fun xs H1=>xs.length<=E4/\∀p,H1 p=none->Q (.ref p) (upd H1 p (.tup xs))
def DO(t:TA):TE:=fun σ H Q=>t σ H fun xs H1=>xs.length<=E4/\∀p,H1 p=none->Q (.ref p) (upd H1 p (.lst xs))
theorem mQ{x1}(h:PA X es t):PE X (.Tuple es x1 pos) (Dk t):=by
 intro aa s σ H Q I hq;refine wpAny_Tuple_spliced (thn (h pos aa s σ H _ I hq) fun us s1 ⟨xs,H1,I1,r,z,q⟩=>⟨by rw[<-r.length];exact z,?_⟩);have hf:H1 s1.heap.objs.size=none:=I1.hok.fresh (F5 _);refine⟨.ref s1.heap.objs.size,upd H1 s1.heap.objs.size (.tup xs),I1.laid (t':=s1.toks) (fun b u e=>E1 _ e) (F5 _) ?_,rfl,q _ hf⟩;exact⟨z,us,r,⟨_,F0 _ rfl,rfl,⟨_,rfl⟩,rfl⟩⟩
theorem vW(h:PA X es t):PE X (.List es pos) (DO t):=by
 intro aa s σ H Q I hq;refine wpAny_List_spliced (thn (h pos aa s σ H _ I hq) fun us s1 ⟨xs,H1,I1,r,z,q⟩=>⟨by rw[<-r.length];exact z,?_⟩);have hf:H1 s1.heap.objs.size=none:=I1.hok.fresh (F5 _);refine⟨.ref s1.heap.objs.size,upd H1 s1.heap.objs.size (.lst xs),I1.laid (t':=s1.toks) (fun b u e=>E1 _ e) (F5 _) ?_,rfl,q _ hf⟩;exact⟨z,us,0,r,F0 _ rfl⟩
end
abbrev Sp:=List V->Hp->VK->XK->Prop
abbrev CXT:=List Env->Hp->E2->XK->s0->E2->Prop
structure kF(P:J4) (w:O3) (K:u8) (mg:Str->Option s0) (base:I0) (A:L8) (outer:List Env) (s:E2) (H:Hp):Prop where
 frames:A.frames=some outer
 mod:Mod K mg base
 bs:∀b o,base.get? b=some o->s.heap.get? b=some o/\H b=none
 bsz:base.objs.size<=s.heap.objs.size
 funs:s.heap.FunFrames base outer
 frf:∀b∈frs outer,H b=none
 hok:HOk P w H s.heap
 bare:ai4 s.gens
def CE(outer:List Env) (P:J4) (w:O3) (H:Hp) (s:E2) (Q:VK) (u:s0) (s':E2):Prop :=
 ∃v H',s'.os=s.os/\ai4 s'.gens/\Un (frs outer) [] H H' s.heap s'.heap/\HOk P w H' s'.heap/\aF v u/\Q v H'
def CR(CX:CXT) (outer:List Env) (P:J4) (w:O3) (H:Hp) (s:E2) (Q:VK) (E:XK) (r:an7) (s':E2):Prop :=
 match r with
 |.ok (.ret u)=>CE outer P w H s Q u s'
 |.ok _=>False
 |.error e=>CX outer H s E e s'
structure aO(P:J4) (w:O3) (K:u8) (mg:Str->Option s0) (base:I0) (CX:CXT) (k:Nat) (f:E5) (fd:K1) (ps:List Str) (sp:Sp):Prop where
 len:∀vs H Q E,sp vs H Q E->vs.length=ps.length
 run:∀(A:L8) (outer:List Env) (s:E2) (H:Hp) (args:Args) (us:List s0) (vs:List V) (Q:VK) (E:XK),bt k A->kF P w K mg base A outer s H->ao4 s fd args (ps.zip us)->ax vs us->sp vs H Q E ->
  ac2 (J9 P w) A (.call (.ref f) args) (CR CX outer P w H s Q E) s
theorem kF.make{P:J4}{w:O3}{K:u8}{mg:Str->Option s0}{base:I0}{A:L8}{outer:List Env}{s:E2}{H:Hp}(e:kF P w K mg base A outer s H) (C:E5) (us:List s0) (kw:List (Str×s0)) :
  kF P w K mg base (A.under (.builtin "type.__call__" ⟨.ref C::us,kw⟩)) outer s H:=⟨by first|exact e.frames|(simpa[L8.under,ap3.envs,ap3.isFrame,pushEnvs]using e.frames),e.mod,e.bs,e.bsz,e.funs,e.frf,e.hok,e.bare⟩
theorem kF.in1{P:J4}{w:O3}{K:u8}{mg:Str->Option s0}{base:I0}{A:L8}{outer:List Env}{s:E2}{H:Hp}(e:kF P w K mg base A outer s H) :
  kF P w K mg base A.in1 outer s H:=⟨e.frames,e.mod,e.bs,e.bsz,e.funs,e.frf,e.hok,e.bare⟩
section
variable{X:Cx}{aa:List (E5×Obj)}{σ:St}{H:Hp}{s s':E2}
theorem Inv.env0(I:Inv X aa σ H s):kF X.prog X.w X.K X.mg X.base X.A X.stack s H :=
 ⟨I.ok.frames,I.ok.mod,I.bs,Q0 I.ok.bsz I.sz,I.stack,I.stkFree,I.hok,I.bare⟩
theorem Inv.after{Q:VK}{u:s0}(I:Inv X aa σ H s) (h:CE X.stack X.prog X.w H s Q u s'):EP X aa σ Q u s':=by
 obtain⟨v,H',os,bare,un,hok,r,q⟩:=h;obtain⟨hh,g,d,t,os'⟩:=s';obtain rfl:os'=s.os:=os;exact⟨v,H',I.call (h':=hh) (g':=g) (d':=d) (t':=t) (ch:=[]) un hok bare (fun b z=>absurd z (by simp)),r,q⟩
end
def BX(sp:Sp) (dvs:List V) (E:XK) (t:TA):TE:=fun σ H Q=>t σ H fun vs H1=>sp (vs++dvs) H1 Q E
def BI(C:E5) (sp:Sp) (dvs:List V) (E:XK) (t:TA):TE:=fun σ H Q=>t σ H fun vs H1=>∀x dx,H1 x=none->H1 dx=none->dx≠x ->
 sp (.ref x::(vs++dvs)) (upd (upd H1 dx (.own x)) x (.ins C dx [])) (fun v H2=>v=.non/\Q (.ref x) H2) E
def bQ(K:u8) (fd:K1) (ps:List Str) (ds:List s0):Prop :=
 ∀(s:E2) (us:List s0),K.In s.heap->(us++ds).length=ps.length->ao4 s fd ⟨us,[]⟩ (ps.zip (us++ds))
theorem bQ.all{K:u8}{fd:K1}{ps:List Str}(h:∀us:List s0,us.length=ps.length->bindArgs fd ⟨us,[]⟩=ad0 (ps.zip us)):bQ K fd ps []:=fun s us _ hl=>by
 rw[R7]at hl ⊢;exact .of_eq (h us hl)
def ft(CX:CXT) (X:Cx) (E:XK):Prop:=∀(aa:List (E5×Obj)) (σ:St) (H:Hp) (s:E2) (e:s0) (s':E2),Inv X aa σ H s->CX X.stack H s E e s'->X.xe e s'
section
variable{X:Cx}{CX:CXT}{k:Nat}{f C:E5}{fd:K1}{ps:List Str}{sp:Sp}{dvs:List V}{ds:List s0}{E:XK}{x m:Str}{p pos dP:Pos}{e o:K4}{es:List K4}{ta:TE}{t:TA}
theorem A7{aa:List (E5×Obj)}{σ:St}{H:Hp}{s:E2}{Q:VK}{us:List s0}{vs:List V}(F:aO X.prog X.w X.K X.mg X.base CX k f fd ps sp) (hr:bt k X.A) (hb:bQ X.K fd ps ds) (hd:ax dvs ds) (hx:ft CX X E)
  (I:Inv X aa σ H s) (r:ax vs us) (h:sp (vs++dvs) H Q E):F6 (J9 X.prog X.w) X.A (ap2 (.ref f) us) (EP X aa σ Q) X.xe s:=by
 have r2:ax (vs++dvs) (us++ds):=r.append hd;have hl:(us++ds).length=ps.length:=by rw[<-r2.length];exact F.len _ _ _ _ h
 refine ad9 (ad5 (F.run X.A X.stack s H ⟨us,[]⟩ (us++ds) (vs++dvs) Q E hr I.env0 (hb s us I.kIn hl) r2 h) fun r s' hq=>?_);cases r with
 |error e=>exact hx aa σ H s e s' I hq
 |ok fl =>
  cases fl with
  |ret u=>exact I.after hq
  |next=>exact Q6 hq
  |brk=>exact Q6 hq
  |cont=>exact Q6 hq
theorem m6(F:aO X.prog X.w X.K X.mg X.base CX k f fd ps sp) (hr:bt k X.A) (hg:Gl X x) (hm:X.mg x=some (.ref f)) (hk:S5 X.K (.ref f)=true) (hb:bQ X.K fd ps ds) (hd:ax dvs ds) (hx:ft CX X E)
  (ha:PA X (e::es) t) (hdb:(x==("__debug__":Str))=false:=by decide) (he:E8 (e::es) X.env=(false,Z4 e X.env)::E8 es X.env:=by rfl) (hpl:(V0 pos (E8 es X.env)).any (·.1)=false:=by rfl) :
  PE X (.Call (.Name x p) (e::es) [] pos) (BX sp dvs E t):=by
 intro aa s σ H Q I h;refine aa8 (fM I hg hm ?_ hdb);refine af9 (h₀:=X.base) I.ok.mod.kin hk (thn (ha pos aa s σ H _ I h) fun us s1 hup=>hup.el fun vs H1 I1 r q=>⟨I1.kIn,?_⟩) he hpl;exact A7 F hr hb hd hx I1 r q
structure Mk(K:u8) (C f:E5):Prop where
 makes:PySem.W.makesIn K C=true
 init:N8 K (.ref C) "__init__"=some (some (.ref f))
 fn:PySem.W.isFn K (.ref f)=true
 kp:S5 K (.ref C)=true
theorem tW{aa:List (E5×Obj)}{σ:St}{H:Hp}{s:E2}{Q:VK}{us:List s0}{vs:List V}(M:Mk X.K C f) (F:aO X.prog X.w X.K X.mg X.base CX k f fd ps sp) (hr:bt (k+1) X.A) (hb:bQ X.K fd ps ds) (hd:ax dvs ds)
  (hx:ft CX X E) (I:Inv X aa σ H s) (r:ax vs us)
  (h:∀x dx,H x=none->H dx=none->dx≠x->sp (.ref x::(vs++dvs)) (upd (upd H dx (.own x)) x (.ins C dx [])) (fun v H2=>v=.non/\Q (.ref x) H2) E) :
  F6 (J9 X.prog X.w) X.A (ap2 (.ref C) us) (EP X aa σ Q) X.xe s:=by
 have hq:=h (s.heap.objs.size+1) s.heap.objs.size (I.hok.fresh (ad6 _)) (I.hok.fresh (F5 _)) (F8 (U7 _));have I2:=Inv.made (C:=C) I;have r2:ax (V.ref (s.heap.objs.size+1)::(vs++dvs)) (F3 (s.heap.objs.size+1)::(us++ds)):=.cons rfl (r.append hd);have hl:(F3 (s.heap.objs.size+1)::us++ds).length=ps.length:=by
  have e:=r2.length;rw[F.len _ _ _ _ hq]at e;exact e.symm
 refine ad9 (ve (f:=f) I.kIn M.makes M.init (beq_iff_eq.mp M.fn) (ad5 (F.run _ X.stack _ _ ⟨F3 (s.heap.objs.size+1)::us,[]⟩ (F3 (s.heap.objs.size+1)::(us++ds)) _ _ E (hr.make C us [])
  (I2.env0.make C us []) (hb _ (F3 (s.heap.objs.size+1)::us) I2.kIn hl) r2 hq) fun r s' hq'=>?_))
 cases r with
 |error e=>exact hx aa σ _ _ e s' I2 hq'
 |ok fl =>
  cases fl with
  |ret u =>
   obtain⟨v,H',I3,rv,ev,q3⟩:=I2.after hq';subst ev;exact⟨rv,⟨V.ref (s.heap.objs.size+1),H',I3,rfl,q3⟩⟩
  |next=>exact Q6 hq'
  |brk=>exact Q6 hq'
  |cont=>exact Q6 hq'
theorem wG(M:Mk X.K C f) (F:aO X.prog X.w X.K X.mg X.base CX k f fd ps sp) (hr:bt (k+1) X.A) (hg:Gl X x) (hm:X.mg x=some (.ref C)) (hb:bQ X.K fd ps ds) (hd:ax dvs ds) (hx:ft CX X E)
  (ha:PA X (e::es) t) (hdb:(x==("__debug__":Str))=false:=by decide) (he:E8 (e::es) X.env=(false,Z4 e X.env)::E8 es X.env:=by rfl) (hpl:(V0 pos (E8 es X.env)).any (·.1)=false:=by rfl) :
  PE X (.Call (.Name x p) (e::es) [] pos) (BI C sp dvs E t):=by
 intro aa s σ H Q I h;refine aa8 (fM I hg hm ?_ hdb);refine af9 (h₀:=X.base) I.ok.mod.kin M.kp (thn (ha pos aa s σ H _ I h) fun us s1 hup=>hup.el fun vs H1 I1 r q=>⟨I1.kIn,?_⟩) he hpl;exact tW M F hr hb hd hx I1 r q
end
structure aA(N P:List Str) (sc:aa5):Prop where
 kind:sc.kind=.function
 co:sc.isCoroutine=false
 gen:sc.isGenerator=false
 nd:N.Nodup
 pre:N.take P.length=P
 par:∀x∈P,sc.names.lookup x=some .local∨sc.names.lookup x=some .cell
 nofree:∀y∈sc.names,y.2≠.free
theorem lx{ak2:Str->Option R5}{x:Str}:∀{binds:List (Str×s0)}{m:Str->Option s0},(∀v,(x,v)∉binds)->bindL ak2 binds m x=m x
 |[],_,_=>rfl
 |(n,v)::r,m,h=>by
  unfold bindL;rw[lx fun w hw=>h w (F7 _ hw)]
  split
  ·have:x≠n:=by rintro rfl;exact h v P0
   simp[this]
  ·rfl
theorem lH{ak2:Str->Option R5}{x:Str}:∀{binds:List (Str×s0)}{m:Str->Option s0},(∀v,(x,v)∉binds)->bindC ak2 binds m x=m x
 |[],_,_=>rfl
 |(n,v)::r,m,h=>by
  unfold bindC;rw[lH fun w hw=>h w (F7 _ hw)]
  split
  ·rfl
  ·have:x≠n:=by rintro rfl;exact h v P0
   simp[this]
theorem lT{ak2:Str->Option R5}{x:Str}{v:s0}:∀{P:List Str}{vs:List s0}{i:Nat}{m:Str->Option s0},P.Nodup->P[i]?=some x->vs[i]?=some v->ak2 x=some .local ->
  bindL ak2 (P.zip vs) m x=some v
 |[],_,_,_,_,h,_,_=>by simp at h
 |_::_,[],_,_,_,_,h,_=>by simp at h
 |p::P,w::vs,0,m,nd,h1,h2,hk=>by
  simp at h1 h2;subst h1;subst h2;show bindL ak2 ((p,w)::P.zip vs) m p=_;unfold bindL;rw[lx fun v hv=>(ad7.mp nd).1 (List.of_mem_zip hv).1,if_pos hk];simp
 |p::P,w::vs,i+1,m,nd,h1,h2,hk=>by
  show bindL ak2 ((p,w)::P.zip vs) m x=_;unfold bindL;exact lT (i:=i) (ad7.mp nd).2 (by simpa using h1) (by simpa using h2) hk
theorem lK{ak2:Str->Option R5}{x:Str}{v:s0}:∀{P:List Str}{vs:List s0}{i:Nat}{m:Str->Option s0},P.Nodup->P[i]?=some x->vs[i]?=some v->ak2 x≠some .local ->
  bindC ak2 (P.zip vs) m x=some v
 |[],_,_,_,_,h,_,_=>by simp at h
 |_::_,[],_,_,_,_,h,_=>by simp at h
 |p::P,w::vs,0,m,nd,h1,h2,hk=>by
  simp at h1 h2;subst h1;subst h2;show bindC ak2 ((p,w)::P.zip vs) m p=_;unfold bindC;rw[lH fun v hv=>(ad7.mp nd).1 (List.of_mem_zip hv).1,if_neg hk];simp
 |p::P,w::vs,i+1,m,nd,h1,h2,hk=>by
  show bindC ak2 ((p,w)::P.zip vs) m x=_;unfold bindC;exact lK (i:=i) (ad7.mp nd).2 (by simpa using h1) (by simpa using h2) hk
def eR(N:List Str) (vs:List V):St:=vs.map some++E6 (N.length-vs.length) none
noncomputable def fm(CX:CXT) (P:J4) (w:O3) (K:u8) (mg:Str->Option s0) (base:I0) (N:List Str) (qual:Str) (scope:aa5) (f:E5) (cd:s0) (A:L8) (outer:List Env) (s:E2) (H:Hp) (E:XK):Cx where
 prog:=P
 w:=w
 K:=K
 mg:=mg
 base:=base
 A:=A.deeper (W9 qual scope s.heap.objs.size f cd)
 N:=N
 s₀:=s
 H₀:=H
 env:=W9 qual scope s.heap.objs.size f cd
 outer:=outer
 stack:=W9 qual scope s.heap.objs.size f cd::outer
 ex:=[]
 calm:=true
 fn:=fun _=>true
 pn:=[]
 xe:=fun e s'=>F6 (J9 P w) (A.deeper (W9 qual scope s.heap.objs.size f cd)) (ao5 (W9 qual scope s.heap.objs.size f cd) e) (fun _ s''=>CX outer H s E e s'') (fun e' s''=>CX outer H s E e' s'') s'
theorem ou{sc:aa5}{n:Nat}{x:Str}(h:sc.names.lookup x=some .cell):∃c,(ap4 n sc.names []).lookup x=some c:=by
 have q:=PySem.W.cellsFrom_some sc.names n [] (.inl h);exact T5.mp q
theorem sA{CX:CXT}{P:J4}{w:O3}{K:u8}{mg:Str->Option s0}{base:I0}{N ps:List Str}{qual:Str}{scope:aa5}{f:E5}{cd:s0}{A:L8}{outer:List Env}{s s1:E2}{H:Hp}{E:XK}{us:List s0}{vs:List V}
  (S:aA N ps scope) (hd:A.handled=none) (e0:kF P w K mg base A outer s H) (hl:vs.length=ps.length) (r:ax vs us)
  (x:InCallC s s.heap.objs.size (bindL (W9 qual scope s.heap.objs.size f cd).kindOf (ps.zip us) fun _=>none) (ap4 (s.heap.objs.size+1) scope.names []) (bindC (W9 qual scope s.heap.objs.size f cd).kindOf (ps.zip us) fun _=>none) s1) :
  Inv (fm CX P w K mg base N qual scope f cd A outer s H E) [] (eR N vs) H s1:=by
 have hpl:ps.length<=N.length:=by have:=congrArg V3 S.pre;rw[K9]at this;lia
 obtain⟨h1,tk,rfl,hk⟩:=x.done;have noA:∀b:E5,b∉(fm CX P w K mg base N qual scope f cd A outer s H E).ex:=fun b z=>absurd (show b∈([]:List E5)from z) (by simp);refine⟨⟨e0.mod,S.kind,rfl,rfl,F5 _,fun y z c h1 h2=>?_,fun y hy=>?_,fun y c _ h=>?_,fun _=>hd,L8.frames_deeper e0.frames,.inr ⟨rfl,rfl⟩,fun b z=>absurd z (noA b),e0.bs,e0.bsz,fun b _ _=>noA b,fun b z=>absurd z (noA b),e0.funs,e0.frf⟩,
  rfl,e0.bare,Un.kept hk,⟨_,x.toInCall.ns,fun i y v h1 h2 h3=>?_⟩,fun y c h=>⟨_,x.cell y c h⟩,e0.hok.fresh (F5 _),fun y c h=>?_,fun p hp=>absurd (show p∈([]:List (E5×Obj))from hp) (by simp),e0.hok.kept hk,?_⟩
 ·exact name_of_addr x.apart (P8 h1) (P8 h2)
 ·have hy:scope.names.lookup y=some .cell∨scope.names.lookup y=some .free:=hy;rcases hy with hy|hy
  ·exact ou hy
  ·exact absurd rfl (S.nofree _ (P8 hy))
 ·exact ak1 (x.above y c (P8 h))
 ·have hi:i<vs.length:=by
   unfold eR at h2
   by_cases hi:i<vs.length
   ·exact hi
   ·rw[S3 (by simpa using hi)]at h2;rw[ac3]at h2
    split at h2<;>cases h2
  have ha:vs[i]?=some v:=by
   unfold eR at h2;rw[P9 (by simpa using hi),L7]at h2;cases e:vs[i]? with
   |none=>rw[e]at h2;cases h2
   |some a=>rw[e]at h2;cases h2;rfl
  obtain⟨u,hu,rv⟩:=r.get ha;have hp:ps[i]?=some y:=by
   rw[<-S.pre,List.getElem?_take_of_lt (by lia)];exact h1
  have ndP:ps.Nodup:=by rw[<-S.pre];exact S.nd.sublist (List.take_sublist _ _)
  refine⟨u,rv,?_⟩;rcases S.par y (J8 hp)with k|k
  ·exact .inl ⟨k,lT ndP hp hu k⟩
  ·obtain⟨c,e⟩:=ou (n:=s.heap.objs.size+1) k;refine .inr ⟨.inl k,c,e,?_⟩;have q:=x.cell y c e;rw[lK ndP hp hu (by show scope.names.lookup y≠_;rw[k];decide)]at q;exact q
 ·exact e0.hok.fresh (ak1 (x.above y c (P8 h)))
 ·unfold eR;show _=N.length;rw[K7,E7,List.length_replicate]
  lia
theorem ze{CX:CXT}{P:J4}{w:O3}{K:u8}{mg:Str->Option s0}{base:I0}{k:Nat}{f:E5}{name qual:Str}{params:Arguments}{body:List Z7}{scope:aa5}{dV kV doc pm cdv ct oc:s0}{an od:Option E5}
  {osl:Array (Option s0)} {N ps:List Str} {sp:Sp} (lk:K.lookup f=some ⟨oc,od,.func (aa9 name qual params body scope dV kV doc pm an cdv ct),osl⟩) (hcd:ah9 K cdv qual=true) (S:aA N ps scope)
  (len:∀vs H Q E,sp vs H Q E->vs.length=ps.length)
  (hbody:∀ (A:L8) (outer:List Env) (s:E2) (H:Hp) (vs:List V) (Q:VK) (E:XK),bt k (A.deeper (W9 qual scope s.heap.objs.size f cdv)) → sp vs H Q E →
   ∃t,PSs (fm CX P w K mg base N qual scope f cdv A outer s H E) body t/\t { nx:=fun _ H'=>Q .non H',rt:=Q } (eR N vs) H) :
  aO P w K mg base CX (k+1) f (aa9 name qual params body scope dV kV doc pm an cdv ct) ps sp:=by
 refine⟨len,fun A outer s H args us vs Q E hr e0 hb r hsp=>?_⟩;have hl:=len _ _ _ _ hsp;have KX:K.In s.heap:=e0.mod.kin.keeps fun b o e=>(e0.bs b o e).1;have lim:s.heap.NoLimit:=e0.mod.nolimit.keeps fun b o e=>(e0.bs b o e).1;have hkind:∀y∈ps.zip us,scope.names.lookup y.1=some .local∨(scope.names.lookup y.1=some .cell/\((ap4 (s.heap.objs.size+1) scope.names []).lookup y.1).isSome=true):=fun⟨n,v⟩ hy=>by
  rcases S.par n (List.of_mem_zip hy).1 with q|q
  ·exact .inl q
  ·exact .inr ⟨q,PySem.W.cellsFrom_some _ _ _ (.inl q)⟩
 refine codeAny_call_function hr.depth (KX _ _ lk) rfl S.co S.gen rfl (PySem.W.codeRec_of KX hcd) (hb _ _ _ _ ?_);refine wpAny_newFunctionEnv_cells S.kind hkind fun env he s1 x=>?_;subst he;refine⟨lim.keeps x.toInCall.keep,codeAny_func ?_⟩;obtain⟨t,ht,hq⟩:=hbody A outer s H vs Q E (hr.deeper _) hsp;have I:Inv (fm CX P w K mg base N qual scope f cdv A outer s H E) [] (eR N vs) H s1:=sA S hr.hd e0 hl r x;refine L5 (ht [] s1 (eR N vs) H _ I hq) (fun fl s' hs=>?_) fun e s' hs=>hs;have fin:∀{σ':St} {H':Hp} {v:V} {u:s0},Inv (fm CX P w K mg base N qual scope f cdv A outer s H E) [] σ' H' s'->aF v u->Q v H'->CE outer P w H s Q u s' :=
  fun {σ' H' v u} J rv q=>⟨v,H',J.os,J.bare,J.base,J.hok,rv,q⟩
 cases fl with
 |ret u =>
  obtain⟨v,σ',H',J,rv,q⟩:=hs;exact fin J rv q
 |next =>
  obtain⟨σ',H',J,q⟩:=hs;exact fin (v:=V.non) (u:=K0) J rfl q
 |brk =>
  obtain⟨_,_,_,q⟩:=hs;exact Q6 q
 |cont =>
  obtain⟨_,_,_,q⟩:=hs;exact Q6 q
section
variable{X:Cx}{x:Str}{p pos:Pos}{e:K4}{es:List K4}{t:TA}{id T:String}{r:List V->Hp->VK->Prop}
def tCB(r:List V->Hp->VK->Prop) (t:TA):TE:=fun σ H Q=>t σ H fun vs H1=>r vs H1 Q
theorem gQ(hc:cw X (.builtin id) r) (hg:Gl X x) (hm:X.mg x=none) (hv:V8 x=some (.builtin id)) (ha:PA X (e::es) t) (hn:x≠"__name__":=by decide) (hdb:(x==("__debug__":Str))=false:=by decide)
  (he:E8 (e::es) X.env=(false,Z4 e X.env)::E8 es X.env:=by rfl) (hpl:(V0 pos (E8 es X.env)).any (·.1)=false:=by rfl):PE X (.Call (.Name x p) (e::es) [] pos) (tCB r t):=by
 intro aa s σ H Q I h;refine aa8 (ij I hg hm hv ?_ hn hdb);exact PyProof.Rows.callWith_builtin1 (thn (ha pos aa s σ H _ I h) fun us s1 hup=>hup.el fun vs H1 I1 r1 q1=>hc aa s1 σ H1 vs us Q I1 r1 q1) he hpl
theorem sJ(hc:cw X (.type T) r) (hg:Gl X x) (hm:X.mg x=none) (hv:V8 x=some (.type T)) (ha:PA X (e::es) t) (hn:x≠"__name__":=by decide) (hdb:(x==("__debug__":Str))=false:=by decide)
  (he:E8 (e::es) X.env=(false,Z4 e X.env)::E8 es X.env:=by rfl) (hpl:(V0 pos (E8 es X.env)).any (·.1)=false:=by rfl):PE X (.Call (.Name x p) (e::es) [] pos) (tCB r t):=by
 intro aa s σ H Q I h;refine aa8 (ij I hg hm hv ?_ hn hdb);exact Z1 (thn (ha pos aa s σ H _ I h) fun us s1 hup=>hup.el fun vs H1 I1 r1 q1=>hc aa s1 σ H1 vs us Q I1 r1 q1) he hpl
end
end L2
namespace HT
open PySem PyProof.Rows
section
open PySem.SeqAt
open PySem.AutoSeq1 (wpAny_loadPart')
open PySem.MeetsSeq PySem.MeetsSeq2 PySem.MeetsSeq3
end
section
variable{prog:J4}{w:O3}{A:L8}{E:s0->E2->Prop}{s:E2}
theorem cat_tup{t b:E5}{vs ws:List s0}{Q:s0->E2->Prop}(ht:am8 s.heap t vs.toArray) (hb:am8 s.heap b ws.toArray) (hv:vs≠[])
  (h1:ws=[]->Q (.ref t) s) (h2:ws≠[]->Q (.ref s.heap.objs.size) { s with heap:=s.heap.push { cls:=.type "tuple",data:=.seq (vs++ws).toArray } })
  (hsz:vs.length+ws.length<=E4):F6 (J9 prog w) A (U8 .Add (.ref t) (.ref b)) Q E s:=by
 obtain⟨⟨cls,dd,data,sl⟩,ho,hc,n,hd⟩:=id ht;obtain⟨⟨cls2,dd2,data2,sl2⟩,ho2,hc2,n2,hd2⟩:=id hb;simp only at hc hd hc2 hd2;subst hc hd hc2 hd2;have e:vs.toArray++ws.toArray=(vs++ws).toArray:=by simp
 by_cases hw:ws=[]
 ·exact concat_meets ⟨_,ho,rfl⟩ ⟨_,ho2,rfl⟩ noFill_tuple_add seq_tuple_add PySem.F.slot_tuple_add PySem.F.entry_tuple_add (PySem.F.args_tuple_add_2 _ _)
   (tuple_addW1 t b vs.toArray ws.toArray n n2 dd dd2 sl sl2 (by simpa using hv) (by simp[hw])) ⟨ho,ho2,h1 hw⟩
 ·refine concat_meets ⟨_,ho,rfl⟩ ⟨_,ho2,rfl⟩ noFill_tuple_add seq_tuple_add PySem.F.slot_tuple_add PySem.F.entry_tuple_add (PySem.F.args_tuple_add_2 _ _)
   (tuple_addW2 t b vs.toArray ws.toArray n n2 dd dd2 sl sl2 (by simpa using hv) (by simpa using hw) (by rw[F1,F1];exact hsz)) ⟨ho,ho2,?_⟩
  rw[e];exact h2 hw
noncomputable def sIx(n d:Nat):Option Int->Nat
 |none=>d
 |some v=>if v<0 then(v+(n:Int)).toNat else min v.toNat n
theorem sIx_none(n d:Nat):sIx n d none=d:=rfl
theorem sIx_nat(n d k:Nat):sIx n d (some (k:Int))=min k n:=by
 show(if(k:Int)<0 then((k:Int)+(n:Int)).toNat else min (k:Int).toNat n)=min k n;rw[if_neg (by lia),Q7]
theorem AB(n d:Nat) (hd:d<=n) (o:Option Int):sIx n d o<=n:=by
 cases o with
 |none=>exact hd
 |some v =>
  show(if v<0 then(v+(n:Int)).toNat else min v.toNat n)<=n
  by_cases hv:v<0
  ·rw[if_pos hv];lia
  ·rw[if_neg hv];exact Nat.min_le_right _ _
theorem qq(v:Int) (n d:Nat):(if v<0 then max (v+(n:Int)) 0 else min v (n:Int))=((sIx n d (some v):Nat):Int):=by
 show(if v<0 then max (v+(n:Int)) 0 else min v (n:Int))=(((if v<0 then(v+(n:Int)).toNat else min v.toNat n):Nat):Int)
 by_cases hv:v<0
 ·simp only[if_pos hv];lia
 ·simp only[if_neg hv];lia
theorem p8(lo hi:Option Int) (n:Nat):J7.Slice.sliceAdjust lo hi 1 (n:Int)=(((sIx n 0 lo:Nat):Int),((sIx n n hi:Nat):Int)):=by
 have h1:¬ ((1:Int)<0):=by lia
 unfold J7.Slice.sliceAdjust;simp only[h1,if_false];refine Prod.ext ?_ ?_
 ·cases lo with
  |none=>rfl
  |some v=>exact qq v n 0
 ·cases hi with
  |none=>rfl
  |some v=>exact qq v n n
theorem pB(i j:Nat):R1 (i:Int) (j:Int) 1=j-i:=by
 unfold R1;have h1:(1:Int) > 0:=by lia
 simp only[h1,if_true,Int.ediv_one]
 split<;>lia
theorem jl{v:s0}{o:Option Int}{Q:Option Int->E2->Prop}(p:an8 v o) (h:Q o s):F6 (J9 prog w) A (J7.Slice.slicePartIndex v) Q E s:=by
 cases p with
 |none=>exact ak7 h
 |int i t=>exact slicePart_int h
theorem er{sl:E5}{vl vu:s0}{lo hi:Option Int}{n:Nat}{Q:Int×Int×Nat->E2->Prop}(hs:s.heap.IsSliceOf sl vl vu .none) (pl:an8 vl lo) (pu:an8 vu hi)
  (h:Q (((sIx n 0 lo:Nat):Int),1,sIx n n hi-sIx n 0 lo) s):F6 (J9 prog w) A (Z9 (.ref sl) (ad0 (n:Int))) Q E s:=by
 obtain⟨os,hos,hcs,hds⟩:=id hs;unfold Z9 J7.Slice.sliceFields;refine o0 (o0 (O7 hos hds (x:=vl) rfl (o0 (O7 hos hds (x:=vu) rfl (o0 (O7 hos hds (x:=.none) rfl (E3 ?_)))))));refine o0 (ak7 ?_);show F6 _ _ (if((1:Int)==0)=true then _ else _) _ _ s;rw[if_neg (by decide)];refine o0 (jl pl (o0 (jl pu (o0 (E3 ?_)))));show F6 _ _ (match J7.Slice.sliceAdjust lo hi 1 (n:Int)with|(lo,hi)=>ad0 (lo,(1:Int),R1 lo hi 1)) _ _ s;rw[p8 lo hi n];show F6 _ _ (ad0 (((sIx n 0 lo:Nat):Int),(1:Int),R1 ((sIx n 0 lo:Nat):Int) ((sIx n n hi:Nat):Int) 1)) _ _ s;rw[pB];exact E3 h
theorem vL(xs:Array s0) (i k:Nat):((W3 k).filterMap fun(m:Nat)=>xs[((i:Int)+(m:Int)*1).toNat]?).toArray=((xs.toList.drop i).take k).toArray:=by
 have e:(fun(m:Nat)=>xs[((i:Int)+(m:Int)*1).toNat]?)=fun m=>xs[i+m]?:=by
  funext m;have:((i:Int)+(m:Int)*1).toNat=i+m:=by lia
  rw[this]
 rw[e];have:=pick_run xs i k;rw[List.filterMap_map]at this;have e2:((fun x=>xs[x]?)∘fun x=>i+x)=fun m=>xs[i+m]?:=rfl;rw[e2]at this;rw[this]
theorem getItem_tuple_cut{t sl:E5}{items:Array s0}{vl vu:s0}{lo hi:Option Int}{Q:s0->E2->Prop}(ht:am8 s.heap t items) (hs:s.heap.IsSliceOf sl vl vu .none) (pl:an8 vl lo) (pu:an8 vu hi)
  (hw:¬ (sIx items.size 0 lo=0/\sIx items.size items.size hi=items.size))
  (h:Q (.ref s.heap.objs.size) { s with heap:=s.heap.push { cls:=.type "tuple",data:=.seq ((items.toList.drop (sIx items.size 0 lo)).take (sIx items.size items.size hi-sIx items.size 0 lo)).toArray } })
  (hsz:items.size<=E4):F6 (J9 prog w) A (aj4 (.ref t) (.ref sl)) Q E s:=by
 have htake:sizeOk (.seq ((items.toList.drop (sIx items.size 0 lo)).take (sIx items.size items.size hi-sIx items.size 0 lo)).toArray):=by
  show((items.toList.drop (sIx items.size 0 lo)).take (sIx items.size items.size hi-sIx items.size 0 lo)).toArray.size<=E4;rw[F1,K9,W5,X9]
  lia
 have hj:sIx items.size items.size hi<=items.size:=AB _ _ (F5 _) hi;obtain⟨os,hos,hcs,hds⟩:=id hs;have hTs:s.TypeIs (.ref sl) "slice":=⟨os,hos,hcs⟩;unfold aj4
 try with_reducible refine P4 ?_
 first|refine o0 (E3 ?_)|skip
 refine o0 (wpAny_sequenceKey ht.typeIs (by decide) ?_);refine o0 (S0 (name:=L4 "__getitem__") ht.typeIs M0
  (aa2 M0 ht.typeIs entry_tuple_getitem ?_ (args_tuple_getitem _ _)))
 show F6 _ _ (aa0 (.ref t) >>= _) _ _ s;refine o0 (ag0 ht ?_);refine o0 (af5 hTs ?_);rw[if_pos (by decide)];refine o0 (er hs pl pu ?_);have hno:¬ ((((sIx items.size 0 lo:Nat):Int)==0&&(1:Int)==1&&(sIx items.size items.size hi-sIx items.size 0 lo)==items.size)=true):=by
  intro q;rw[N7,N7]at q;have q1:((sIx items.size 0 lo:Nat):Int)=0:=eq_of_beq q.1.1;have q2:sIx items.size items.size hi-sIx items.size 0 lo=items.size:=eq_of_beq q.2;exact hw ⟨by lia,by lia⟩
 show F6 _ _ (if(((sIx items.size 0 lo:Nat):Int)==0&&(1:Int)==1&&(sIx items.size items.size hi-sIx items.size 0 lo)==items.size)=true then _ else _) _ _ s;rw[if_neg hno,vL]
 first
  |exact o0 (m:=N0 _) (O8 (E3 ⟨_,rfl,E3 h⟩) htake)
  |exact o0 (m:=N0 _) (O8 (o0 (E3 (E3 ⟨_,rfl,E3 h⟩))) htake)
  |exact o0 (o0 (m:=N0 _) (O8 (E3 (E3 ⟨_,rfl,E3 h⟩)) htake))
  |exact o0 (o0 (m:=N0 _) (O8 (E3 ⟨_,rfl,E3 h⟩) htake))
end
end HT
namespace L2
open PySem PySem.Spec PyProof.Rows
abbrev TO:=St->Hp->(Option Int->Hp->Prop)->Prop
def PO(X:Cx) (e:Option K4) (t:TO):Prop :=
 ∀(aa:List (E5×Obj)) (s:E2) (σ:St) (H:Hp) (Q:Option Int->Hp->Prop),Inv X aa σ H s->t σ H Q ->
  F6 (J9 X.prog X.w) X.A (evalPart e X.env) (fun u s'=>∃o H',Inv X aa σ H' s'/\an8 u o/\Q o H') X.xe s
def xX:TO:=fun _ H Q=>Q none H
def CH(t:TE):TO:=fun σ H Q=>t σ H fun x H1=>∃i,x=.int i/\Q (some i) H1
section
variable{X:Cx}{e:K4}{te:TE}{lo hi:Option K4}{tl th:TO}{pos p2:Pos}
theorem yh:PO X none xX:=by
 intro aa s σ H Q I h;rw[evalPart_none];exact E3 ⟨none,H,I,.none,h⟩
theorem xO(h:PE X e te):PO X (some e) (CH te):=by
 intro aa s σ H Q I hw;rw[evalPart_some];refine thn (h aa s σ H _ I hw) fun u s1 hup=>hup.el fun x H1 I1 r1 q1=>?_;obtain⟨i,rfl,q⟩:=q1;obtain⟨t,rfl⟩:=r1;exact⟨some i,H1,I1,.int i t,q⟩
def SlR(X:Cx) (r:V->Option Int->Option Int->Hp->VK->Prop):Prop :=
 ∀(aa:List (E5×Obj)) (s:E2) (σ:St) (H:Hp) (x:V) (v vl vu:s0) (lo hi:Option Int) (sl:E5) (Q:VK),Inv X aa σ H s->aF x v->s.heap.IsSliceOf sl vl vu .none->an8 vl lo->an8 vu hi->r x lo hi H Q ->
  ∃T id,typeLookup (.type T) "__getitem__"=ad0 (some (.builtin id))/\s.TypeIs v T/\F6 (J9 X.prog X.w) X.A (aj4 v (.ref sl)) (EP X aa σ Q) X.xe s
theorem SlR.or{r r':V->Option Int->Option Int->Hp->VK->Prop}(h:SlR X r) (h':SlR X r'):SlR X (fun x lo hi H Q=>r x lo hi H Q∨r' x lo hi H Q):=by
 intro aa s σ H x v vl vu lo hi sl Q I rx hs pl pu q;rcases q with q|q
 ·exact h aa s σ H x v vl vu lo hi sl Q I rx hs pl pu q
 ·exact h' aa s σ H x v vl vu lo hi sl Q I rx hs pl pu q
def tSl(r:V->Option Int->Option Int->Hp->VK->Prop) (te:TE) (tl th:TO):TE:=fun σ H Q=>te σ H fun x H1=>tl σ H1 fun l H2=>th σ H2 fun u H3=>r x l u H3 Q
theorem nr{r:V->Option Int->Option Int->Hp->VK->Prop}(hr:SlR X r) (he:PE X e te) (hl:PO X lo tl) (hu:PO X hi th):PE X (.Subscript e (.Slice lo hi none p2) pos) (tSl r te tl th):=by
 intro aa s σ H Q I h;refine ao6 (thn (he aa s σ H _ I h) fun v s1 hup=>hup.el fun x H1 I1 r1 q1=>?_);refine wpAny_Slice (thn (hl aa s1 σ H1 _ I1 q1) fun vl s2 ⟨l,H2,I2,pl,q2⟩=>thn (hu aa s2 σ H2 _ I2 q2) fun vu s3 ⟨u,H3,I3,pu,q3⟩=>?_);rw[evalPart_none];refine E3 ?_;have I4:Inv X aa σ H3 { s3 with heap:=s3.heap.push { cls:=.type "slice",data:=.fields #[vl,vu,.none] } }:=I3.kept (t':=s3.toks) fun b ob q=>E1 _ q;obtain⟨T,id,hT,ht,hg⟩:=hr aa { s3 with heap:=s3.heap.push { cls:=.type "slice",data:=.fields #[vl,vu,.none] } } σ H3 x v vl vu l u s3.heap.objs.size Q I4 r1 (I0.IsSliceOf.new ..) pl pu q3;show F6 (J9 X.prog X.w) X.A (subscriptTail e (.Slice lo hi none p2) v (.ref s3.heap.objs.size)) (EP X aa σ Q) X.xe { s3 with heap:=s3.heap.push { cls:=.type "slice",data:=.fields #[vl,vu,.none] } };exact tail_any (ops:=[.ref s3.heap.objs.size,v]) ht hT hg (by with_unfolding_all rfl)
def kE(xs:List V) (lo hi:Option Int):List V:=(xs.drop (HT.sIx xs.length 0 lo)).take (HT.sIx xs.length xs.length hi-HT.sIx xs.length 0 lo)
theorem iN(xs:List V) (lo hi:Option Int):(kE xs lo hi).length<=xs.length:=by
 unfold kE;rw[K9,W5]
 lia
def DV(K:u8):V->Option Int->Option Int->Hp->VK->Prop:=fun x lo hi H Q=>∃a xs,x=.ref a/\SqT K H a xs /\
 ¬ (HT.sIx xs.length 0 lo=0/\HT.sIx xs.length xs.length hi=xs.length)/\∀p,H p=none->Q (.ref p) (upd H p (.tup (kE xs lo hi)))
theorem vf:SlR X (DV X.K):=by
 intro aa s σ H x v vl vu lo hi sl Q I rx hs pl pu h;obtain⟨a,xs,rfl,hx,hw,q⟩:=h;cases rx;obtain⟨its,r,ht,hz⟩:=I.tuple hx;have bu:its.toArray.size=xs.length:=by rw[F1];exact r.length.symm
 refine⟨"tuple",_,M0.lookup,ht.typeIs,?_⟩;refine HT.getItem_tuple_cut ht hs pl pu (by rw[bu];exact hw) ?_ (by rw[bu];exact hz);rw[bu];refine⟨.ref s.heap.objs.size,_,I.laid (t':=s.toks) (o:=.tup (kE xs lo hi)) (fun b ob q=>E1 _ q) (F5 _) ?_,rfl,q _ (I.hok.fresh (F5 _))⟩;exact⟨Q0 (iN xs lo hi) hz,_,(r.drop (HT.sIx xs.length 0 lo)).take (HT.sIx xs.length xs.length hi-HT.sIx xs.length 0 lo),gf.new _ _⟩
def CP(K:u8):R2:=fun x y H Q=>∃a b xs ys,x=.ref a/\y=.ref b/\SqT K H a xs/\SqT K H b ys/\xs≠[]/\xs.length+ys.length<=E4 /\
 (ys=[]->Q (.ref a) H)/\(ys≠[]->∀p,H p=none->Q (.ref p) (upd H p (.tup (xs++ys))))
theorem ax.nil_iff{xs:List V}{us:List s0}(r:ax xs us):us=[]↔xs=[]:=by
 cases r with
 |nil=>simp
 |cons _ _=>simp
theorem wR:OpR X (U8 .Add) (CP X.K):=by
 intro aa s σ H x y v u Q I rx ry h;obtain⟨a,b,xs,ys,rfl,rfl,ha,hb,hx,hz,q1,q2⟩:=h;cases rx;cases ry;obtain⟨its,r1,p1,_⟩:=I.tuple ha;obtain⟨its2,r2,p2,_⟩:=I.tuple hb;refine HT.cat_tup p1 p2 (fun z=>hx (r1.nil_iff.mp z)) (fun z=>⟨.ref a,H,I,rfl,q1 (r2.nil_iff.mp z)⟩) (fun z=>?_) (by rw[<-r1.length,<-r2.length];exact hz);refine⟨.ref s.heap.objs.size,_,I.laid (t':=s.toks) (o:=.tup (xs++ys)) (fun b ob q=>E1 _ q) (F5 _) ?_,rfl,q2 (fun w=>z (r2.nil_iff.mpr w)) _ (I.hok.fresh (F5 _))⟩;exact⟨by rw[K7];exact hz,_,r1.append r2,gf.new _ _⟩
end
noncomputable def ixN(n:Nat) (i:Int):Option Nat:=if 0<=i then(if i<n then some i.toNat else none)else if -(n:Int)<=i then some (i+n).toNat else none
def atI{α:Type}(xs:List α) (i:Int):Option α:=(ixN xs.length i).bind fun j=>xs[j]?
theorem qJ{n:Nat}{i:Int}{j:Nat}(h:ixN n i=some j):seqIndex? i n=some j/\j<n/\-(n:Int)<=i/\i<n:=by
 unfold ixN at h
 by_cases h0:0<=i
 ·rw[if_pos h0]at h
  by_cases h1:i<n
  ·rw[if_pos h1]at h;have e:i.toNat=j:=N3 h;exact⟨by rw[seqIndex_of h0 h1,e],by lia,by lia,h1⟩
  ·rw[if_neg h1]at h;cases h
 ·rw[if_neg h0]at h
  by_cases h1:-(n:Int)<=i
  ·rw[if_pos h1]at h;have e:(i+n).toNat=j:=N3 h;exact⟨by rw[seqIndex_neg (by lia) h1,e],by lia,h1,by lia⟩
  ·rw[if_neg h1]at h;cases h
theorem mx{α:Type}{xs:List α}{i:Int}{v:α}(h:atI xs i=some v):∃j,seqIndex? i xs.length=some j/\xs[j]?=some v/\j<xs.length/\-(xs.length:Int)<=i/\i<xs.length:=by
 unfold atI at h;cases e:ixN xs.length i with
 |none=>rw[e]at h;cases h
 |some j =>
  rw[e]at h;obtain⟨h1,h2,h3,h4⟩:=qJ e;exact⟨j,h1,h,h2,h3,h4⟩
theorem bK{α:Type}{xs:List α}{j:Nat}{v:α}(h:xs[j]?=some v):atI xs (j:Int)=some v:=by
 have hj:j<xs.length:=(F4.mp h).1;have e:ixN xs.length (j:Int)=some j:=by
  unfold ixN;rw[if_pos (by lia),if_pos (by lia)];simp
 unfold atI;rw[e];exact h
def rA(b:K4):Prop:=∀o i,an1 b false o i=operate [o,i] (aj4 o i)
def IxR(X:Cx) (r:R2):Prop :=
 ∀(value slice:K4) (aa:List (E5×Obj)) (s:E2) (σ:St) (H:Hp) (x y:V) (v u:s0) (Q:VK),Inv X aa σ H s->aF x v->aF y u->r x y H Q ->
  an1 slice false v u=operate [v,u] (aj4 v u)->F6 (J9 X.prog X.w) X.A (subscriptTail value slice v u) (EP X aa σ Q) X.xe s
def MtR(X:Cx) (id:String) (r:V->List V->Hp->VK->Prop):Prop :=
 ∀(aa:List (E5×Obj)) (s:E2) (σ:St) (H:Hp) (x:V) (xs:List V) (v:s0) (us:List s0) (Q:VK),Inv X aa σ H s->aF x v->ax xs us->r x xs H Q ->
  F6 (J9 X.prog X.w) X.A (ap2 (.builtin id) (v::us)) (EP X aa σ Q) X.xe s
section
variable{X:Cx}{a b:K4}{ta tb:TE}{pos:Pos}
theorem BH{r:R2}(hr:IxR X r) (ha:PE X a ta) (hb:PE X b tb) (hs:rA b):PE X (.Subscript a b pos) (tOp r ta tb):=by
 intro aa s σ H Q I h;exact ao6 (zT ha hb I h fun v u s2 x y H2 I2 rx ry q=>hr a b aa s2 σ H2 x y v u Q I2 rx ry q (hs _ _))
def DZ(K:u8):R2:=fun x y H Q=>∃p xs i v,x=.ref p/\y=.int i/\SqL K H p xs/\atI xs i=some v/\Q v H
def DJ(K:u8):R2:=fun x y H Q=>∃p xs i v,x=.ref p/\y=.int i/\SqT K H p xs/\atI xs i=some v/\Q v H
def DM:R2:=fun x y H Q=>∃z i c,x=.str z/\y=.int i/\z.length<=E4/\atI z.cps.toList i=some c/\Q (.str ⟨#[c]⟩) H
theorem qv:IxR X (DZ X.K):=by
 intro value slice aa s σ H x y v u Q I rx ry h hs;obtain⟨p,xs,i,z,rfl,rfl,hq,he,q⟩:=h;cases rx;obtain⟨t,rfl⟩:=ry;obtain⟨its,r,pl,hz⟩:=I.list hq;obtain⟨j,h1,h2,h3,h4,h5⟩:=mx he;obtain⟨w,ew,rw'⟩:=r.get h2;have hl:=r.length;have hn:=ik;have fin:EP X aa σ Q w s:=⟨z,H,I,rw',q⟩
 by_cases h0:0<=i
 ·have hj:i.toNat=j:=by
   rw[seqIndex_of h0 h5]at h1;exact N3 h1
  exact item_listR pl.isList h0 (by lia) (by rw[hj];simpa using ew) fin hs
 ·have hj:(i+(its.toArray.size:Int)).toNat=j:=by
   rw[seqIndex_neg (by lia) h4]at h1;rw[F1,<-hl];exact N3 h1
  exact subscriptTail_builtinR (x:=w) pl.isList.typeIs slot_list_getitem.lookup
   (wpAny_getItem_list_neg (Q:=fun r s'=>r=w/\EP X aa σ Q r s') pl.isList (by lia) (by rw[F1]<;>lia) (by lia) (by rw[hj];simpa using ew) ⟨rfl,fin⟩) hs
theorem By:IxR X (DJ X.K):=by
 intro value slice aa s σ H x y v u Q I rx ry h hs;obtain⟨p,xs,i,z,rfl,rfl,hq,he,q⟩:=h;cases rx;obtain⟨t,rfl⟩:=ry;obtain⟨its,r,pl,hz⟩:=I.tuple hq;obtain⟨j,h1,h2,h3,h4,h5⟩:=mx he;obtain⟨w,ew,rw'⟩:=r.get h2;have hl:=r.length;have hn:=ik;have fin:EP X aa σ Q w s:=⟨z,H,I,rw',q⟩;exact subscriptTail_builtinR (x:=w) pl.typeIs slot_tuple_getitem.lookup
  (getItem_tuple (j:=j) (Q:=fun r s'=>r=w/\EP X aa σ Q r s') pl (by lia) (by lia) (by rw[F1,<-hl];exact h1) (by simpa using ew) ⟨rfl,fin⟩) hs
theorem Be:IxR X DM:=by
 intro value slice aa s σ H x y v u Q I rx ry h hs;obtain⟨z,i,c,rfl,rfl,hz,he,q⟩:=h;obtain⟨t,rfl⟩:=rx;obtain⟨t',rfl⟩:=ry;obtain⟨j,h1,h2,h3,h4,h5⟩:=mx he;have hl:z.cps.toList.length=z.length:=by simp[Str.length]
 rw[hl]at h1 h4 h5;have hn:=ik;exact tail_any (typeIs_str s z t) slot_str_getitem.lookup (getItem_str (c:=c) (by
  have e1:decide (i < -(2 ^ 63:Int))=false:=decide_eq_false (by lia);have e2:decide (i>=2 ^ 63)=false:=decide_eq_false (by lia);rw[e1,e2,Bool.or_false]) (by rw[h1];simpa using h2) ⟨.str ⟨#[c]⟩,H,I.tok _,⟨_,rfl⟩,q⟩) hs
theorem pN(its:List s0) (n j:Nat) (u:s0):ak9 (·.setIfInBounds j u) { cls:=.type "list",data:=.seq its.toArray n }={ cls:=.type "list",data:=.seq (its.set j u).toArray n }:=by
 simp[ak9]
theorem Inv.lst{aa:List (E5×Obj)}{σ:St}{H:Hp}{s:E2}{p:E5}{xs:List V}(I:Inv X aa σ H s) (h:H p=some (.lst xs)) :
  ∃(its:List s0) (n:Nat),ax xs its/\s.heap.get? p=some { cls:=.type "list",data:=.seq its.toArray n }/\xs.length<=E4:=by
 obtain⟨z,its,n,r,e⟩:=I.hok p _ h;exact⟨its,n,r,e,z⟩
theorem Inv.lstUpd{aa:List (E5×Obj)}{σ:St}{H:Hp}{s:E2}{p:E5}{xs ys:List V}{its its':List s0}{n n':Nat}{f:Obj->Obj}(I:Inv X aa σ H s) (h:H p=some (.lst xs))
  (ho:s.heap.get? p=some { cls:=.type "list",data:=.seq its.toArray n }) (hf:f { cls:=.type "list",data:=.seq its.toArray n }={ cls:=.type "list",data:=.seq its'.toArray n' }) (r:ax ys its') (hz:ys.length<=E4) (t:Nat) :
  Inv X aa σ (upd H p (.lst ys)) { s with heap:=s.heap.update p f,toks:=t }:=by
 have e:(s.heap.update p f).get? p=some { cls:=.type "list",data:=.seq its'.toArray n' }:=by
  rw[P5 f ho (by rw[hf]<;>rfl),hf]
 refine I.write (x:=p) (e:=p) (by rw[h];trivial) (.inl rfl) (fun b u hb q=>(K2 _ _ (M9 hb)).trans q) ⟨_,e⟩ ?_;exact⟨hz,its',n',r,e⟩
def Ci:V->V->V->Hp->(Hp->Prop)->Prop:=fun o i v H Q=>∃p xs k j,o=.ref p/\i=.int k/\H p=some (.lst xs)/\ixN xs.length k=some j/\Q (upd H p (.lst (xs.set j v)))
theorem wu:CW X Ci:=by
 intro aa s σ H o i v ov iv u Q I ro ri rv h;obtain⟨p,xs,k,j,rfl,rfl,hp,hj,q⟩:=h;cases ro;obtain⟨t,rfl⟩:=ri;obtain⟨its,n,r,ho,hz⟩:=I.lst hp;obtain⟨h1,h2,h3,h4⟩:=qJ hj;have hl:=r.length;have hn:=ik;have I':Inv X aa σ (upd H p (.lst (xs.set j v))) { s with heap:=s.heap.update p (ak9 (·.setIfInBounds j u)) } :=
  I.lstUpd hp ho (pN its n j u) (r.set rv j) (by rw[List.length_set];exact hz) s.toks
 by_cases h0:0<=k
 ·have hk:k.toNat=j:=by
   rw[seqIndex_of h0 h4]at h1;exact N3 h1
  exact PySem.W.ki_setAt ho h0 (by lia) (by rw[F1,<-hl];exact h4) (by rw[hk];exact⟨_,I',q⟩)
 ·have hk:(k+(its.toArray.size:Int)).toNat=j:=by
   rw[seqIndex_neg (by lia) h3]at h1;rw[F1,<-hl];exact N3 h1
  exact PySem.W.ki_setBack ho (by lia) (by rw[F1,<-hl];exact h3) (by lia) (by rw[hk];exact⟨_,I',q⟩)
theorem mh(lo hi:Option Int) (n:Nat):(ah0 lo hi none n).1=((HT.sIx n 0 lo:Nat):Int)/\(ah0 lo hi none n).2.1=((HT.sIx n n hi:Nat):Int)/\(ah0 lo hi none n).2.2=1:=by
 refine⟨?_,?_,rfl⟩
 ·cases lo with
  |none=>simp[ah0,HT.sIx]
  |some i =>
   simp only[ah0,HT.sIx,Option.getD_none,show(1:Int) > 0 by decide,if_true]
   by_cases h:i<0
   ·simp only[h,if_true]<;>lia
   ·simp only[h,if_false]<;>lia
 ·cases hi with
  |none=>simp[ah0,HT.sIx]
  |some i =>
   simp only[ah0,HT.sIx,Option.getD_none,show(1:Int) > 0 by decide,if_true]
   by_cases h:i<0
   ·simp only[h,if_true]<;>lia
   ·simp only[h,if_false]<;>lia
theorem kA(its:List s0) (lo hi:Option Int):slicePick its.toArray lo hi none=((its.drop (HT.sIx its.length 0 lo)).take (HT.sIx its.length its.length hi-HT.sIx its.length 0 lo)).toArray:=by
 obtain⟨h1,h2,h3⟩:=mh lo hi its.toArray.size;unfold slicePick;rw[h1,h2,h3];simp only[sliceRange_one,pick_run,F1]<;>rfl
def D3(K:u8):V->Option Int->Option Int->Hp->VK->Prop:=fun x lo hi H Q=>∃a xs,x=.ref a/\SqL K H a xs/\∀p,H p=none->Q (.ref p) (upd H p (.lst (kE xs lo hi)))
theorem qM:SlR X (D3 X.K):=by
 intro aa s σ H x v vl vu lo hi sl Q I rx hs pl pu h;obtain⟨a,xs,rfl,hx,q⟩:=h;cases rx;obtain⟨its,r,ht,hz⟩:=I.list hx;have bu:=r.length;refine⟨"list",_,slot_list_getitem.lookup,ht.isList.typeIs,?_⟩;refine wpAny_getItem_list_slice ht.isList hs pl pu .none (by simp) ?_ (by rw[F1]<;>lia);rw[kA,<-bu];refine⟨.ref s.heap.objs.size,_,I.laid (t':=s.toks) (o:=.lst (kE xs lo hi)) (fun b ob q=>E1 _ q) (F5 _) ?_,rfl,q _ (I.hok.fresh (F5 _))⟩;exact⟨Q0 (iN xs lo hi) hz,_,0,(r.drop (HT.sIx xs.length 0 lo)).take (HT.sIx xs.length xs.length hi-HT.sIx xs.length 0 lo),F0 _ rfl⟩
def fh:V->Bool
 |.non=>true
 |.bl _=>true
 |.int _=>true
 |.str _=>true
 |_=>false
noncomputable def eqV:V->V->Bool
 |.non,.non=>true
 |.bl a,.bl b=>a==b
 |.bl a,.int b=>(if a then 1 else 0)==b
 |.int a,.bl b=>a==(if b then 1 else 0)
 |.int a,.int b=>a==b
 |.str a,.str b=>a==b
 |_,_=>false
theorem BB{A:L8}{s:E2}{y x:V}{u v:s0}(ry:aF y u) (rx:aF x v) (fy:fh y=true) (fx:fh x=true):R9 A s u v (eqV y x):=by
 cases y with
 |non =>
  cases ry;cases x with
  |non=>cases rx;exact R9.same _
  |bl b=>cases rx;exact R9.none_bool b
  |int b=>obtain⟨t,rfl⟩:=rx;exact R9.none_int b t
  |str b=>obtain⟨t,rfl⟩:=rx;exact R9.none_str b t
  |_=>exact absurd (show false=true from fx) P1
 |bl a =>
  cases ry;cases x with
  |non=>cases rx;exact R9.bool_none a
  |bl b=>cases rx;exact R9.bool_bool a b
  |int b=>obtain⟨t,rfl⟩:=rx;exact R9.bool_int a b t
  |str b=>obtain⟨t,rfl⟩:=rx;exact R9.bool_str a b t
  |_=>exact absurd (show false=true from fx) P1
 |int a =>
  obtain⟨t',rfl⟩:=ry;cases x with
  |non=>cases rx;exact R9.int_none a t'
  |bl b=>cases rx;exact R9.int_bool a t' b
  |int b=>obtain⟨t,rfl⟩:=rx;exact R9.int_int a t' b t
  |str b=>obtain⟨t,rfl⟩:=rx;exact R9.int_str a t' b t
  |_=>exact absurd (show false=true from fx) P1
 |str a =>
  obtain⟨t',rfl⟩:=ry;cases x with
  |non=>cases rx;exact R9.str_none a t'
  |bl b=>cases rx;exact R9.str_bool a t' b
  |int b=>obtain⟨t,rfl⟩:=rx;exact R9.str_int a t' b t
  |str b=>obtain⟨t,rfl⟩:=rx;exact R9.str_str a t' b t
  |_=>exact absurd (show false=true from fx) P1
 |_=>exact absurd (show false=true from fy) P1
def eqU(x:V) (u:s0):Bool:=match u with
 |.none=>eqV .non x
 |.bool b=>eqV (.bl b) x
 |.int i _=>eqV (.int i) x
 |.str z _=>eqV (.str z) x
 |_=>false
theorem uH{x y:V}{u:s0}(r:aF y u) (f:fh y=true):eqU x u=eqV y x:=by
 cases y with
 |non=>cases r;rfl
 |bl b=>cases r;rfl
 |int i=>obtain⟨t,rfl⟩:=r;rfl
 |str z=>obtain⟨t,rfl⟩:=r;rfl
 |_=>exact absurd (show false=true from f) P1
theorem mF{x:V}:∀{xs:List V}{us:List s0},ax xs us->xs.all fh=true->us.any (eqU x)=xs.any fun y=>eqV y x
 |_,_,.nil,_=>rfl
 |y::xs,u::us,.cons r t,f=>by
  rw[ai8,N7]at f;rw[X1,X1,uH r f.1,mF t f.2]
theorem j9{A:L8}{s:E2}{x:V}{v:s0}(rx:aF x v) (fx:fh x=true):∀{xs:List V}{us:List s0},ax xs us->xs.all fh=true->∀u∈us,R9 A s u v (eqU x u)
 |_,_,.nil,_=>fun u hu=>by cases hu
 |y::xs,u::us,.cons r t,f=>fun u' hu=>by
  rw[ai8,N7]at f;rcases E9.mp hu with rfl|hu
  ·rw[uH r f.1];exact BB r rx f.1 fx
  ·exact j9 rx fx t f.2 u' hu
def inV(x:V) (xs:List V):Bool:=xs.any fun y=>eqV y x
def rIn(K:u8) (neg:Bool):R2:=fun x y H Q=>∃p xs,y=.ref p/\(SqL K H p xs∨SqT K H p xs)/\fh x=true/\xs.all fh=true/\Q (.bl (if neg then !inV x xs else inV x xs)) H
theorem rP:OpR X (Q9 .In) (rIn X.K false):=by
 intro aa s σ H x y v u Q I rx ry h;obtain⟨p,xs,rfl,hq,fx,fs,q⟩:=h;cases ry;rcases hq with hq|hq
 ·obtain⟨its,r,pl,hz⟩:=I.list hq;refine SeqAt.in_listAt (eqU x) pl.isList (fun w hw=>j9 rx fx r fs w (by simpa using hw)) ⟨.bl _,H,I,rfl,?_⟩;rw[show its.toArray.any (eqU x)=its.any (eqU x)by simp,mF r fs];exact q
 ·obtain⟨its,r,pl,hz⟩:=I.tuple hq;refine SeqAt.in_tupleAt (eqU x) pl (fun w hw=>j9 rx fx r fs w (by simpa using hw)) ⟨.bl _,H,I,rfl,?_⟩;rw[show its.toArray.any (eqU x)=its.any (eqU x)by simp,mF r fs];exact q
theorem mE:cw X (.builtin "len") (fun xs H Q=>∃p ys,xs=[.ref p]/\(SqL X.K H p ys∨SqT X.K H p ys)/\Q (.int ys.length) H):=by
 intro aa s σ H xs us Q I r h;obtain⟨p,ys,rfl,hq,q⟩:=h;obtain⟨u,rfl,rx⟩:=qw r;cases rx;have hn:=ik;rcases hq with hq|hq
 ·obtain⟨its,r',pl,hz⟩:=I.list hq;have bu:=r'.length;exact Calls.call_len_list pl.isList (by simp only[F1]<;>lia) ⟨.int ys.length,H,I.tok _,⟨s.toks+1,by rw[F1,bu]⟩,q⟩
 ·obtain⟨its,r',pl,hz⟩:=I.tuple hq;have bu:=r'.length;exact len_tuple pl (by simp only[F1]<;>lia) ⟨.int ys.length,H,I.tok _,⟨s.toks+1,by rw[F1,bu]⟩,q⟩
theorem mT:cw X (.builtin "len") (fun xs H Q=>∃z,xs=[.str z]/\z.length<=E4/\Q (.int z.length) H):=by
 intro aa s σ H xs us Q I r h;obtain⟨z,rfl,hz,q⟩:=h;obtain⟨u,rfl,t,rfl⟩:=qw r;have hn:=ik;exact len_str (by lia) ⟨.int z.length,H,I.tok _,⟨_,rfl⟩,q⟩
theorem cw.or{f:s0}{r r':List V->Hp->VK->Prop}(h:cw X f r) (h':cw X f r'):cw X f (fun xs H Q=>r xs H Q∨r' xs H Q):=by
 intro aa s σ H xs us Q I rs q;rcases q with q|q
 ·exact h aa s σ H xs us Q I rs q
 ·exact h' aa s σ H xs us Q I rs q
theorem kq:cw X (.type "tuple") (fun xs H Q=>∃p ys,xs=[.ref p]/\((SqL X.K H p ys/\∀l,H l=none->Q (.ref l) (upd H l (.tup ys)))∨(SqT X.K H p ys/\Q (.ref p) H))):=by
 intro aa s σ H xs us Q I r h;obtain⟨p,ys,rfl,h⟩:=h;obtain⟨u,rfl,rx⟩:=qw r;cases rx;rcases h with⟨hq,q⟩|⟨hq,q⟩
 ·obtain⟨its,r',pl,hz⟩:=I.list hq;have bu:=r'.length;refine call_tuple_list pl.isList (fun h' kp=>?_) (by simp only[F1]<;>lia);have I1:Inv X aa σ H { s with heap:=h' }:=I.kept (t':=s.toks) kp;have I2:Inv X aa σ (upd H h'.objs.size (.tup ys)) { s with heap:=h'.push { cls:=.type "tuple",data:=.seq its.toArray } } :=
   I1.laid (t':=s.toks) (fun b o e=>E1 _ e) (F5 _) (show bg X.prog X.w _ _ _ (.tup ys)from⟨hz,its,r',gf.new _ _⟩)
  exact⟨.ref h'.objs.size,_,I2,rfl,q _ (I1.hok.fresh (F5 _))⟩
 ·obtain⟨its,r',pl,hz⟩:=I.tuple hq;exact call_tuple_same pl ⟨.ref p,H,I,rfl,q⟩
def tyV(K:u8) (T:String) (x:V) (H:Hp):Prop:=match x with
 |.str _=>T="str"
 |.int _=>T="int"
 | .ref p => (T = "list" ∧ ∃ xs,SqL K H p xs) ∨ (T = "tuple" ∧ ∃ o,K.lookup p = some o ∧ o.cls = .type "tuple" ∧ o.dict = none) ∨
   (T="dict"/\((∃kvs,H p=some (.dK kvs))∨∃kvs,H p=some (.dT kvs)))∨(T="set"/\∃S n,H p=some (.set S n))
 |_=>False
theorem BA{aa:List (E5×Obj)}{σ:St}{H:Hp}{s:E2}{T:String}{x:V}{v:s0}(I:Inv X aa σ H s) (r:aF x v) (ty:tyV X.K T x H) :
  s.TypeIs v T/\∀a,v=.ref a->∃ob,s.heap.get? a=some ob/\ob.dict=none:=by
 cases x with
 |str z =>
  obtain⟨t,rfl⟩:=r;cases(show T="str" from ty);exact⟨typeIs_str s z t,fun _ e=>nomatch e⟩
 |int i =>
  obtain⟨t,rfl⟩:=r;cases(show T="int" from ty);exact⟨af6 s i t,fun _ e=>nomatch e⟩
 |ref p =>
  cases r;rcases ty with⟨rfl,xs,hq⟩|⟨rfl,o,hk,hc,hd⟩|⟨rfl,hk⟩|⟨rfl,S,n,hk⟩
  ·obtain⟨its,_,pl,_⟩:=I.list hq;refine⟨pl.isList.typeIs,fun a e=>?_⟩;cases e;obtain⟨o,n,e,c,hd,_⟩:=pl;exact⟨o,e,hd⟩
  ·refine⟨⟨o,I.kIn p o hk,hc⟩,fun a e=>?_⟩;cases e;exact⟨o,I.kIn _ o hk,hd⟩
  ·have z:∃o,s.heap.get? p=some o/\o.ExactDict:=by
    rcases hk with⟨kvs,hk⟩|⟨kvs,hk⟩
    ·obtain⟨_,_,_,_,o,_,_,e,ex,_⟩:=I.hok p _ hk;exact⟨o,e,ex⟩
    ·obtain⟨_,_,_,_,o,_,_,e,ex,_⟩:=I.hok p _ hk;exact⟨o,e,ex⟩
   obtain⟨o,e,ex⟩:=z;refine⟨⟨o,e,ex.1⟩,fun a e2=>?_⟩;cases e2;exact⟨o,e,ex.2.1⟩
  ·obtain⟨o,_,_,_,e,ex,_⟩:=I.hok p _ hk;refine⟨⟨o,e,ex.1⟩,fun a e2=>?_⟩;cases e2;exact⟨o,e,ex.2.1⟩
 |_=>exact Q6 ty
def tBM(K:u8) (T:String) (r:V->List V->Hp->VK->Prop) (to:TE) (t:TA):TE:=fun σ H Q=>to σ H fun x H1=>tyV K T x H1/\t σ H1 fun xs H2=>r x xs H2 Q
variable{o e:K4}{es:List K4}{to:TE}{t:TA}{name:Str}{dP bj:Pos}{T id:String}{r:V->List V->Hp->VK->Prop}
theorem rD(pa:PlainAttrs T) (slot:Slot T name id) (hty:typeOf (.builtin id)=ad0 (.type "method_descriptor")) (hm:MtR X id r) (ho:PE X o to) (ha:PA X (e::es) t)
  (et:aa7 o name X.env (Z4 o X.env)=Z4 o X.env:=by rfl)
  (mG:((V0 bj (E8 (e :: es) X.env)).all (fun x => !x.1) && (al5 bj (af2 [] X.env)).all (fun x => x.1.isSome)
  &&decide ((e::es).length+([]:List ah1).length+(if([]:List ah1).isEmpty then 0 else 1)<30))=true:=by rfl)
  (gF:(dP.endLine==bj.line)=true:=by rfl) (hs:E8 (e::es) X.env=(false,Z4 e X.env)::E8 es X.env:=by rfl) (eI:(V0 bj (E8 es X.env)).any (·.1)=false:=by rfl) :
  PE X (.Call (.Attribute o name dP) (e::es) [] bj) (tBM X.K T r to t):=by
 intro aa s σ H Q I h;refine wpAny_Call_method_late et mG gF rfl (thn (ho aa s σ H _ I h) fun v s1 ⟨x,H1,I1,r1,ty,q1⟩=>?_);obtain⟨h1,h2⟩:=BA I1 r1 ty;refine⟨T,id,pa,slot,hty,h1,h2,?_⟩;have hA:=ha bj aa s1 σ H1 _ I1 q1;rw[hs]at hA ⊢;refine Calls.callWith_builtin (by show(false || (V0 bj (E8 es X.env)).any (·.1))=false;rw[eI]<;>rfl) (Calls.evalArgs_plain ?_);exact thn hA fun us s2 hup=>hup.el fun vs H2 I2 r2 q2=>hm aa s2 σ H2 x vs v us Q I2 r1 r2 q2
end
def MtM(X:Cx) (id:String) (r:V->List V->Hp->VK->Prop):Prop :=
 ∀(aa:List (E5×Obj)) (s:E2) (σ:St) (H:Hp) (x:V) (xs:List V) (v:s0) (us:List s0) (Q:VK),Inv X aa σ H s->aF x v->ax xs us->r x xs H Q ->
  F6 (J9 X.prog X.w) X.A (ap2 (.builtin id) (v::us)) (EP X aa σ Q) X.xe s
theorem ax.un{x:V}{xs:List V}{us:List s0}(h:ax (x::xs) us):∃u vs,us=u::vs/\aF x u/\ax xs vs:=by
 cases h with
 |cons r t=>exact⟨_,_,rfl,r,t⟩
theorem ax.one{x:V}{us:List s0}(h:ax [x] us):∃u,us=[u]/\aF x u:=by
 obtain⟨u,vs,rfl,r,t⟩:=h.un;cases t;exact⟨u,rfl,r⟩
theorem ax.two{x y:V}{us:List s0}(h:ax [x,y] us):∃u v,us=[u,v]/\aF x u/\aF y v:=by
 obtain⟨u,vs,rfl,r,t⟩:=h.un;obtain⟨v,rfl,q⟩:=t.one;exact⟨u,v,rfl,r,q⟩
theorem ax.reverse{xs:List V}{us:List s0}(h:ax xs us):ax xs.reverse us.reverse:=by
 induction h with
 |nil=>exact .nil
 |cons r t ih=>rw[ah2,ah2];exact ax.append ih (.cons r .nil)
theorem ax.rep{xs:List V}{us:List s0}(h:ax xs us):∀k:Nat,ax (E6 k xs).flatten (E6 k us).flatten
 |0=>.nil
 |k+1=>by
  rw[N5,N5,V4,V4];exact ax.append h (ax.rep h k)
theorem il(its:List s0):∀(k:Nat) (acc:List s0),
  ao7 (fun x1 x2=>x1++x2) acc.toArray (E6 k its.toArray)=(acc++(E6 k its).flatten).toArray
 |0,acc=>by simp
 |k+1,acc=>by
  have e:acc.toArray++its.toArray=(acc++its).toArray:=by simp
  have e2:(acc++its)++(E6 k its).flatten=acc++(E6 (k+1) its).flatten:=by
   rw[N5,V4,ac0]
  rw[<-e2,<-il its k (acc++its),<-e,N5,List.foldl_cons]
section
variable{X:Cx}{aa:List (E5×Obj)}{σ:St}{H:Hp}{s:E2}{l b:E5}{xs ys zs:List V}
theorem Inv.lset{its its':List s0}{n:Nat}{f:Array s0->Array s0}{t':Nat}(I:Inv X aa σ H s) (hH:H l=some (.lst xs))
  (e:s.heap.get? l=some { cls:=.type "list",data:=.seq its.toArray n }) (hf:f its.toArray=its'.toArray) (hv:ax ys its') (hz:ys.length<=E4) :
  Inv X aa σ (upd H l (.lst ys)) { s with heap:=s.heap.update l (ak9 f),toks:=t' }:=by
 have q:=PySem.IsL.update e f;rw[hf]at q;refine I.write (x:=l) (e:=l) (by rw[hH];exact trivial) (.inl rfl) (fun b' u hb hu=>(K2 s.heap (ak9 f) (M9 hb)).trans hu) ⟨_,q⟩ ?_;exact⟨hz,its',_,hv,q⟩
theorem Inv.lnew{its:List s0}{t':Nat}(I:Inv X aa σ H s) (hv:ax ys its) (hz:ys.length<=E4) :
  Inv X aa σ (upd H s.heap.objs.size (.lst ys)) { s with heap:=s.heap.push { cls:=.type "list",data:=.seq its.toArray },toks:=t' } :=
 I.laid (fun _ _ q=>E1 _ q) (F5 _) ⟨hz,its,0,hv,F0 _ rfl⟩
theorem Inv.fresh(I:Inv X aa σ H s):H s.heap.objs.size=none:=I.hok.fresh (F5 _)
theorem Inv.lstM(I:Inv X aa σ H s) (hH:H l=some (.lst xs)):xs.length<=E4/\∃(its:List s0) (n:Nat),ax xs its/\xs.length=its.length/\s.heap.get? l=some { cls:=.type "list",data:=.seq its.toArray n }:=by
 obtain⟨z,its,n,r,e⟩:=I.hok l _ hH;exact⟨z,its,n,r,r.length,e⟩
theorem nJ{n:Nat}(h:n<=E4):W4 n=false:=by
 unfold W4;exact decide_eq_false (by lia)
end
section
variable{X:Cx}
def qj:V->List V->Hp->VK->Prop:=fun x vs H Q=>∃l xs y,x=.ref l/\vs=[y]/\H l=some (.lst xs)/\xs.length<E4/\Q .non (upd H l (.lst (xs++[y])))
theorem sF:MtM X "list.append" qj:=by
 intro aa s σ H x vs v us Q I rx rv h;obtain⟨l,xs,y,rfl,rfl,hH,hz,q⟩:=h;cases rx;obtain⟨u,rfl,ru⟩:=rv.one;obtain⟨z,its,n,r,hl,e⟩:=I.lstM hH;refine aa3 F.slot_list_append ⟨_,e,rfl⟩ F.entry_list_append (F.args_list_append_2 _ _) (PySem.list_append l its.toArray n u (by rw[F1];lia)) ⟨e,?_⟩;refine⟨.non,_,I.lset (its':=its++[u]) hH e (by simp) (r.append (.cons ru .nil)) ?_,rfl,q⟩;rw[K7,List.length_singleton]
 lia
def DI:R2:=fun x y H Q=>∃l b xs zs,x=.ref l/\y=.ref b/\H l=some (.lst xs)/\H b=some (.lst zs)/\xs.length+zs.length<=E4/\∀p,H p=none->Q (.ref p) (upd H p (.lst (xs++zs)))
theorem Aj:OpR X (U8 .Add) DI:=by
 intro aa s σ H x y v u Q I rx ry h;obtain⟨l,b,xs,zs,rfl,rfl,hH,hB,hz,q⟩:=h;cases rx;cases ry;obtain⟨z,its,n,r,hl,e⟩:=I.lstM hH;obtain⟨z2,its2,n2,r2,hl2,e2⟩:=I.lstM hB;refine PySem.P.add_list e e2 ?_ (by rw[F1,F1];lia);have ea:its.toArray++its2.toArray=(its++its2).toArray:=by simp
 rw[ea];exact⟨.ref _,_,I.lnew (t':=s.toks) (r.append r2) (by rw[K7];lia),rfl,q _ I.fresh⟩
def DC:R2:=fun x y H Q=>∃l k xs,x=.ref l/\y=.int k/\H l=some (.lst xs)/\-(2 ^ 63)<=k/\k<2 ^ 63/\xs.length*k.toNat<=E4 /\
 ∀p,H p=none->Q (.ref p) (upd H p (.lst (E6 k.toNat xs).flatten))
theorem mv{α:Type}(xs:List α) (k:Nat):(E6 k xs).flatten.length=k*xs.length:=by
 induction k with
 |zero=>simp
 |succ k ih=>rw[N5,V4,K7,ih,Nat.succ_mul,Nat.add_comm]
theorem vF:OpR X (U8 .Mult) DC:=by
 intro aa s σ H x y v u Q I rx ry h;obtain⟨l,k,xs,rfl,rfl,hH,h1,h2,hz,q⟩:=h;cases rx;obtain⟨t,rfl⟩:=ry;obtain⟨z,its,n,r,hl,e⟩:=I.lstM hH;have bu:its.toArray.size*k.toNat<=E4:=by rw[F1,<-hl];exact hz
 have hcap:¬ its.toArray.size*k.toNat > (2 ^ 63-1) / 8:=by
  have:(E4:Nat)<=(2 ^ 63-1) / 8:=by decide
  lia
 have hfit:¬ (!Builtin.List.listFitsIndex k)=true:=by
  rw[fitsIndex_both h1 h2];exact P1
 have hlong:¬ W4 (its.toArray.size*k.toNat)=true:=by
  rw[nJ bu];exact P1
 have hnew:ao7 (fun x1 x2=>x1++x2) #[] (E6 (if its.toArray.isEmpty=true then 0 else k.toNat) its.toArray)=(E6 k.toNat its).flatten.toArray:=by
  have f0:∀m:Nat,ao7 (fun x1 x2=>x1++x2) #[] (E6 m its.toArray)=(E6 m its).flatten.toArray:=fun m=>by
   have:=il its m [];rw[O5]at this;exact this
  rw[f0];cases its with
  |nil=>simp
  |cons a r'=>rw[if_neg (by simp)]
 refine ab5 (T:="list") (U:="int") (by decide) ⟨_,e,rfl⟩ (fun s'=>af6 s' k t) noFill_list_mul aj5 Z3 repeat_list ai5.lookup
  (aa3 Z3 (af6 s k t) ai6 (ah3 _ _) (int___rmul___int_list k t l its.toArray n)
   ⟨e,rfl,⟨_,e,rfl⟩,aa3 F.slot_list_mul ⟨_,e,rfl⟩ F.entry_list_mul (F.args_list_mul_2 _ _) (AutoListH.list___mul___list_int_3 l its.toArray n k t hfit hcap hlong) ⟨e,?_⟩⟩)
 rw[hnew];exact⟨.ref _,_,I.lnew (t':=s.toks) (r.rep k.toNat) (by rw[mv,Nat.mul_comm];exact hz),rfl,q _ I.fresh⟩
end
end L2
namespace Att
open PySem PySem.W PySem.Calls PyProof.Rows
theorem i7{P:Params}{h:I0}:∀(ns:List Int) (vs:List s0),WellAll P h vs (ns.map WData.int)->IntsAre vs ns:=by
 intro ns
 induction ns with
 |nil =>
  intro vs w;rw[ak3]at w;cases w;exact .nil
 |cons n ns ih =>
  intro vs w;rw[J5]at w;cases w with
  |cons a b =>
   cases a;exact .cons _ _ (ih _ b)
theorem sR{l:OpenLaw}{n:Nat}(hn:l.most=some n) {P:Params}{h:I0}{args:List WData}{vals:List s0}
  (hpre:l.row.toRowW.claim.pre args=true) (hwl:WellAll P h vals args) :
  ∃a vs ns,vals=[F3 a]/\args=[WData.list (ns.map WData.int)]/\h.get? a=some { cls:=.type "list",data:=.seq vs.toArray }/\IntsAre vs ns/\ns.length<=n:=by
 have hsh:WShape.hasAll [] args [.list .int]=true:=(pre_splitW hpre).1;have hc:l.pre.holds [] { args:=args }=true:=(pre_splitW hpre).2;obtain⟨d,r,rfl,h1,h2⟩:=hasAllW_cons hsh;obtain rfl:=hasAllW_nil h2;obtain⟨xs,rfl,h3⟩:=hasW_list h1;obtain⟨ns,rfl⟩:=items_int h3;have bu:ns.length<=n:=by
  unfold OpenLaw.pre at hc;have h4:(WTm.not (.lt (.lit (.int (n:Int))) (.len (.arg 0)))).holds [] { args:=[.list (ns.map .int)] }=true:=by
   have h4:=(holds_andW hc).1;rw[hn]at h4;exact h4
  have h5:=condW_of h4 (w_not (w_lt w_lit (w_len_list (w_arg rfl))));rw[E7]at h5;refine Nat.le_of_not_lt fun q=>?_;have q':(n:Int)<((ns.length:Nat):Int):=by lia
  first
   |(rw[decide_eq_true q']at h5;exact absurd h5 (by decide))
   |(simp at h5;lia)
 cases hwl with
 |cons w1 w2 =>
  cases w2;cases w1 with
  |list ho hall=>exact⟨_,_,ns,rfl,rfl,ho,i7 ns _ hall,bu⟩
theorem tH(l:OpenLaw) (args:List WData):l.row.toRowW.claim.post args (.bool true) args=true :=
 postW_of (r:=l.row.toRowW) (X:=(true==true))
  (show WShape.has [] (.bool true) .bool=true by first|rfl|decide|simp[WShape.has,WShape.arms,WShape.armsAll])
  (show(WTm.eq .res (.lit (.bool true))).value [] { args:=args,res:=some (.bool true),after:=args }=some (.bool (true==true))from w_eq_bool (w_res rfl) w_lit) rfl
theorem attach_call{l:OpenLaw}{n:Nat}{q:J4}{loose:List Str}{XP:(Str->Option s0)->I0->Prop}{YP:O3->I0->Prop}{d:DefRec}
  (hn:l.most=some n) (hdf:d.params.defaults=[])
  (ap2:∀ (w:O3) (s₀ s₁:E2) (mg mb:Str → Option s0) (fa:E5) (o:Obj) (pm cd doc:s0) (a:E5) (vs:List s0) (ns:List Int),
   Ground q loose [] XP w s₀ mg mb s₁.heap->YP w s₁.heap ->
   s₁.heap.get? fa=some o->o.data=.func (docDef d.name d.params d.body d.scope pm cd doc)->s₁.heap.CodeRec cd d.name->mg d.name=some (.ref fa) ->
   s₁.heap.get? a=some { cls:=.type "list",data:=.seq vs.toArray }->IntsAre vs ns->ns.length<=n->s₁.gens=#[] ->
   ac2 (J9 l.prog w) an2 (.call (.ref fa) ⟨[.ref a],[]⟩) (fun r s'=>r=.ok (.ret (.bool true))/\OldK s₁.heap s'.heap/\s'.os=s₁.os/\ai4 s'.gens) s₁) :
  WalkO q loose XP YP l.row.toRowW d [] (fun f vs=>PySem.call f vs):=by
 intro w s₀ s₁ mg mb G Y fa o pm cd doc dV kV ho hd hcd hD hmg hg args vals as hpre hlay hrd hwl hlo;obtain rfl:dV=.none:=Dflts.none hD hdf;obtain rfl:kV=.none:=Dflts.noKw hD;obtain⟨a,vs,ns,rfl,rfl,hobj,hints,bu⟩:=sR hn hpre hwl;refine enter_call (ad5 (ap2 w s₀ s₁ mg mb fa o pm cd doc a vs ns G Y ho (fd_plain hd) hcd hmg hobj hints bu hg) fun r s' hq=>?_);obtain⟨rfl,h2,h3,h4⟩:=hq;exact⟨.inl ⟨.bool true,.bool true,[],rfl,fun _=>rfl,.bool true,tH l _,fun _=>⟨List.Pairwise.nil,fun _ hm=>(nomatch hm)⟩⟩,h2,h3,h4⟩
section
variable{prog:J4}{w:O3}{A:L8}{E:s0->E2->Prop}{s:E2}{K:Frag}
end
end Att
namespace L2
open PySem PySem.Spec PyProof.Rows
theorem lV:∀{vs:List s0}{ns:List Int},IntsAre vs ns->ax (ns.map V.int) vs
 |_,_,.nil=>.nil
 |_,_,.cons n t h=>.cons ⟨t,rfl⟩ (lV h)
def yl(H:Hp):Prop:=∀b,H b=none∨∃o xs,H b=some (.frz o (.lst xs))
theorem vj{P:J4}{w:O3}{K:u8}{mg mb:Str->Option s0}{CX:CXT}{k:Nat}{fa a:E5}{fd:K1}{x:Str}{sp:Sp}{s₁:E2}{vs:List s0}{ns:List Int}
  (KX:K.In s₁.heap) (hns:s₁.heap.Ns F9 mg) (hb:s₁.heap.Ns builtinsNs mb) (hbb:∀x:Str,x≠"__name__"->mb x=V8 x) (hlim:s₁.heap.NoLimit) (hg:s₁.gens=#[])
  (ha:s₁.heap.get? a=some { cls:=.type "list",data:=.seq vs.toArray }) (hi:IntsAre vs ns) (hl:ns.length<=E4) (hr:bt k an2)
  (F:∀base:I0,K.In base->base.Ns F9 mg->aO P w K mg base CX k fa fd [x] sp) (hbind:∀(s:E2) (u:s0),ao4 s fd ⟨[u],[]⟩ [(x,u)])
  (hsp:∀H:Hp,yl H->SqL K H a (ns.map V.int)->sp [.ref a] H (fun v _=>v=.bl true) fun _ _ _=>False)
  (hCX:∀H e s',CX [] H s₁ (fun _ _ _=>False) e s'->False) :
  ac2 (J9 P w) an2 (.call (.ref fa) ⟨[.ref a],[]⟩) (fun r s'=>r=.ok (.ret (.bool true))/\OldK s₁.heap s'.heap/\s'.os=s₁.os/\ai4 s'.gens) s₁:=by
 have rv:=lV hi;have lenV:=hi.length
 -- from an abstract heap in which nothing but the script may be tracked
 have core:∀H:Hp,yl H->SqL K H a (ns.map V.int)->HOk P w H s₁.heap->(∀b,H b≠none->b=a)->(H a≠none->K.lookup a=none) ->
   ac2 (J9 P w) an2 (.call (.ref fa) ⟨[.ref a],[]⟩) (fun r s'=>r=.ok (.ret (.bool true))/\OldK s₁.heap s'.heap/\s'.os=s₁.os/\ai4 s'.gens) s₁:=by
  intro H hO hS hok hA hK;have base_of:∀{b:E5} {o:Obj},s₁.heap.get? b=some o->H b=none->(mm s₁.heap H).get? b=some o:=fun e n=>uU e n;have noA:∀{b:E5} {o:Obj} {es:Array am1} {ep:Nat},s₁.heap.get? b=some o->o.data=.dict es ep->H b=none:=fun {b o es ep} e d=>by
   cases q:H b with
   |none=>rfl
   |some u =>
    have e':b=a:=hA b (by rw[q];simp);subst e';rw[ha]at e;cases e;have d':am7 vs.toArray _=al0 es ep:=d;cases d'
  have nsK:∀{b:E5} {m:Str->Option s0},s₁.heap.Ns b m->(mm s₁.heap H).Ns b m:=fun {b m} ⟨o,es,ep,e,d,r⟩=>⟨o,es,ep,base_of e (noA e d),d,r⟩;have hKb:K.In (mm s₁.heap H):=fun b o e=>base_of (KX b o e) (by
   cases q:H b with
   |none=>rfl
   |some u =>
    have e':b=a:=hA b (by rw[q];simp);subst e';rw[hK (by rw[q];simp)]at e;cases e)
  have hM:Mod K mg (mm s₁.heap H):=⟨hKb,nsK hns,⟨mb,nsK hb,hbb⟩,let⟨mc,h1,h2⟩:=hlim;⟨mc,nsK h1,h2⟩⟩;have e0:kF P w K mg (mm s₁.heap H) an2 [] s₁ H:=⟨rfl,hM,fun b o e=>wU e,Nat.le_of_eq (sL _ _),trivial,fun b hb=>absurd (show b∈([]:List E5)from hb) (by simp),hok,.of_eq hg⟩;refine ad5 ((F _ hKb (nsK hns)).run an2 [] s₁ H ⟨[.ref a],[]⟩ [.ref a] [.ref a] _ _ hr e0 (hbind s₁ (.ref a)) (.cons rfl .nil) (hsp H hO hS)) fun r s' h=>?_;cases r with
  |error e=>exact(hCX H e s' h).elim
  |ok fl =>
   cases fl with
   |next=>exact Q6 h
   |brk=>exact Q6 h
   |cont=>exact Q6 h
   |ret u =>
    obtain⟨v,H',os,bare,un,hok',r',q⟩:=h;have q':v=.bl true:=q;subst q';obtain rfl:u=ag7 true:=r';refine⟨rfl,OldK.of_keep fun b o e=>?_,os,bare⟩;cases q:H b with
    |none=>exact un.keep b o e q (by intro z;exact absurd (show b∈([]:List E5)from z) (by simp)) (by simp)
    |some u =>
     rcases hO b with z|⟨ob,xs,z⟩
     ·rw[q]at z;cases z
     ·have z2:=un.frzs b ob _ z;obtain⟨e1,_⟩:=hok b _ z;obtain⟨e2,_⟩:=hok' b _ z2;rw[e]at e1;cases e1;exact e2
 cases hk:K.lookup a with
 |some o =>
  -- the script is one of the module's own objects
  have e:=KX a o hk;rw[ha]at e;cases e;refine core (fun _=>none) (fun _=>.inl rfl) (.inr ⟨_,vs.toArray,_,hk,rfl,rfl,rfl,by rw[F1,lenV];exact hl,by simpa using rv⟩) (fun b u z=>by have z':(none:Option HO)=some u:=z;cases z') (fun b z=>absurd rfl z) fun z=>absurd rfl z
 |none =>
  refine core (fun b=>if b=a then some (.frz { cls:=.type "list",data:=.seq vs.toArray } (.lst (ns.map V.int)))else none) (fun b=>?_) (.inl (.inr ⟨{ cls:=.type "list",data:=.seq vs.toArray },if_pos rfl⟩)) (fun b u z=>?_) (fun b z=>?_) fun _=>hk
  ·by_cases hb:b=a
   ·exact .inr ⟨_,_,if_pos hb⟩
   ·exact .inl (if_neg hb)
  ·by_cases hb:b=a
   ·have z':=(if_pos hb).symm.trans z;cases z';subst hb;exact⟨ha,by rw[E7];exact hl,vs,_,rv,ha⟩
   ·have z':=(if_neg hb).symm.trans z;cases z'
  ·by_cases hb:b=a
   ·exact hb
   ·exact absurd (if_neg hb) z
theorem q0{l:PySem.W.OpenLaw}{n k:Nat}{q:J4}{loose:List Str}{XP:(Str->Option s0)->I0->Prop}{YP:O3->I0->Prop}{d:DefRec}{K:Params->u8}{CX:O3->CXT}{sp:O3->Sp}{x:Str}
  (hn:l.most=some n) (hn2:n<=E4) (hdf:d.params.defaults=[]) (hr:bt k an2)
  (hY:∀(w:O3) (h:I0),YP w h->(K w.params).In h)
  (F:∀ (w:O3) (mg:Str → Option s0) (fa:E5) (h:I0),(K w.params).In h → h.Ns F9 mg → mg d.name = some (.ref fa) →
   ∃fd:K1,(∀(s:E2) (u:s0),ao4 s fd ⟨[u],[]⟩ [(x,u)]) /\
    ∀base:I0,(K w.params).In base->base.Ns F9 mg->aO l.prog w (K w.params) mg base (CX w) k fa fd [x] (sp w))
  (hsp:∀(w:O3) (H:Hp) (a:E5) (ns:List Int),ns.length<=n->yl H->SqL (K w.params) H a (ns.map V.int)->sp w [.ref a] H (fun v _=>v=.bl true) fun _ _ _=>False)
  (hCX:∀(w:O3) (H:Hp) (s:E2) (e:s0) (s':E2),CX w [] H s (fun _ _ _=>False) e s'->False) :
  PySem.W.WalkO q loose XP YP l.row.toRowW d [] (fun f vs=>PySem.call f vs):=by
 refine Att.attach_call hn hdf fun w s₀ s₁ mg mb fa o pm cd doc a vs ns G Y ho hd hcd hmg hobj hints bu hg=>?_;have KX:=hY w _ Y;obtain⟨fd,hb,hF⟩:=F w mg fa _ KX G.T.g hmg;exact vj KX G.T.g G.T.b G.T.builtins G.T.nolimit hg hobj hints (Q0 bu hn2) hr hF hb (fun H hO hS=>hsp w H a ns bu hO hS) fun H e s'=>hCX w H s₁ e s'
end L2
/- THE LAST THEOREM (shape; LID,My.* are yours):
   My.Adr: a structure of the addresses that your layer names (classes,functions);My.Txt K t: a structure (Prop) of the equations over K;
   My.txt_mk:{K} {implicit addresses ..} (e1:nsIn K F9 "law"=some (some (.ref f))) (e2:K.lookup f=some ⟨oc,od,.func (fnOf "law" "law" params body scope dV kV doc pm an cdv ct),sl⟩) (e3:codeIn K cdv "law"=true) ..:∃t,My.Txt K t
set_option maxRecDepth 100000 in
set_option maxHeartbeats 0 in
theorem PySem.Challenge.cw_LID_holds : PySem.Challenge.rw_LID.Holds := by
 w_on;o_law;k_head;(case hw=>w_witness2)
 k_fill
 refine L2.q0 (l:=PySem.Challenge.rw_LID) (n:=63) (k:=40) (x:="script") (CX:=fun w=>..) (sp:=fun _=>My.sp_law) rfl (by decide) rfl ⟨rfl,by decide,by decide⟩ (fun w h Y=>PySem.W.kIn_of Y) ?F ?S ?C
 case F =>
  intro w mg fa h KX G hmg;have T:∃t,My.Txt (L2.KOf KX) t:=by
   dsimp only[L2.KOf]                          -- K must stand as «<heap const> w.params» for k_is
   refine' My.txt_mk ?e1 ?e2 ?e3 ..
   (case e1=>PySem.W.k_is)                    -- in the order: a name->its address->its object->its parts
   (case e2=>PySem.W.k_is)
   ..
  obtain⟨t,T⟩:=T;have e0:=hmg.symm.trans (O2 KX G T.law);cases e0                                       -- fa is the law's own address;exact⟨_,fun s u=>.of_eq rfl,fun base kb nb=>My.law_fn T kb nb⟩     -- if «.of_eq rfl» comes too early: refine' ⟨_,?b,fun base kb nb=>My.law_fn T kb nb⟩;exact fun s u=>.of_eq rfl
 case S=>exact fun w H a ns hl hO hS=>..
 case C=>exact ..
(the tactic k_is has no namespace: write k_is) -/
namespace L2
open PySem PySem.Spec PyProof.Rows
def dG(s:Z7):Arguments:=match s with
 |.FunctionDef _ a _ _ _ _ _ _ _ _=>a
 |_=>{ posonlyargs:=[],args:=[],vararg:=none,kwonlyargs:=[],kw_defaults:=[],kwarg:=none,defaults:=[] }
def bZ(s:Z7):List Z7:=match s with
 |.FunctionDef _ _ b _ _ _ _ _ _ _=>b
 |_=>[]
def ai(s:Z7):aa5:=match s with
 |.FunctionDef _ _ _ _ _ _ sc _ _ _=>sc
 |_=>{ kind:=.function,names:=[],isGenerator:=false,isCoroutine:=false }
abbrev CX0:CXT:=fun _ _ _ _ _ _=>False
abbrev E0:XK:=fun _ _ _=>False
theorem uL{X:Cx}:ft CX0 X E0:=fun _ _ _ _ _ _ _ h=>h.elim
structure Fun(K:u8) (x qual:Str) (st:Z7) (f:E5) (fd:K1):Prop where
 ex:∃(oc:s0) (od:Option E5) (kV doc pm:s0) (an:Option E5) (cdv ct:s0) (osl:Array (Option s0)),
  fd=aa9 x qual (dG st) (bZ st) (ai st) .none kV doc pm an cdv ct/\K.lookup f=some ⟨oc,od,.func fd,osl⟩/\ah9 K cdv qual=true
 kp:S5 K (.ref f)=true
section
variable{P:J4}{w:O3}{K:u8}{mg:Str->Option s0}{base:I0}{f:E5}{fd:K1}
theorem Fun.ok{x qual:Str}{st:Z7}{f:E5}{fd:K1}{N ps:List Str}{k:Nat}{sp:Sp}(F:Fun K x qual st f fd) (S:aA N ps (ai st)) (len:∀vs H Q E,sp vs H Q E->vs.length=ps.length)
  (hbody:∀ (cdv:s0) (A:L8) (outer:List Env) (s:E2) (H:Hp) (vs:List V) (Q:VK) (E:XK),bt k (A.deeper (W9 qual (ai st) s.heap.objs.size f cdv)) → sp vs H Q E →
   ∃t,PSs (fm CX0 P w K mg base N qual (ai st) f cdv A outer s H E).nox (bZ st) t/\t { nx:=fun _ H'=>Q .non H',rt:=Q } (eR N vs) H):aO P w K mg base CX0 (k+1) f fd ps sp:=by
 obtain⟨oc,od,kV,doc,pm,an,cdv,ct,osl,rfl,lk,hcd⟩:=F.ex;refine ze lk hcd S len fun A outer s H vs Q E hr hsp=>?_;obtain⟨t,h,q⟩:=hbody cdv A outer s H vs Q E hr hsp;exact⟨t,h.nox,q⟩
theorem Fun.binds{x qual:Str}{st:Z7}{f:E5}{fd:K1}{ps:List Str}(F:Fun K x qual st f fd)
  (h:∀(kV doc pm:s0) (an:Option E5) (cdv ct:s0) (us:List s0),us.length=ps.length->bindArgs (aa9 x qual (dG st) (bZ st) (ai st) .none kV doc pm an cdv ct) ⟨us,[]⟩=ad0 (ps.zip us)):bQ K fd ps []:=by
 obtain⟨oc,od,kV,doc,pm,an,cdv,ct,osl,rfl,lk,hcd⟩:=F.ex;exact .all (h kV doc pm an cdv ct)
theorem o9{x qual:Str}{st:Z7}{f:E5}{oc:s0}{od an:Option E5}{osl:Array (Option s0)}{kV doc pm cdv ct:s0}(l:K.lookup f=some ⟨oc,od,.func (aa9 x qual (dG st) (bZ st) (ai st) .none kV doc pm an cdv ct),osl⟩)
  (c:ah9 K cdv qual=true) (k:S5 K (.ref f)=true):Fun K x qual st f (aa9 x qual (dG st) (bZ st) (ai st) .none kV doc pm an cdv ct):=⟨⟨oc,od,kV,doc,pm,an,cdv,ct,osl,rfl,l,c⟩,k⟩
end
theorem lA{n:Nat}(h:n<=1000):n<E4:=Nat.lt_of_le_of_lt h (by decide)
section
variable{X:Cx}
theorem pv(i:Nat) {x:Str}{pos:Pos}(hN:X.N[i]?=some x:=by rfl) (hv:Vis X.env.scope x:=by first|exact N4 rfl|exact am2 (N4 rfl)|exact am2 (am2 rfl)) (hd:(x==("__debug__":Str))=false:=by decide)
  (hcd:(x==("__classdict__":Str))=false:=by decide):PE X (.Name x pos) (sV i):=uX hN hv hd hcd
end
theorem cS{c A B:Prop} [Decidable c] (h1:c->A) (h2:¬ c->B):if c then A else B:=by
 by_cases h:c
 ·rw[if_pos h];exact h1 h
 ·rw[if_neg h];exact h2 h
section
variable{κ:Type} [DecidableEq κ]
noncomputable def fP(kvs:List (κ×V)) (k:κ):Option V:=(kvs.find? fun kv=>decide (kv.1=k)).map (·.2)
noncomputable def dD(kvs:List (κ×V)) (k:κ) (v:V):List (κ×V) :=
 if(kvs.any fun kv=>decide (kv.1=k))=true then kvs.map (fun kv=>if kv.1=k then(kv.1,v)else kv)else kvs++[(k,v)]
def Ea(kvs:List (κ×V)) (k:κ):List (κ×V):=kvs.filter fun kv=>decide (kv.1≠k)
theorem gP{p:κ×V}{r:List (κ×V)}{k:κ}(e:p.1=k):fP (p::r) k=some p.2:=by simp[fP,T8,e]
theorem gR{p:κ×V}{r:List (κ×V)}{k:κ}(e:¬ p.1=k):fP (p::r) k=fP r k:=by simp[fP,T8,e]
theorem ot(k:κ):∀kvs:List (κ×V),(kvs.any fun kv=>decide (kv.1=k))=(fP kvs k).isSome
 |[]=>rfl
 |p::r=>by
  rw[X1]
  by_cases e:p.1=k
  ·simp only[gP e,decide_eq_true e,Bool.true_or,Option.isSome_some]
  ·rw[gR e,decide_eq_false e,Bool.false_or];exact ot k r
theorem eZ(kvs:List (κ×V)) (k:κ) (v:V):(dD kvs k v).length<=kvs.length+1:=by
 unfold dD
 split
 ·rw[E7];lia
 ·rw[K7,N6,T7];lia
theorem i8.isSome_eq{o:Option V}{u:Option s0}(r:i8 o u):o.isSome=u.isSome:=by
 cases o with
 |none=>cases u with
  |none=>rfl
  |some _=>exact(show False from r).elim
 |some _=>cases u with
  |none=>exact(show False from r).elim
  |some _=>rfl
theorem i8.getD{o:Option V}{u:Option s0}{d:V}{d':s0}(r:i8 o u) (rd:aF d d'):aF (o.getD d) (u.getD d'):=by
 cases o with
 |none=>cases u with
  |none=>exact rd
  |some _=>exact(show False from r).elim
 |some _=>cases u with
  |none=>exact(show False from r).elim
  |some _=>exact r
theorem KV.val{kvs:List (κ×V)}{vs:List (κ×s0)}(r:KV kvs vs) (k:κ):i8 (fP kvs k) (ao8 vs k):=by
 unfold KV at r
 induction r with
 |nil=>exact ag9
 |@cons p q ps qs h t ih =>
  obtain⟨h1,h2⟩:=h
  by_cases e:p.1=k
  ·have e':q.1=k:=h1.symm.trans e;have b:ao8 (q::qs) k=some q.2:=by simp[ao8,T8,e']
   rw[gP e,b];exact h2
  ·have e':¬ q.1=k:=fun z=>e (h1.trans z);have b:ao8 (q::qs) k=ao8 qs k:=by simp[ao8,T8,e']
   rw[gR e,b];exact ih
theorem KV.any{kvs:List (κ×V)}{vs:List (κ×s0)}(r:KV kvs vs) (k:κ):(kvs.any fun kv=>decide (kv.1=k))=vs.any fun kv=>decide (kv.1=k):=by
 unfold KV at r
 induction r with
 |nil=>rfl
 |cons h t ih=>rw[X1,X1,ih,h.1]
theorem KV.repl{kvs:List (κ×V)}{vs:List (κ×s0)}(r:KV kvs vs) (k:κ) {y:V}{u:s0}(ry:aF y u) :
  KV (kvs.map fun kv=>if kv.1=k then(kv.1,y)else kv) (vs.map fun kv=>if kv.1=k then(kv.1,u)else kv):=by
 unfold KV at r ⊢
 induction r with
 |nil=>exact .nil
 |@cons p q ps qs h t ih =>
  rw[J5,J5];refine .cons ?_ ih;obtain⟨h1,h2⟩:=h
  by_cases e:p.1=k
  ·rw[if_pos e,if_pos (h1.symm.trans e)];exact⟨h1,ry⟩
  ·rw[if_neg e,if_neg (fun z=>e (h1.trans z))];exact⟨h1,h2⟩
theorem KV.put{kvs:List (κ×V)}{vs:List (κ×s0)}(r:KV kvs vs) (k:κ) {y:V}{u:s0}(ry:aF y u):KV (dD kvs k y) (stored vs k u):=by
 unfold dD stored;rw[r.any k]
 by_cases e:(vs.any fun kv=>decide (kv.1=k))=true
 ·rw[if_pos e,if_pos e];exact r.repl k ry
 ·rw[if_neg e,if_neg e];exact Z8.snoc r ⟨rfl,ry⟩
theorem KV.keys{kvs:List (κ×V)}{vs:List (κ×s0)}(r:KV kvs vs):kvs.map (·.1)=vs.map (·.1):=by
 unfold KV at r
 induction r with
 |nil=>rfl
 |cons h t ih=>rw[J5,J5,ih,h.1]
theorem KV.length{kvs:List (κ×V)}{vs:List (κ×s0)}(r:KV kvs vs):kvs.length=vs.length:=al3 r
end
theorem j8{P:J4}{w:O3}{k:Key}{u:s0}(r:aF (kV k) u):(aS P w).is k u=true:=by
 cases k with
 |inl i=>obtain⟨t,e⟩:=(show ∃t,u=ap1 i t from r);subst e;exact oD P w i t
 |inr x=>obtain⟨t,e⟩:=(show ∃t,u=ak8 x t from r);subst e;exact oJ P w x t
theorem k8{P:J4}{w:O3}:∀{ks:List Key}{us:List s0},ax (ks.map kV) us->ItemsAre (aS P w) ks us
 |[],_,r=>by rw[ak3]at r;cases r;exact .nil
 |k::ks,_,r=>by
  rw[J5]at r;cases r with
  |cons h t=>exact .cons (j8 h) (k8 t)
abbrev KT(H:Hp):List (List Key×V)->List (List Key×E5×s0)->Prop:=Z8 fun p q=>p.1=q.1/\H q.2.1=some (.tup (p.1.map kV))/\aF p.2 q.2.2
theorem KT.val{H:Hp}{kvs:List (List Key×V)}{xs:List (List Key×E5×s0)}(r:KT H kvs xs) (k:List Key):i8 (fP kvs k) ((atKey xs k).map (·.2)):=by
 induction r with
 |nil=>exact ag9
 |@cons p q ps qs h t ih =>
  obtain⟨h1,_,h2⟩:=h
  by_cases e:p.1=k
  ·have e':q.1=k:=h1.symm.trans e;have b:atKey (q::qs) k=some q.2:=by simp[atKey,T8,e']
   rw[gP e,b];exact h2
  ·have e':¬ q.1=k:=fun z=>e (h1.trans z);have b:atKey (q::qs) k=atKey qs k:=by simp[atKey,T8,e']
   rw[gR e,b];exact ih
theorem KT.repl{H:Hp}{kvs:List (List Key×V)}{xs:List (List Key×E5×s0)}(r:KT H kvs xs) (k:List Key) {y:V}{u:s0}(ry:aF y u) :
  KT H (kvs.map fun kv=>if kv.1=k then(kv.1,y)else kv) (xs.map (putAt k u)):=by
 induction r with
 |nil=>exact .nil
 |@cons p q ps qs h t ih =>
  rw[J5,J5];refine .cons ?_ ih;obtain⟨h1,h2,h3⟩:=h;unfold putAt
  by_cases e:p.1=k
  ·rw[if_pos e,if_pos (h1.symm.trans e)];exact⟨h1,h2,ry⟩
  ·rw[if_neg e,if_neg (fun z=>e (h1.trans z))];exact⟨h1,h2,h3⟩
theorem KT.put{H:Hp}{kvs:List (List Key×V)}{xs:List (List Key×E5×s0)}(r:KT H kvs xs) (k:List Key) {b:E5}{y:V}{u:s0}(hb:H b=some (.tup (k.map kV))) (ry:aF y u) :
  KT H (dD kvs k y) (storedH xs k b u):=by
 have e:(kvs.any fun kv=>decide (kv.1=k))=(atKey xs k).isSome:=by
  rw[ot,(r.val k).isSome_eq,ah4]
 unfold dD storedH;rw[e]
 by_cases q:(atKey xs k).isSome=true
 ·rw[if_pos q,if_pos q];exact r.repl k ry
 ·rw[if_neg q,if_neg q];exact Z8.snoc r ⟨rfl,hb,ry⟩
theorem KT.keeps{H H':Hp}{kvs:List (List Key×V)}{xs:List (List Key×E5×s0)}(r:KT H kvs xs) (ht:∀b ys,H b=some (.tup ys)->H' b=some (.tup ys)):KT H' kvs xs :=
 Z8.mapP r fun _ _ z=>⟨z.1,ht _ _ z.2.1,z.2.2⟩
section
variable{P:J4}{w:O3}{H:Hp}{h:I0}{a:E5}
theorem yK{u:HO}(ok:HOk P w H h) (e:Rd H a u):bg P w H h a u:=e.ok ok
theorem nG{kvs:List (Key×V)}(ok:HOk P w H h) (e:Rd H a (.dK kvs)):kvs.length<=E4/\(a==ac9)=false/\∃vs,KV kvs vs/\h.DictOf (aS P w) a vs :=
 show bg P w H h a (.dK kvs)from yK ok e
theorem nj{kvs:List (Key×V)}(ok:HOk P w H h) (e:H a=some (.dK kvs)):kvs.length<=E4/\(a==ac9)=false/\∃vs,KV kvs vs/\h.DictOf (aS P w) a vs:=nG ok (.inl e)
theorem jF{ks:List Key}(ok:HOk P w H h) (e:H a=some (.tup (ks.map kV))):(an6 (aS P w)).is h ks a:=by
 obtain⟨_,its,r,o,h1,h2,⟨n,h3⟩,_⟩:=(show bg P w H h a (.tup (ks.map kV))from ok a _ e);exact⟨o,its.toArray,n,h1,h2,h3,by simpa using k8 r⟩
theorem ny{kvs:List (List Key×V)}(ok:HOk P w H h) (e:Rd H a (.dT kvs)):kvs.length<=E4/\(a==ac9)=false /\
  ∃xs,KT H kvs xs/\h.DictOfH (an6 (aS P w)) a xs:=by
 obtain⟨z,y,xs,r,o,es,ep,h1,h2,h3,h4,h5⟩:=(show bg P w H h a (.dT kvs)from yK ok e);refine⟨z,y,xs,r,o,es,ep,h1,h2,h3,h4,fun x hx=>?_,h5⟩;have all:∀{l:List (List Key×V)} {m:List (List Key×E5×s0)},KT H l m->∀x∈m,(an6 (aS P w)).is h x.1 x.2.1:=by
  intro l m q
  induction q with
  |nil=>intro x hx;exact nomatch hx
  |@cons p q ps qs hq t ih =>
   intro x hx;rcases E9.mp hx with e|hx
   ·subst e;exact jF ok (by rw[<-hq.1];exact hq.2.1)
   ·exact ih x hx
 exact all r x hx
theorem BU{kvs:List (List Key×V)}(ok:HOk P w H h) (e:H a=some (.dT kvs)):kvs.length<=E4/\(a==ac9)=false /\
  ∃xs,KT H kvs xs/\h.DictOfH (an6 (aS P w)) a xs:=ny ok (.inl e)
end
def gN(H:Hp) (a:E5) (y:V) (r:Option V):Prop :=
 (∃kvs k,Rd H a (.dK kvs)/\y=kV k/\r=fP kvs k)∨∃kvs k b,Rd H a (.dT kvs)/\y=.ref b/\H b=some (.tup (k.map kV))/\r=fP kvs k
def my(H:Hp) (a:E5) (y v:V) (H':Hp):Prop :=
 (∃kvs k,H a=some (.dK kvs)/\y=kV k/\kvs.length<E4/\H'=upd H a (.dK (dD kvs k v))) ∨
 ∃kvs k b,H a=some (.dT kvs)/\y=.ref b/\H b=some (.tup (k.map kV))/\kvs.length<E4/\H'=upd H a (.dT (dD kvs k v))
theorem gN.k{H:Hp}{a:E5}{kvs:List (Key×V)}{k:Key}(e:H a=some (.dK kvs)):gN H a (kV k) (fP kvs k):=.inl ⟨kvs,k,.inl e,rfl,rfl⟩
theorem gN.t{H:Hp}{a b:E5}{kvs:List (List Key×V)}{k:List Key}(e:H a=some (.dT kvs)) (eb:H b=some (.tup (k.map kV))):gN H a (.ref b) (fP kvs k):=.inr ⟨kvs,k,b,.inl e,rfl,eb,rfl⟩
theorem my.k{H:Hp}{a:E5}{kvs:List (Key×V)}{k:Key}{v:V}(e:H a=some (.dK kvs)) (hl:kvs.length<E4):my H a (kV k) v (upd H a (.dK (dD kvs k v))):=.inl ⟨kvs,k,e,rfl,hl,rfl⟩
theorem my.t{H:Hp}{a b:E5}{kvs:List (List Key×V)}{k:List Key}{v:V}(e:H a=some (.dT kvs)) (eb:H b=some (.tup (k.map kV))) (hl:kvs.length<E4) :
  my H a (.ref b) v (upd H a (.dT (dD kvs k v))):=.inr ⟨kvs,k,b,e,rfl,eb,hl,rfl⟩
section
variable{X:Cx}{aa:List (E5×Obj)}{σ:St}{H:Hp}{s:E2}{a:E5}{y v:V}{u r:s0}{o:Option V}{A:L8}{E:s0->E2->Prop}
theorem Inv.big(I:Inv X aa σ H s):ac9<s.heap.objs.size:=by
 have h:F9<s.heap.objs.size:=(I.mod.glob.keeps I.bk).lt;exact am3 (by decide) h
theorem pM{Q:s0->E2->Prop}(hu:A.units+1<ae6) (I:Inv X aa σ H s) (g:gN H a y (some v)) (ry:aF y u) (h:∀w' s',Inv X aa σ H s'->aF v w'->Q w' s') :
  F6 (J9 X.prog X.w) A (aj4 (.ref a) u) Q E s:=by
 rcases g with⟨kvs,k,e,ey,l⟩|⟨kvs,k,b,e,ey,eb,l⟩
 ·subst ey;obtain⟨z,hd,vs,rel,dd⟩:=nG I.hok e;obtain⟨w',hw,rw'⟩:=i8.some_of (v:=v) (o:=ao8 vs k) (by rw[l];exact rel.val k);exact wpAny_getItem_of (j8 ry) dd.mapOf hw (h w' _ (I.tok _) rw')
 ·subst ey;cases(show u=F3 b from ry);obtain⟨z,hd,xs,rel,dd⟩:=ny I.hok e;obtain⟨w',hw,rw'⟩:=i8.some_of (v:=v) (o:=(atKey xs k).map (·.2)) (by rw[l];exact rel.val k);obtain⟨p,hp,hp2⟩:=Option.map_eq_some_iff.mp hw;refine wpAny_getItem_heap (ag1 hu) (jF I.hok eb) dd hp ?_;rw[hp2];exact h w' _ (I.tok _) rw'
theorem Dl{Q:s0->E2->Prop}(hu:A.units+1<ae6) (I:Inv X aa σ H s) (g:gN H a y o) (ry:aF y u) (h:∀s',Inv X aa σ H s'->Q (.bool o.isSome) s') :
  F6 (J9 X.prog X.w) A (Q9 .In u (.ref a)) Q E s:=by
 rcases g with⟨kvs,k,e,ey,l⟩|⟨kvs,k,b,e,ey,eb,l⟩
 ·subst ey;obtain⟨z,hd,vs,rel,dd⟩:=nG I.hok e;refine wpAny_in_of (j8 ry) hd dd.mapOf ?_;rw[<-(rel.val k).isSome_eq,<-l];exact h _ (I.tok _)
 ·subst ey;cases(show u=F3 b from ry);obtain⟨z,hd,xs,rel,dd⟩:=ny I.hok e;refine wpAny_in_heap (ag1 hu) (jF I.hok eb) hd dd ?_;have q:=(rel.val k).isSome_eq;rw[ah4]at q;rw[<-q,<-l];exact h _ (I.tok _)
theorem wf{Q:s0->E2->Prop}(hu:A.units+1<ae6) (I:Inv X aa σ H s) (g:gN H a y o) (ry:aF y u) (h:∀s',Inv X aa σ H s'->Q (.bool (!o.isSome)) s') :
  F6 (J9 X.prog X.w) A (Q9 .NotIn u (.ref a)) Q E s:=by
 rcases g with⟨kvs,k,e,ey,l⟩|⟨kvs,k,b,e,ey,eb,l⟩
 ·subst ey;obtain⟨z,hd,vs,rel,dd⟩:=nG I.hok e;refine wpAny_notIn_of (j8 ry) hd dd.mapOf ?_;rw[<-(rel.val k).isSome_eq,<-l];exact h _ (I.tok _)
 ·subst ey;cases(show u=F3 b from ry);obtain⟨z,hd,xs,rel,dd⟩:=ny I.hok e;refine wpAny_notIn_heap (ag1 hu) (jF I.hok eb) hd dd ?_;have q:=(rel.val k).isSome_eq;rw[ah4]at q;rw[<-q,<-l];exact h _ (I.tok _)
theorem jm{h':I0}{t':Nat}{ob:HO}(I:Inv X aa σ H s) (mu:Mut (H a)) (hs:U6 a s.heap h') (he:∃q,h'.get? a=some q) (new:bg X.prog X.w (upd H a ob) h' a ob) :
  Inv X aa σ (upd H a ob) { s with heap:=h',toks:=t' } :=
 I.write (x:=a) (e:=a) mu (.inl rfl) (fun b q hb z=>(hs.2 b hb).trans z) he new
theorem uu{P:J4}{w:O3}{H':Hp}{h':I0}{kvs:List (Key×V)}{vs:List (Key×s0)}(z:kvs.length<=E4) (hd:(a==ac9)=false) (rel:KV kvs vs) (dd:h'.DictOf (aS P w) a vs) :
  bg P w H' h' a (.dK kvs):=⟨z,hd,vs,rel,dd⟩
theorem pP{H':Hp}{Q:Unit->E2->Prop}(hu:A.units+1<ae6) (I:Inv X aa σ H s) (g:my H a y v H') (ry:aF y u) (rv:aF v r) (h:∀s',Inv X aa σ H' s'->Q () s') :
  F6 (J9 X.prog X.w) A (setItem (.ref a) u r) Q E s:=by
 rcases g with⟨kvs,k,e,ey,l,eH⟩|⟨kvs,k,b,e,ey,eb,l,eH⟩
 ·subst ey eH;obtain⟨z,hd,vs,rel,dd⟩:=nj I.hok e;have hz:vs.length<=E4:=by rw[<-rel.length];exact z
  have hl:(dD kvs k v).length<=E4:=by have:=eZ kvs k v;lia
  refine wpAny_setItem_pairs (hsz:=hz) (j8 ry) dd fun h' dd' hs=>h _ ?_;have he:∃q,h'.get? a=some q:=let⟨q,_,_,hq,_⟩:=dd';⟨q,hq⟩
  exact jm I (by rw[e];exact ag9) hs he (uu hl hd (rel.put k rv) dd')
 ·subst ey eH;cases(show u=F3 b from ry);obtain⟨z,hd,xs,rel,dd⟩:=BU I.hok e;have hz:xs.length<=E4:=by rw[<-al3 rel];exact z
  have hl:(dD kvs k v).length<=E4:=by have:=eZ kvs k v;lia
  refine wpAny_setItem_heap (hsz:=hz) (ag1 hu) (jF I.hok eb) dd fun h' dd' hs=>h _ ?_;obtain⟨q,es,ep,hq,h2,h3,h4,_,h5⟩:=dd';refine jm I (by rw[e];exact ag9) hs ⟨q,hq⟩ ⟨hl,hd,_,(rel.put k eb rv).keeps fun c ys ec=>?_,q,es,ep,hq,h2,h3,h4,h5⟩;rw[aB (De ec e (fun z=>nomatch z))];exact ec
end
def zU(i:K4):Prop:=∀ov iv,an1 i false ov iv=operate [ov,iv] (aj4 ov iv)
theorem xn{prog:J4}{w:O3}{A:L8}{E:s0->E2->Prop}{s:E2}{env:Env}{value slice:K4}{pos:Pos}{T id:String}{Q:s0->E2->Prop}
  (hl:typeLookup (.type T) "__getitem__"=ad0 (some (.builtin id))) (hs:zU slice)
  (h:F6 (J9 prog w) A (Z4 value env) (fun o s₁=>F6 (J9 prog w) A (Z4 slice env) (fun i s₂=>s₂.TypeIs o T/\F6 (J9 prog w) A (aj4 o i) Q E s₂) E s₁) E s) :
  F6 (J9 prog w) A (Z4 (.Subscript value slice pos) env) Q E s:=by
 refine ao6 (L5 h (fun o s₁ h₁=>L5 h₁ (fun i s₂ h₂=>?_) fun _ _ x=>x) fun _ _ x=>x);obtain⟨hT,h₂⟩:=h₂;unfold subscriptTail;refine o0 ?_;rw[getitemInPython_of_ne hT.not_modules];refine o0 (wpAny_specialOf hT hl ?_);have fin:F6 (J9 prog w) A (an1 slice false o i) (fun r s₃=>F6 (J9 prog w) A (letTemporaryGo value o r >>= fun _=>ad0 r) Q E s₃) E s₂:=by
  rw[hs o i];exact wpAny_operating (L5 h₂ (fun r s₃ h₃=>o0 (wpAny_letTemporaryGo (E3 h₃))) fun _ _ x=>x)
 first
  |exact E3 (o0 fin)
  |exact o0 (E3 (o0 fin))
  |exact o0 fin
theorem nQ{X:Cx}{aa:List (E5×Obj)}{σ:St}{H:Hp}{s:E2}{a:E5}{y:V}{o:Option V}(I:Inv X aa σ H s) (g:gN H a y o):s.TypeIs (.ref a) "dict":=by
 rcases g with⟨kvs,k,e,_,_⟩|⟨kvs,k,b,e,_,_,_⟩
 ·obtain⟨_,_,vs,_,dd⟩:=nG I.hok e;exact dd.typeIs
 ·obtain⟨_,_,xs,_,dd⟩:=ny I.hok e;exact dd.typeIs
def Dc(td ty:TE):TE:=fun σ H Q=>td σ H fun x H1=>ty σ H1 fun y H2=>∃a v,x=.ref a/\gN H2 a y (some v)/\Q v H2
def Cu(ty td:TE):TE:=fun σ H Q=>ty σ H fun y H1=>td σ H1 fun x H2=>∃a o,x=.ref a/\gN H2 a y o/\Q (.bl o.isSome) H2
def qD(ty td:TE):TE:=fun σ H Q=>ty σ H fun y H1=>td σ H1 fun x H2=>∃a o,x=.ref a/\gN H2 a y o/\Q (.bl (!o.isSome)) H2
def CO(td ty tv:TE):TS:=fun D σ H=>tv σ H fun v H1=>td σ H1 fun x H2=>ty σ H2 fun y H3=>∃a H4,x=.ref a/\my H3 a y v H4/\D.nx σ H4
section
variable{X:Cx}{o i e value:K4}{pos pos' tpos:Pos}{td ty tv:TE}
theorem wY(hu:X.A.units+1<ae6) (ho:PE X o td) (hi:PE X i ty) (hs:zU i):PE X (.Subscript o i pos) (Dc td ty):=by
 intro aa s σ H Q I h;refine xn PySem.F.slot_dict_getitem.lookup hs (thn (ho aa s σ H _ I h) fun u s1 hup=>hup.el fun x H1 I1 rx q1=>thn (hi aa s1 σ H1 _ I1 q1) fun iv s2 ⟨y,H2,I2,ry,a,v,ex,g,q2⟩=>?_);subst ex;obtain rfl:u=F3 a:=rx;exact⟨nQ I2 g,pM hu I2 g ry fun w' s3 I3 rw'=>⟨v,H2,I3,rw',q2⟩⟩
theorem Au(hu:X.A.units+1<ae6) (hi:PE X i ty) (ho:PE X o td):PC X .In i o (Cu ty td):=by
 intro aa s σ H Q I h;refine thn (hi aa s σ H _ I h) fun iv s1 hup=>hup.el fun y H1 I1 ry q1=>thn (ho aa s1 σ H1 _ I1 q1) fun u s2 ⟨x,H2,I2,rx,a,ov,ex,g,q2⟩=>?_;subst ex;obtain rfl:u=F3 a:=rx;exact Dl hu I2 g ry fun s3 I3=>⟨.bl ov.isSome,H2,I3,rfl,q2⟩
theorem sY(hu:X.A.units+1<ae6) (hi:PE X i ty) (ho:PE X o td):PC X .NotIn i o (qD ty td):=by
 intro aa s σ H Q I h;refine thn (hi aa s σ H _ I h) fun iv s1 hup=>hup.el fun y H1 I1 ry q1=>thn (ho aa s1 σ H1 _ I1 q1) fun u s2 ⟨x,H2,I2,rx,a,ov,ex,g,q2⟩=>?_;subst ex;obtain rfl:u=F3 a:=rx;exact wf hu I2 g ry fun s3 I3=>⟨.bl (!ov.isSome),H2,I3,rfl,q2⟩
theorem mX(hu:X.A.units+1<ae6) (ho:PE X o td) (hi:PE X i ty) (hv:PE X value tv) (hs:Z0 value (some (.Subscript o i pos')) pos.line X.env=ad0 false) :
  PS X (.Assign [.Subscript o i pos'] value pos) (CO td ty tv):=by
 intro aa s σ H D I h;refine wpAny_Assign_Subscript (thn (hv aa s σ H _ I h) fun r s1 hup=>hup.el fun v H1 I1 rv q1=>thn (ho aa s1 σ H1 _ I1 q1) fun u s2 hup=>hup.el fun x H2 I2 rx q2=>thn (hi aa s2 σ H2 _ I2 q2) fun iv s3 ⟨y,H3,I3,ry,a,H4,ex,g,q3⟩=>?_) hs;subst ex;obtain rfl:u=F3 a:=rx;exact pP hu I3 g ry rv fun s4 I4=>⟨σ,H4,I4,q3⟩
end
theorem tY{P:J4}{w:O3}{H:Hp}(h:I0) (hb:ac9<h.objs.size):bg P w H (h.push { cls:=.type "dict",data:=.dict #[] }) h.objs.size (.dK []) :=
 ⟨O4 _,beq_eq_false_iff_ne.mpr (M9 (F8 hb)),[],.nil,I0.DictOf.new h⟩
theorem vO{P:J4}{w:O3}{H:Hp}(h:I0) (hb:ac9<h.objs.size):bg P w H (h.push { cls:=.type "dict",data:=.dict #[] }) h.objs.size (.dT []) :=
 ⟨O4 _,beq_eq_false_iff_ne.mpr (M9 (F8 hb)),[],.nil,_,#[],0,F0 _ rfl,⟨rfl,rfl,rfl⟩,rfl,rfl,List.nodup_nil⟩
def A1:TE:=fun _ H Q=>∀p,H p=none->Q (.ref p) (upd H p (.dT []))
section
variable{X:Cx}{pos:Pos}
theorem u6:PE X (.Dict [] [] pos) A1:=fun aa s σ H Q I h =>
 wpAny_Dict_empty ⟨.ref s.heap.objs.size,_,I.laid (a:=s.heap.objs.size) (o:=.dT []) (t':=s.toks) (fun _ _ q=>E1 _ q) (F5 _) (vO s.heap I.big),rfl,h _ (I.hok.fresh (F5 _))⟩
end
def p6:List (TE×TE)->St->Hp->(List (V×V)->Hp->Prop)->Prop
 |[],_,H,Q=>Q [] H
 |(tk,tv)::r,σ,H,Q=>tk σ H fun x H1=>tv σ H1 fun y H2=>p6 r σ H2 fun ps H3=>Q ((x,y)::ps) H3
abbrev VV:List (V×V)->List (s0×s0)->Prop:=Z8 fun p q=>aF p.1 q.1/\aF p.2 q.2
def PPs(X:Cx) (pos:Pos) (keys:List (Option K4)) (values:List K4) (trs:List (TE×TE)):Prop :=
 ∀(aa:List (E5×Obj)) (s:E2) (σ:St) (H:Hp) (Q:List (V×V)->Hp->Prop),Inv X aa σ H s->p6 trs σ H Q ->
  F6 (J9 X.prog X.w) X.A (evalPairs (pairTrees keys values X.env pos)) (fun vs s'=>∃ps H',Inv X aa σ H' s'/\VV ps vs/\Q ps H') X.xe s
theorem xI{X:Cx}{pos:Pos}:PPs X pos [] [] []:=fun aa s σ H Q I h=>pairTrees_nil_walk ⟨[],H,I,.nil,h⟩
theorem uO{X:Cx}{pos:Pos}{k v:K4}{ks:List (Option K4)}{vs:List K4}{tk tv:TE}{trs:List (TE×TE)}(hk:PE X k tk) (hv:PE X v tv) (hr:PPs X pos ks vs trs) :
  PPs X pos (some k::ks) (v::vs) ((tk,tv)::trs):=fun aa s σ H Q I h =>
 pairTrees_cons_walk (thn (hk aa s σ H _ I h) fun u s1 hup=>hup.el fun x H1 I1 rx q1=>thn (hv aa s1 σ H1 _ I1 q1) fun w2 s2 hup=>hup.el fun y H2 I2 ry q2 =>
  thn (hr aa s2 σ H2 _ I2 q2) fun ws s3 ⟨ps,H3,I3,rel,q3⟩=>⟨(x,y)::ps,H3,I3,.cons ⟨rx,ry⟩ rel,q3⟩)
def gu(kvs more:List (Key×V)):List (Key×V):=more.foldl (fun acc kv=>dD acc kv.1 kv.2) kvs
theorem KV.merge:∀{more:List (Key×V)}{rs:List (Key×s0)}{kvs:List (Key×V)}{vs:List (Key×s0)},KV more rs->KV kvs vs->KV (gu kvs more) (merged vs rs):=by
 intro more rs kvs vs r;unfold KV at r
 induction r generalizing kvs vs with
 |nil=>intro q;exact q
 |@cons p q ps qs h t ih =>
  intro r0;have e:KV (dD kvs p.1 p.2) (stored vs q.1 q.2):=by
   have:=r0.put p.1 h.2;rw[<-h.1];exact this
  exact ih e
theorem fS:∀(more kvs:List (Key×V)),(gu kvs more).length<=kvs.length+more.length
 |[],kvs=>by show kvs.length<=kvs.length+0;lia
 |p::r,kvs=>by
  have h1:=fS r (dD kvs p.1 p.2);have h2:=eZ kvs p.1 p.2;show(gu (dD kvs p.1 p.2) r).length<=_;rw[N6];lia
theorem jZ{P:J4}{w:O3}:∀{kvs:List (Key×V)}{ws:List (s0×s0)},VV (kvs.map fun kv=>(kV kv.1,kv.2)) ws->∃rs,Carries (aS P w) ws rs/\KV kvs rs
 |[],_,r=>by rw[ak3]at r;cases r;exact⟨[],ag9,.nil⟩
 |p::kvs,_,r=>by
  rw[J5]at r;cases r with
  |@cons a b as bs h t =>
   obtain⟨rs,c,q⟩:=jZ (P:=P) (w:=w) t;obtain⟨b1,b2⟩:=b;exact⟨(p.1,b2)::rs,⟨j8 h.1,rfl,c⟩,.cons ⟨rfl,h.2⟩ q⟩
def B4(trs:List (TE×TE)):TE:=fun σ H Q=>∀p,H p=none->p6 trs σ (upd H p (.dK [])) fun ps H2=>H2 p=some (.dK [])/\∃kvs:List (Key×V),ps=kvs.map (fun kv=>(kV kv.1,kv.2))/\kvs.length<=15/\Q (.ref p) (upd H2 p (.dK (gu [] kvs)))
theorem wW{X:Cx}{pos:Pos}{keys:List (Option K4)}{values:List K4}{trs:List (TE×TE)}(h:PPs X pos keys values trs) (hall:keys.all (·.isSome)=true) (hl:keys.length=values.length) (h0:keys≠[])
  (h15:keys.length<=15):PE X (.Dict keys values pos) (B4 trs):=by
 intro aa s σ H Q I q;have hn:=I.hok.fresh (F5 s.heap.objs.size);have I1:=I.laid (a:=s.heap.objs.size) (o:=.dK []) (h':=s.heap.push { cls:=.type "dict",data:=.dict #[] }) (t':=s.toks) (fun _ _ q=>E1 _ q) (F5 _) (tY s.heap I.big);refine wpAny_Dict_walk (knd:=aS X.prog X.w) hall hl h0 h15 (thn (h aa _ σ _ _ I1 (q _ hn)) fun ws s2 ⟨ps,H2,I2,rel,e,kvs,ep,lk,q2⟩=>?_);subst ep;obtain⟨rs,c,rk⟩:=jZ (P:=X.prog) (w:=X.w) rel;obtain⟨z,hd,vs0,r0,dd⟩:=nj I2.hok e;cases r0;refine⟨rs,c,dd,fun h' dd' hs=>⟨.ref s.heap.objs.size,_,?_,rfl,q2⟩⟩;have hz:(gu [] kvs).length<=E4:=by
  have h1:=fS kvs [];rw[T7]at h1;rw[R6];lia
 have he:∃q,h'.get? s.heap.objs.size=some q:=let⟨q,_,_,hq,_⟩:=dd';⟨q,hq⟩
 exact jm I2 (by rw[e];exact ag9) hs he (uu hz hd (rk.merge .nil) dd')
structure M1(X:Cx) (o:K4) (m:Str) (dP:Pos) (e:K4) (bj:Pos):Prop where
 base:aa7 o m X.env (Z4 o X.env)=Z4 o X.env
 few:((V0 bj (E8 [e] X.env)).all (fun x=>!x.1)&&(al5 bj (af2 [] X.env)).all (fun x=>x.1.isSome)
 &&decide (([e]:List K4).length+([]:List ah1).length+(if([]:List ah1).isEmpty then 0 else 1)<30))=true
 line:(dP.endLine==bj.line)=true
 trees:V0 bj (E8 [e] X.env)=[(false,Z4 e X.env)]
structure M2(X:Cx) (o:K4) (m:Str) (dP:Pos) (e f:K4) (bj:Pos):Prop where
 base:aa7 o m X.env (Z4 o X.env)=Z4 o X.env
 few:((V0 bj (E8 [e,f] X.env)).all (fun x=>!x.1)&&(al5 bj (af2 [] X.env)).all (fun x=>x.1.isSome)
 &&decide (([e,f]:List K4).length+([]:List ah1).length+(if([]:List ah1).isEmpty then 0 else 1)<30))=true
 line:(dP.endLine==bj.line)=true
 trees:V0 bj (E8 [e,f] X.env)=[(false,Z4 e X.env),(false,Z4 f X.env)]
noncomputable def aD(X:Cx) (scope:aa5) (cl:List (Str×E5)) (N:List Str) (C:E5) (s:E2) (H:Hp) (ex:List E5):Cx where
 prog:=X.prog
 w:=X.w
 K:=X.K
 mg:=X.mg
 base:=X.base
 A:=X.A
 N:=N
 s₀:=s
 H₀:=H
 env:=an9 scope cl C X.env
 outer:=X.stack
 stack:=X.stack
 ex:=ex
 calm:=X.calm
 fn:=fun _=>false
 pn:=[]
 xe:=fun _ _=>False
noncomputable def bv:List Bool->St->St
 |true::ms,v::σ=>v::bv ms σ
 |false::ms,_::σ=>none::bv ms σ
 |[],_::σ=>none::bv [] σ
 |_,[]=>[]
theorem bw:∀(ms:List Bool) (σ:St),(bv ms σ).length=σ.length
 |true::ms,v::σ=>by simp[bv,bw ms σ]
 |false::ms,_::σ=>by simp[bv,bw ms σ]
 |[],_::σ=>by simp[bv,bw [] σ]
 |[],[]=>by simp[bv]
 |true::_,[]=>by simp[bv]
 |false::_,[]=>by simp[bv]
theorem fD:∀{ms:List Bool}{σ:St}{i:Nat}{v:V},(bv ms σ)[i]?=some (some v)->ms[i]?=some true/\σ[i]?=some (some v)
 |true::ms,v::σ,0,x,h=>by simpa[bv]using h
 |true::ms,v::σ,i+1,x,h=>by
  have:=fD (ms:=ms) (σ:=σ) (i:=i) (v:=x) (by simpa[bv]using h);simpa using this
 |false::ms,_::σ,0,x,h=>by simp[bv]at h
 |false::ms,_::σ,i+1,x,h=>by
  have:=fD (ms:=ms) (σ:=σ) (i:=i) (v:=x) (by simpa[bv]using h);simpa using this
 |[],_::σ,0,x,h=>by simp[bv]at h
 |[],_::σ,i+1,x,h=>by
  have:=fD (ms:=[]) (σ:=σ) (i:=i) (v:=x) (by simpa[bv]using h);simpa using this
 |[],[],_,_,h=>by simp[bv]at h
 |true::_,[],_,_,h=>by simp[bv]at h
 |false::_,[],_,_,h=>by simp[bv]at h
def dS(ms:List Bool) (k:Nat) (σ:St):St:=bv ms σ++E6 k none
theorem rX{ms:List Bool}{k:Nat}{σ:St}{i:Nat}{v:V}(h:(dS ms k σ)[i]?=some (some v)):i<σ.length/\ms[i]?=some true/\σ[i]?=some (some v):=by
 unfold dS at h
 by_cases hi:i<(bv ms σ).length
 ·rw[P9 hi]at h;exact⟨by rwa [bw]at hi,fD h⟩
 ·rw[S3 (by lia),ac3]at h
  split at h<;>cases h
structure cC(X:Cx) (scope:aa5) (cl:List (Str×E5)) (ms:List Bool) (ao:List Str):Prop where
 kind:scope.kind=.function
 ncell:∀y∈scope.names,y.2≠.cell
 names:∀y∈scope.names,y.2=.local->scope.names.lookup y.1=some .local
 clos:closureFor scope X.env=ad0 cl
 sub:∀x c,cl.lookup x=some c->X.env.cells.lookup x=some c
 has:∀x,scope.names.lookup x=some .free->∃c,cl.lookup x=some c
 fr:∀x,scope.names.lookup x=some .free->X.env.scope.names.lookup x=some .cell∨X.env.scope.names.lookup x=some .free
 mask:∀(i:Nat) (x:Str),ms[i]?=some true->X.N[i]?=some x->scope.names.lookup x=some .free
 mlen:ms.length<=X.N.length
theorem gZ{env:Env}:∀{names:List (Str×R5)}{x:Str}{k:R5},
  (names.map fun(n,k)=>if(k==V6&&env.scope.kind==.function&&env.kindOf n==some .cell)then(n,ag2)else(n,k)).lookup x=some k->(∀y∈names,y.2≠.cell)->k=.cell∨k=.free->names.lookup x=some .free
 |[],_,_,h,_,_=>by simp at h
 |(n,k0)::r,x,k,h,hc,hk=>by
  have ih:=@gZ env r x k;have h:an3 x ((if(k0==V6&&env.scope.kind==.function&&env.kindOf n==some .cell)=true then(n,ag2)else(n,k0))::_)=some k:=h;cases hx:x==n with
  |true =>
   by_cases hq:(k0==V6&&env.scope.kind==.function&&env.kindOf n==some .cell)=true
   ·have:k0=.free:=by
     simp at hq;exact hq.1.1
    subst this;simp[P2,hx]
   ·rw[if_neg hq]at h;simp only[P2,hx]at h;cases h;rcases hk with rfl|rfl
    ·exact absurd rfl (hc (n,.cell) P0)
    ·simp[P2,hx]
  |false =>
   by_cases hq:(k0==V6&&env.scope.kind==.function&&env.kindOf n==some .cell)=true
   ·rw[if_pos hq]at h;simp only[P2,hx]at h ⊢;exact ih h (fun y hy=>hc y (F7 _ hy)) hk
   ·rw[if_neg hq]at h;simp only[P2,hx]at h ⊢;exact ih h (fun y hy=>hc y (F7 _ hy)) hk
theorem gJ{env:Env}:∀{names:List (Str×R5)}{x:Str},names.lookup x=some .free ->
  (names.map fun(n,k)=>if(k==V6&&env.scope.kind==.function&&env.kindOf n==some .cell)then(n,ag2)else(n,k)).lookup x=some .cell ∨
  (names.map fun(n,k)=>if(k==V6&&env.scope.kind==.function&&env.kindOf n==some .cell)then(n,ag2)else(n,k)).lookup x=some .free
 |[],_,h=>by simp at h
 |(n,k0)::r,x,h=>by
  have ih:=@gJ env r x;show an3 x ((if(k0==V6&&env.scope.kind==.function&&env.kindOf n==some .cell)=true then(n,ag2)else(n,k0))::_)=_∨an3 x ((if(k0==V6&&env.scope.kind==.function&&env.kindOf n==some .cell)=true then(n,ag2)else(n,k0))::_)=_;cases hx:x==n with
  |true =>
   simp only[P2,hx]at h;cases h
   split
   ·left;simp[P2,hx]
   ·right;simp[P2,hx]
  |false =>
   simp only[P2,hx]at h
   split<;>(simp only[P2,hx];exact ih h)
section
variable{X:Cx}{aa:List (E5×Obj)}{σ:St}{H H2:Hp}{s s2:E2}{scope:aa5}{cl:List (Str×E5)}{ms:List Bool}{ao:List Str}
theorem pW(I:Inv X aa σ H s) (S:cC X scope cl ms ao) {fp:List E5}(hfp:∀b∈fp,cA X aa H b) (hlt:∀b∈fp,b<s.heap.objs.size) {C:E5}(hC:s.heap.objs.size<=C) :
  (aD X scope cl (X.N++ao) C s H fp).Ok where
 mod:=I.ok.mod
 kind:=S.kind
 glob:=I.ok.glob
 blt:=I.ok.blt
 above:=hC
 inj:=fun x y c h1 h2=>I.ok.inj x y c (S.sub x c h1) (S.sub y c h2)
 has:=fun x hx=>S.has x (gZ (env:=X.env) (k:=if(aD X scope cl (X.N++ao) C s H fp).env.kindOf x=some .cell then .cell else .free) (by
  rcases hx with hx|hx
  ·rw[if_pos hx];exact hx
  ·rw[if_neg (by rw[hx];decide)];exact hx) S.ncell (by split<;>simp))
 cab:=fun x c h=>by cases h
 hd:=I.ok.hd
 frames:=I.ok.frames
 stk:=.inl rfl
 exf:=fun b hb=>⟨F8 (J6 (hlt b hb) hC),fun x c e=>(hfp b hb).2.2.2.2.1 x c (S.sub x c e)⟩
 bs:=I.bs
 bsz:=Q0 I.ok.bsz I.sz
 noex:=fun b o e hb=>by
  rcases(hfp b hb).2.2.2.1 with z|z
  ·exact I.ok.noex b o e z
  ·exact absurd (J6 (F2 e) (Q0 I.ok.bsz z)) (S8 _)
 exfs:=fun b hb z=>by
  rcases E9.mp (I.stkSub b z)with e|e
  ·exact(hfp b hb).2.1 e
  ·exact(hfp b hb).2.2.1 e
 funs:=I.stack
 frf:=I.stkFree
theorem rE(I:Inv X aa σ H s) (S:cC X scope cl ms ao) {fp:List E5}(hfp:∀b∈fp,cA X aa H b) (hlt:∀b∈fp,b<s.heap.objs.size) {C:E5}(hC:s.heap.objs.size<=C)
  (os:s2.os=s.os) (bare:ai4 s2.gens) (keep:∀b o,s.heap.get? b=some o->s2.heap.get? b=some o) {m:Str->Option s0} (hn:s2.heap.Ns C m) :
  Inv (aD X scope cl (X.N++ao) C s H fp) [] (dS ms ao.length σ) H s2 where
 ok:=pW I S hfp hlt hC
 os:=os
 bare:=bare
 base:=Un.kept keep
 loc:=⟨m,hn,fun i x v h1 h2 h3=>by
  obtain⟨hi,hm,hv⟩:=rX h2;have hiN:i<X.N.length:=by rw[<-I.len];exact hi
  have hx:X.N[i]?=some x:=by
   have h1':(X.N++ao)[i]?=some x:=h1
   rwa [P9 hiN]at h1'
  have hf:=S.mask i x hm hx;obtain⟨m0,hn0,hl⟩:=I.loc;obtain⟨u,r,l⟩:=hl i x v hx hv (by rcases S.fr x hf with z|z<;>simp[Vis,z]);refine⟨u,r,.inr ⟨?_,?_⟩⟩
  ·exact gJ (env:=X.env) hf
  ·obtain⟨c,hc⟩:=S.has x hf;have hc':=S.sub x c hc;rcases l with⟨k,_⟩|⟨_,c',e,z⟩
   ·rcases S.fr x hf with z|z<;>(have k':X.env.scope.names.lookup x=some .local:=k;rw[z]at k';cases k')
   ·rw[hc']at e;cases e;obtain⟨o,ho,hd⟩:=z;exact⟨c,hc,o,keep _ _ ho,hd⟩⟩
 cell:=fun x c e=>by
  obtain⟨v,o,ho,hd⟩:=I.cell x c (S.sub x c e);exact⟨v,o,keep _ _ ho,hd⟩
 free:=I.hok.fresh hC
 freeC:=fun x c e=>I.freeC x c (S.sub x c e)
 pin:=fun p hp=>absurd (show p∈([]:List (E5×Obj))from hp) (by simp)
 hok:=I.hok.kept keep
 len:=by
  unfold dS;rw[K7,bw,List.length_replicate,I.len];show _=(X.N++ao).length;rw[K7]
end
def PIf(X:Cx) (ifs:List K4) (t:TT):Prop :=
 ∀(aa:List (E5×Obj)) (s:E2) (σ:St) (H:Hp) (Q:Bool->Hp->Prop),Inv X aa σ H s->t σ H Q ->
  F6 (J9 X.prog X.w) X.A (forIn ifs true fun c r=>if r=true then do let ok <-isTrue c X.env (Z4 c X.env);ad0 (T9 ok)else ad0 (T9 r)) (TP X aa σ Q) X.xe s
def D4:TT:=fun _ H Q=>Q true H
theorem yn{X:Cx}:PIf X [] D4:=fun _ _ _ H _ I h=>wpAny_tests_nil ⟨H,I,h⟩
theorem yc{X:Cx}{c:K4}{t:TT}(h:PT X c t):PIf X [c] t:=fun aa s σ H Q I q=>wpAny_tests_one (h aa s σ H Q I q)
abbrev bR(its:List s0) (n:Nat):Obj:={ cls:=.type "list",data:=.seq its.toArray n }
theorem thF{α:Type}{t:Sem α}{Q Q':α->E2->Prop}{M:ao3}{A:L8}{E:s0->E2->Prop}{s:E2}(hE:E=fun _ _=>False) (h:F6 M A t Q E s) (hQ:∀a s,Q a s->Q' a s):F6 M A t Q' (fun _ _=>False) s:=L5 h hQ fun e s x=>by rw[hE]at x;exact x
abbrev lcE(el:K4) (gs:List ae0) (sc:aa5) (ps:Pos):K4:=.ListComp el gs sc ps
section
variable{prog:J4}{w:O3}{A:L8}{R:an7->E2->Prop}{s:E2}{el tg elt i:K4}{fs:List K4}{k:Nat}{p:Pos}{it acc:s0}{env:Env}{gs:List ae0}{sc:aa5}{ps:Pos}
abbrev AWt:=(E2->Prop)->E2->Prop
def rO(prog:J4) (w:O3) (A:L8) (elt:K4) (acc:s0) (env:Env):AWt:=fun Ok s=>F6 (J9 prog w) A (Z4 elt env) (fun x s₄=>F6 (J9 prog w) A (ap2 (.builtin "list.append") [acc,x]) (fun _ s₅=>Ok s₅) (fun _ _=>False) s₄) (fun _ _=>False) s
def ud(prog:J4) (w:O3) (A:L8) (ce:K4) (k:Nat) (i:K4) (acc:s0) (env:Env):AWt:=fun Ok s=>F6 (J9 prog w) A (Z4 i env) (fun x s₄=>F6 (J9 prog w) A (ao9 x) (fun it2 s₅ =>
 ac2 (J9 prog w) A (.compStart ce k it2 acc env) (fun r s₆=>(∃f,r=.ok f)/\Ok s₆) s₅) (fun _ _=>False) s₄) (fun _ _=>False) s
def tF(ce:K4) (k:Nat) (p:Pos) (tg:K4) (fs:List K4) (bd:s0->s0->Env->Sem Fin):Prop:=∀it acc env,compTurn ce k it acc env=(do
  am0 p
  let r <-an0 it
  match r with
   |none=>ad0 (Fin.done Flow.next)
   |some v=>do
    ad4 tg it v
    af7 tg env v
    let ok <-forIn fs true fun c r=>if r=true then do let ok <-PySem.isTrue c env (Z4 c env);ad0 (T9 ok)else ad0 (T9 r)
    if ok=true then bd it acc env else again (ac4 ce k it acc env))
def wD(prog:J4) (w:O3) (A:L8) (ce:K4) (k:Nat) (bd:s0->s0->Env->Sem Fin) (it acc:s0) (env:Env) (AW:AWt):Prop :=
 ∀Ok s (R:an7->E2->Prop) (E:s0->E2->Prop),AW Ok s->F6 (J9 prog w) A (bd it acc env) (fun fin s'=>match fin with|.done f=>R (.ok f) s'|.again c'=>c'=ac4 ce k it acc env/\Ok s') E s
theorem kT{bd:s0->s0->Env->Sem Fin}{AW:AWt}(hT:tF (lcE el gs sc ps) k p tg fs bd) (hq:(ac4 (lcE el gs sc ps) k it acc env).quiet=true:=by rfl) (hb:wD prog w A (lcE el gs sc ps) k bd it acc env AW) (I:Nat->E2->Prop)
  (turn:∀ n s,I n s → F6 (J9 prog w) A (an0 it) (fun r s₁ => match r with
   |none=>R (.ok .next) s₁
   | some v => F6 (J9 prog w) A (ad4 tg it v) (fun _ s₁ => F6 (J9 prog w) A (af7 tg env v) (fun _ s₂ =>
     F6 (J9 prog w) A (forIn fs true fun c r=>if r=true then do let ok <-isTrue c env (Z4 c env);ad0 (T9 ok)else ad0 (T9 r)) (fun ok s₃ =>
      if ok=true then AW (fun s₅=>∃m,m<n/\I m s₅) s₃
      else ∃m,m<n/\I m s₃) (fun _ _=>False) s₂) (fun _ _=>False) s₁) (fun _ _=>False) s₁) (fun _ _=>False) s)
  (n:Nat) (h:I n s) :
  ac2 (J9 prog w) A (.compLoop (lcE el gs sc ps) k it acc env) R s:=by
 refine codeAny_loop hq I (fun n s hI=>?_) n h;show F6 _ A ((compTurn (lcE el gs sc ps) k it acc env).onRaise (fun x=>do ag3 x env;theTreesLotGoes x)) _ _ s;refine wpAny_noted ?_;rw[hT];refine o0 (aa6 (o0 (L5 (turn n s hI) (fun r s₁ h₁=>?_) fun _ _ h'=>h'.elim)));cases r with
 |none=>exact E3 h₁
 |some v =>
  refine o0 (L5 h₁ (fun _ s1 h₁=>?_) fun _ _ h'=>h'.elim);refine o0 (L5 h₁ (fun _ s₂ h₂=>o0 (L5 h₂ (fun ok s₃ h₃=>?_) fun _ _ h'=>h'.elim)) fun _ _ h'=>h'.elim);cases ok with
  |false=>exact E3 ⟨rfl,h₃⟩
  |true=>exact hb _ _ _ _ h₃
noncomputable def qW(ce:K4) (k:Nat) (elt:K4):s0->s0->Env->Sem Fin:=fun it acc env=>bind (bind (Z4 elt env) fun x=>bind (ap2 (ae1 "list.append") [acc,x]) fun _=>ad0 ()) fun(_:Unit)=>again (ac4 ce k it acc env)
noncomputable def za(ce:K4) (k:Nat) (i:K4):s0->s0->Env->Sem Fin:=fun it acc env=>do
 let x <-Z4 i env
 am0 i.pos
 let x <-O1 i env x
 let it2 <-aj3 [x] (ao9 x)
 let _ <-runOwn (ap3.compStart ce (k+1) it2 acc env) env
 again (ac4 ce k it acc env)
theorem yD:wD prog w A (lcE el gs sc ps) k (qW (lcE el gs sc ps) k elt) it acc env (rO prog w A elt acc env):=fun Ok s R E h =>
 o0 (o0 (L5 h (fun x s₄ h₄=>o0 (L5 h₄ (fun _ s₅ h₅=>E3 (E3 ⟨rfl,h₅⟩)) fun _ _ h'=>h'.elim)) fun _ _ h'=>h'.elim))
theorem xt(hs:∀x,O1 i env x=ad0 x):wD prog w A (lcE el gs sc ps) k (za (lcE el gs sc ps) k i) it acc env (ud prog w A (lcE el gs sc ps) (k+1) i acc env):=fun Ok s R E h=>by
 refine o0 (L5 h (fun x s₄ h₄=>o0 (aa6 ?_)) fun _ _ h'=>h'.elim);rw[hs x];refine o0 (E3 (o0 (P4 (L5 h₄ (fun it2 s₅ h₅=>?_) fun _ _ h'=>h'.elim))));refine o0 (wpAny_runOwn (ad5 h₅ fun r s₆ h₆=>?_));obtain⟨⟨f,rfl⟩,h₆⟩:=h₆;exact E3 ⟨rfl,h₆⟩
def tK(ce:K4) (k:Nat) (p:Pos):Prop:=∀it acc env,compStart ce k it acc env=(do
  let r <-ask
  if r.params.followText "comprehension-iter-twice"=true then again (ac4 ce k it acc env)
   else do
    rule "comprehension.iter-twice"
    am0 p
    let i <-ao9 it
    again (ac4 ce k i acc env))
theorem jR(hS:tK (lcE el gs sc ps) k p) (h:ac2 (J9 prog w) A (.compLoop (lcE el gs sc ps) k it acc env) R s)
  (h2:F6 (J9 prog w) A (ao9 it) (fun it' s'=>ac2 (J9 prog w) A (.compLoop (lcE el gs sc ps) k it' acc env) R s') (fun _ _=>False) s) :
  ac2 (J9 prog w) A (.compStart (lcE el gs sc ps) k it acc env) R s:=by
 refine codeAny_of_tree ?_;show F6 _ A ((compStart (lcE el gs sc ps) k it acc env).onRaise (fun x=>do ag3 x env;am0 theWindowsPlace)) _ _ s;refine ag4 ?_;rw[hS];refine o0 (wpAny_askSetting ?_);dsimp only
 split
 ·exact E3 ⟨rfl,h⟩
 ·exact o0 (al2 (o0 (aa6 (o0 (L5 h2 (fun it' s' h'=>E3 ⟨rfl,h'⟩) fun _ _ h'=>h'.elim)))))
end
abbrev BK:=List V->St->Hp->(List V->St->Hp->Prop)->Prop
def iI(J:It) (g:TG) (tc:TT) (B:BK) (W:Nat->Nat->List V->St->Hp->Prop) (Z:List V->St->Hp->Prop):Prop :=
 ∀i m ys σ H,W i m ys σ H->ys.length<=E4/\((J.stop i H/\Z ys σ H) ∨
  (J.go i H/\∀x H',J.yld i H x H'->g x σ H' fun σ2 H2=>tc σ2 H2 fun b H3=>if b=true then B ys σ2 H3 (fun ys' σ' H'=>∃m',m'<m/\W (i+1) m' ys' σ' H')else ∃m',m'<m/\W (i+1) m' ys σ2 H3))
def jn(te:TE):BK:=fun ys σ H Z=>te σ H fun y H'=>Z (ys++[y]) σ H'
def wj(wi:TI) (g:TG) (tc:TT) (B:BK):BK:=fun ys σ H Z=>wi σ H fun J H'=>∃W:Nat->Nat->List V->St->Hp->Prop,(∃m,W 0 m ys σ H')/\iI J g tc B W Z
section
variable{Y:Cx}{D:E5}{el tg elt i1:K4}{fs:List K4}{g:TG}{tc:TT}{te:TE}{wi:TI}{B:BK}{k:Nat}{p:Pos}{gs:List ae0}{sc:aa5}{ps:Pos}
def zx(Y:Cx) (D:E5) (AW:AWt) (B:BK):Prop:=∀(P:List (E5×Obj)) (its:List s0) (nn:Nat) (ys:List V) (σ:St) (H:Hp) (s:E2) (Z:List V->St->Hp->Prop),Inv Y ([(D,bR its nn)]++P) σ H s->ax ys its->ys.length<=E4->(∀p∈P,p.1≠D)->B ys σ H Z ->
 AW (fun s'=>∃ys' its' n' σ' H',Inv Y ([(D,bR its' n')]++P) σ' H' s'/\ax ys' its'/\Z ys' σ' H') s
structure gK(Y:Cx) (D:E5):Prop where
 pn:Y.pn=[]
 calm:Y.calm=true
 xe:Y.xe=fun _ _=>False
 ex:D∈Y.ex∨Y.s₀.heap.objs.size<=D
 cell:∀x c,Y.env.cells.lookup x=some c->c≠D
theorem AWt.mono_leaf{prog:J4}{w:O3}{A:L8}{acc:s0}{env:Env}{Ok Ok':E2->Prop}{s:E2}(h:rO prog w A elt acc env Ok s) (k:∀s,Ok s->Ok' s):rO prog w A elt acc env Ok' s :=
 L5 h (fun _ _ h1=>L5 h1 (fun _ _ h2=>k _ h2) fun _ _ x=>x) fun _ _ x=>x
theorem wg(c:gK Y D) (he:PE Y elt te):zx Y D (rO Y.prog Y.w Y.A elt (.ref D) Y.env) (jn te):=by
 intro P its nn ys σ H s Z I rv hz hPD q;refine thF c.xe (he _ s σ H _ I q) fun v s9 hup=>hup.el fun y H9 I9 r9 q9=>?_;have pacc:=I9.pin (D,bR its nn) (J3 _ (U4 _ P0));have hzi:its.toArray.size<=E4:=by rw[F1,<-rv.length];exact hz
 refine PySem.wpAny_list_append_plain (hsz:=hzi) ⟨nn,pacc.1⟩ fun h' hl' hs'=>?_;obtain⟨n',hl'⟩:=hl';have I10:Inv Y [] σ H9 { s9 with heap:=h' } :=
  Inv.turned (t':=s9.toks) (it:=D) (I9.pins_of fun p hp=>absurd hp (by simp)) (fun b o hb e=>(hs'.2 b hb).trans e) pacc.2.1 pacc.2.2.1 c.ex c.cell (fun p hp=>absurd (show p∈([]:List (E5×Obj))from by rw[c.pn]at hp;exact hp) (by simp))
 refine⟨ys++[y],its++[v],n',σ,H9,I10.pins_of fun p hp=>?_,rv.append (.cons r9 .nil),q9⟩;rcases L9.mp hp with z|z
 ·have e:p=(D,bR (its++[v]) n'):=J0.mp z;subst e;refine⟨?_,pacc.2.1,pacc.2.2.1,pacc.2.2.2.1,fun v z=>by cases z⟩;rw[hl'];simp[bR]
 ·obtain⟨b1,b2,b3,b4,b5⟩:=I9.pin p (J3 _ (J3 _ z));exact⟨(hs'.2 _ (hPD p z)).trans b1,b2,b3,b4,b5⟩
structure Lv(Y:Cx) (D:E5) (ce:K4) (k:Nat) (p:Pos) (tg:K4) (fs:List K4) (B:BK):Prop where
 ex:∃bd AW,tF ce k p tg fs bd/\(∀it,wD Y.prog Y.w Y.A ce k bd it (.ref D) Y.env AW)/\zx Y D AW B/\∀{Ok Ok':E2->Prop} {s:E2},AW Ok s->(∀s,Ok s->Ok' s)->AW Ok' s
theorem qB(c:gK Y D) (he:PE Y elt te) (hT:tF (lcE el gs sc ps) k p tg fs (qW (lcE el gs sc ps) k elt)):Lv Y D (lcE el gs sc ps) k p tg fs (jn te):=⟨_,_,hT,fun _=>yD,wg c he,AWt.mono_leaf⟩
theorem ma(c:gK Y D) (L:Lv Y D (lcE el gs sc ps) k p tg fs B) {it2:E5}
  (hg:PG Y tg g) (hif:PIf Y fs tc) {P:List (E5×Obj)} (hPD:∀p∈P,p.1≠D)
  {its0:List s0} {nn0:Nat} {ys0:List V} {σ:St} {H:Hp} {s:E2} (I:Inv Y ([(D,bR its0 nn0)]++P) σ H s) (rv0:ax ys0 its0) {fp2:List E5} {tn2:Nat->I0->Prop} {J2:It} (T:iB Y.prog Y.w Y.K tg J2 fp2 it2 tn2) (st:tn2 0 s.heap)
  (f:∀b∈fp2,cA Y ([(D,bR its0 nn0)]++P) H b) {W2:Nat->Nat->List V->St->Hp->Prop} {Z2:List V->St->Hp->Prop} {m0:Nat} (w0:W2 0 m0 ys0 σ H) (turn:iI J2 g tc B W2 Z2) {R:an7->E2->Prop}
  (hR:∀(s':E2) (ys:List V) (its:List s0) (n:Nat) (σ':St) (H':Hp),Inv Y ([(D,bR its n)]++P) σ' H' s'->ax ys its->ys.length<=E4->Z2 ys σ' H'->R (.ok .next) s') :
  ac2 (J9 Y.prog Y.w) Y.A (.compLoop (lcE el gs sc ps) k (.ref it2) (.ref D) Y.env) R s:=by
 obtain⟨bd,AW,hT,hb,hB,hAW⟩:=L.ex;have fpc:∀{H:Hp} {n:Nat} {its:List s0},(∀b∈fp2,H b=none)->∀b∈fp2,cA Y ([(D,bR its n)]++P) H b:=fun hn b hb=>by
  obtain⟨_,a1,a2,a3,a4,a5⟩:=f b hb;refine⟨hn b hb,a1,a2,a3,a4,fun p hp=>?_⟩;rw[c.pn,O5]at hp;rcases L9.mp hp with z|z
  ·obtain rfl:=J0.mp z;exact a5 (D,bR its0 nn0) (by rw[c.pn];simp)
  ·exact a5 p (by rw[c.pn];simp[z])
 refine kT hT rfl (hb _) (fun n s'=>∃i ys its nn σ' H',Inv Y ([(D,bR its nn)]++P) σ' H' s'/\ax ys its/\tn2 i s'.heap/\(∀b∈fp2,H' b=none)/\W2 i n ys σ' H') ?_ m0
  ⟨0,ys0,its0,nn0,σ,H,I,rv0,st,fun b hb=>(f b hb).1,w0⟩
 rintro n s' ⟨i,ys,its,nn,σ',H',I4,rv,st4,fr4,w4⟩;obtain⟨hz,h⟩:=turn i n ys σ' H' w4;rcases h with⟨stop,hZ⟩|⟨go,step⟩
 ·refine thn (T.done Y rfl rfl rfl c.calm i _ s' _ H' (fun _ _=>False) I4 (fpc fr4) st4 stop) fun r s4 ⟨hr,I5⟩=>?_;subst hr;exact hR s4 ys its nn σ' H' I5 rv hz hZ
 ·refine thn (T.item Y rfl rfl rfl c.calm i _ s' _ H' (fun _ _=>False) I4 (fpc fr4) st4 go) fun r s5 ⟨u,hr,h5⟩=>?_;subst hr;refine thn h5 fun _ s6 ⟨x,H6,I6,r6,y6,st6,fr6⟩=>?_;have I6':=I6.pinned (fpc fr6) (T.obj _ _ st6);refine thF c.xe (hg _ s6 _ H6 x u _ I6' r6 (step x H6 y6)) fun _ s7 ⟨σ7,H7,I7,q7⟩=>?_;refine thF c.xe (hif _ s7 σ7 H7 _ I7 q7) fun ok s8 hup=>hup.el fun H8 I8 q8=>?_;have keepfp:∀{its:List s0} {nn:Nat} {σ9:St} {H9:Hp} {s9:E2},Inv Y (([(D,bR its nn)]++P)++gi fp2 s6.heap) σ9 H9 s9->tn2 (i+1) s9.heap/\∀b∈fp2,H9 b=none:=fun {its nn σ9 H9 s9} I9 =>
   ⟨T.keep _ _ _ st6 fun b hb o e=>(I9.pin (b,o) (J3 _ (J3 _ (cf hb e)))).1,fun b hb=>by
    obtain⟨o,e,d⟩:=T.obj _ _ st6 b hb;exact(I9.pin (b,o) (J3 _ (J3 _ (cf hb e)))).2.1⟩
  cases ok with
  |false =>
   obtain⟨m',hm,w8⟩:=q8;obtain⟨a8,b8⟩:=keepfp I8;exact⟨m',hm,i+1,ys,its,nn,σ7,H8,I8.unpinned,rv,a8,b8,w8⟩
  |true =>
   have hPD2:∀p∈P++gi fp2 s6.heap,p.1≠D:=fun p hp=>by
    rcases L9.mp hp with z|z
    ·exact hPD p z
    ·have hb:=(lS z).1;intro e;exact(f _ hb).2.2.2.2.2 (D,bR its0 nn0) (by rw[c.pn];simp) e.symm
   refine hAW (hB (P++gi fp2 s6.heap) its nn ys σ7 H8 s8 _ (by rw[<-ac0];exact I8) rv hz hPD2 q8) ?_;rintro s9 ⟨ys',its',n',σ',H',I',rv',m',hm,w'⟩;rw[<-ac0]at I';obtain⟨a9,b9⟩:=keepfp I';exact⟨m',hm,i+1,ys',its',n',σ',H',I'.unpinned,rv',a9,b9,w'⟩
theorem pH{prog:J4}{w:O3}{A:L8}{acc:s0}{env:Env}{Ok Ok':E2->Prop}{s:E2}(h:ud prog w A (lcE el gs sc ps) k i1 acc env Ok s) (h':∀s,Ok s->Ok' s):ud prog w A (lcE el gs sc ps) k i1 acc env Ok' s :=
 L5 h (fun _ _ h1=>L5 h1 (fun _ _ h2=>ad5 h2 fun _ _ h3=>⟨h3.1,h' _ h3.2⟩) fun _ _ x=>x) fun _ _ x=>x
theorem wN{tg1:K4}{fs1:List K4}{p1:Pos}(c:gK Y D) (L:Lv Y D (lcE el gs sc ps) (k+1) p1 tg1 fs1 B) (hS:tK (lcE el gs sc ps) (k+1) p1) (hs:∀x,O1 i1 Y.env x=ad0 x) (hi:PI Y tg1 i1 wi) (hg:PG Y tg1 g) (hif:PIf Y fs1 tc)
  (hT:tF (lcE el gs sc ps) k p tg fs (za (lcE el gs sc ps) k i1)):Lv Y D (lcE el gs sc ps) k p tg fs (wj wi g tc B):=by
 refine⟨_,_,hT,fun _=>xt hs,?_,pH⟩;intro P its nn ys σ H s Z I rv hz hPD q;refine thF c.xe (hi _ s σ H _ I q) fun v s9 h9=>thF c.xe h9 fun itv s10 h10=>?_;obtain⟨it2,fp2,tn2,J2,H10,e,I10,T2,st10,f10,W2,⟨m2,w2⟩,cin⟩:=h10;subst e;have loop:=ma c L hg hif hPD I10 rv T2 st10 f10 w2 cin (R:=fun r s₆=>(∃f,r=.ok f)/\∃ys' its' n' σ' H',Inv Y ([(D,bR its' n')]++P) σ' H' s₆/\ax ys' its'/\Z ys' σ' H')
  (fun s' ys its n σ' H' I' rv' _ hZ=>⟨⟨_,rfl⟩,ys,its,n,σ',H',I',rv',hZ⟩)
 exact jR hS loop (T2.self _ 0 _ _ _ st10 loop)
end
section
variable{X:Cx}{aa:List (E5×Obj)}{σ σ':St}{H2 H':Hp}{s2 s':E2}{scope:aa5}{cl:List (Str×E5)}{ms:List Bool}{ao:List Str}{elt t0 i0:K4}{f0:List K4}{gs:List ae0}{g0:TG}{tc0:TT}{B:BK}{p pos:Pos}
theorem lq(S:cC X scope cl ms ao) (cO:X.calm=true)
  (hg0:∀C s H ex,PG (aD X scope cl (X.N++ao) C s H ex) t0 g0) (hif0:∀C s H ex,PIf (aD X scope cl (X.N++ao) C s H ex) f0 tc0)
  (hL:∀C s H ex D,gK (aD X scope cl (X.N++ao) C s H ex) D->Lv (aD X scope cl (X.N++ao) C s H ex) D (lcE elt (⟨t0,i0,f0,0⟩::gs) scope pos) 0 p t0 f0 B)
  (I2:Inv X aa σ H2 s2) {it:E5} {fp:List E5} {tn:Nat->I0->Prop} {J:It} (T:iB X.prog X.w X.K t0 J fp it tn) (st2:tn 0 s2.heap) (fz:∀b∈fp,cA X aa H2 b)
  {W:Nat->Nat->List V->St->Hp->Prop} {Z:List V->St->Hp->Prop} {m0:Nat} (w0:W 0 m0 [] (dS ms ao.length σ) H2) (turn:iI J g0 tc0 B W Z)
  {RR:s0->E5->an7->E2->Prop} {E:s0->E2->Prop}
  (hRR:∀ (s':E2) (ys:List V) (its:List s0) (n:Nat) (σ':St) (H':Hp),Inv (aD X scope cl (X.N ++ ao) (s2.heap.objs.size + 1) s2 H2 fp) [(s2.heap.objs.size,bR its n)] σ' H' s' → ax ys its → ys.length ≤ E4 → Z ys σ' H' →
   RR (.ref s2.heap.objs.size) (s2.heap.objs.size+1) (.ok .next) s') :
  F6 (J9 X.prog X.w) X.A (newList []) (fun acc s₃=>F6 (J9 X.prog X.w) X.A (newFunctionEnv scope X.env.globals cl [] X.env.qual none .none (some X.env)) (fun cenv s₄ =>
   ac2 (J9 X.prog X.w) X.A (.compStart (lcE elt (⟨t0,i0,f0,0⟩::gs) scope pos) 0 (.ref it) acc { cenv with scope:=relabel scope X.env }) (RR acc cenv.locals) s₄) E s₃) E s2:=by
 refine O8 (wpAny_newFunctionEnv S.ncell (by intro y hy;simp at hy) (fun h₁ hns₁ hsb₁=>?_) S.kind);dsimp only at hns₁ hsb₁ ⊢;have hsz:(s2.heap.push { cls:=.type "list",dict:=none,data:=.seq ([]:List s0).toArray }).objs.size=s2.heap.objs.size+1:=by rw[R8]
 rw[hsz]at hns₁ hsb₁ ⊢;have hlt:∀b∈fp,b<s2.heap.objs.size:=fun b hb=>by
  obtain⟨o,e,_⟩:=T.obj _ _ st2 b hb;exact F2 e
 have old:∀b o,s2.heap.get? b=some o->h₁.get? b=some o:=fun b o e=>hsb₁.extBut b o (F8 (O9 (F2 e))) (E1 _ (E1 _ e));have hacc:h₁.get? s2.heap.objs.size=some (bR [] 0):=hsb₁.extBut _ _ (F8 (U7 _)) (E1 _ (F0 _ rfl));have hDn:H2 s2.heap.objs.size=none:=I2.hok.fresh (F5 _);have hDfs:∀b,s2.heap.objs.size<=b->b∉(aD X scope cl (X.N++ao) (s2.heap.objs.size+1) s2 H2 fp).fs:=fun b hb z=>by
  rcases E9.mp (I2.stkSub b z)with e|e
  ·subst e;exact absurd (J6 I2.lt hb) (S8 _)
  ·exact I2.nofs hb e
 have loop:∀s₃:E2,s₃={ s2 with heap:=h₁,toks:=s2.toks+([]:List (Str×s0)).length } ->
   ac2 (J9 X.prog X.w) X.A (.compLoop (lcE elt (⟨t0,i0,f0,0⟩::gs) scope pos) 0 (.ref it) (.ref s2.heap.objs.size) (an9 scope cl (s2.heap.objs.size+1) X.env)) (RR (.ref s2.heap.objs.size) (s2.heap.objs.size+1)) s₃:=by
  rintro s₃ rfl;have I3:Inv (aD X scope cl (X.N++ao) (s2.heap.objs.size+1) s2 H2 fp) [] (dS ms ao.length σ) H2 { s2 with heap:=h₁,toks:=s2.toks+([]:List (Str×s0)).length } :=
   rE I2 S fz hlt (ad6 _) rfl I2.bare old hns₁
  have c:gK (aD X scope cl (X.N++ao) (s2.heap.objs.size+1) s2 H2 fp) s2.heap.objs.size:=⟨rfl,cO,rfl,.inr (F5 _),fun x c e=>by
   obtain⟨v,o,ho,_⟩:=I2.cell x c (S.sub x c e);exact F8 (F2 ho)⟩
  refine ma c (hL _ _ _ _ _ c) (hg0 _ _ _ _) (hif0 _ _ _ _) (P:=[]) (fun p hp=>nomatch hp) (its0:=[]) (nn0:=0) (I3.pins_of fun p hp=>?_) .nil T (T.keep _ _ _ st2 fun b _ o e=>old b o e) (fun b hb=>?_) w0 turn ?_
  ·have e:p=(s2.heap.objs.size,bR [] 0):=J0.mp hp;subst e;exact⟨hacc,hDn,F8 (U7 _),hDfs _ (F5 _),fun v z=>by cases z⟩
  ·exact⟨(fz b hb).1,F8 (O9 (hlt b hb)),(pW I2 S fz hlt (ad6 _)).exfs b hb,.inl hb,fun x c e=>(fz b hb).2.2.2.2.1 x c (S.sub x c e),fun p hp=>by
    have:p=(s2.heap.objs.size,_):=J0.mp (show p∈[(s2.heap.objs.size,_)]from hp);subst this;exact V9 (hlt b hb)⟩
  ·exact fun s' ys its n σ' H' I' rv hz hZ=>hRR s' ys its n σ' H' I' rv hz hZ
 exact codeAny_compStart_list (loop _ rfl) (T.self _ 0 _ _ _ (T.keep _ _ _ st2 fun b _ o e=>old b o e) (loop _ rfl))
end
section
variable{X:Cx}{aa:List (E5×Obj)}{σ σ':St}{H2 H':Hp}{s2 s':E2}{scope:aa5}{cl:List (Str×E5)}{ms:List Bool}{ao:List Str}{tg iter elt:K4}{ifs:List K4}{g:TG}{tc:TT}{te:TE}{pos p:Pos}{B:BK}{gs:List ae0}
theorem iy(I2:Inv X aa σ H2 s2) {fp:List E5}(f2:∀b∈fp,cA X aa H2 b) {its:List s0}{n:Nat}{ys:List V}
  (I':Inv (aD X scope cl (X.N++ao) (s2.heap.objs.size+1) s2 H2 fp) [(s2.heap.objs.size,bR its n)] σ' H' s') (rv:ax ys its) (hz:ys.length<=E4) {h':I0} (hs:U6 (s2.heap.objs.size+1) s'.heap h') :
  Inv X aa σ (upd H' s2.heap.objs.size (.lst ys)) { s' with heap:=h' }/\H' s2.heap.objs.size=none:=by
 have pacc:=I'.pin (s2.heap.objs.size,bR its n) (J3 _ P0);have hC:H' (s2.heap.objs.size+1)=none:=I'.free;have hD:H' s2.heap.objs.size=none:=pacc.2.1;have up:∀b o,b≠s2.heap.objs.size+1->s'.heap.get? b=some o->h'.get? b=some o:=fun b o hb e=>(hs.2 b hb).trans e;have nD:∀b u,H' b=some u->b≠s2.heap.objs.size:=fun b u e z=>by rw[z,hD]at e;cases e
 have nC:∀b u,H' b=some u->b≠s2.heap.objs.size+1:=fun b u e z=>by rw[z,hC]at e;cases e
 have hacc:h'.get? s2.heap.objs.size=some (bR its n):=up _ _ (F8 (U7 _)) pacc.1;have hok:HOk X.prog X.w (upd H' s2.heap.objs.size (.lst ys)) h':=fun b u e=>by
  by_cases hb:b=s2.heap.objs.size
  ·subst hb;rw[az]at e;cases e;exact⟨hz,its,n,rv,hacc⟩
  ·rw[aB hb]at e;refine(I'.hok b u e).stay (fun c v hc q=>up c v ?_ q) (fun c q=>by rw[aB (nD c _ q)];exact q) fun c xs q=>by rw[aB (nD c _ q)];exact q
   rcases hc with rfl|hc
   ·exact nC _ _ e
   ·exact nC _ _ hc
 have un:Un (frs X.stack) fp H2 (upd H' s2.heap.objs.size (.lst ys)) s2.heap h':=by
  have U:=I'.base;have ltD:∀b o,s2.heap.get? b=some o->b≠s2.heap.objs.size:=fun b o e=>F8 (F2 e);have ltC:∀b o,s2.heap.get? b=some o->b≠s2.heap.objs.size+1:=fun b o e=>F8 (O9 (F2 e));refine⟨fun b o e nb hb hx=>up b o (ltC b o e) (U.keep b o e nb hb hx),fun b o e nb hb hx=>?_,fun b o e nb hx=>by rw[aB (ltD b o e)];exact U.free b o e nb hx,fun b o e hx=>?_,
   fun b xs e=>by have q:=U.tups b xs e;rw[aB (nD b _ q)];exact q,fun b o u e=>by have q:=U.frzs b o u e;rw[aB (nD b _ q)];exact q,fun b ps e=>?_⟩
  ·obtain⟨sl,q⟩:=U.slot b o e nb hb hx;exact⟨sl,up b _ (ltC b o e) q⟩
  ·obtain⟨o',q⟩:=U.there b o e hx;exact⟨o',up b _ (ltC b o e) q⟩
  ·obtain⟨more,q⟩:=U.tbls b ps e;exact⟨more,by rw[aB (nD b _ q)];exact q⟩
 exact⟨I2.call' (s':={ s' with heap:=h' }) (ch:=fp) I'.os un hok I'.bare fun b hb=>⟨(f2 b hb).2.2.2.1,(f2 b hb).2.1,(f2 b hb).2.2.2.2.1,(f2 b hb).2.2.2.2.2⟩,hD⟩
def yE(ms:List Bool) (k:Nat) (wi:TI) (g:TG) (tc:TT) (B:BK):TE:=fun σ H Q=>wi σ H fun J H1=>∃(W:Nat->Nat->List V->St->Hp->Prop) (Z:List V->St->Hp->Prop),(∃m,W 0 m [] (dS ms k σ) H1)/\iI J g tc B W Z /\
 ∀ys σ' H p,Z ys σ' H->H p=none->Q (.ref p) (upd H p (.lst ys))
abbrev tLc(ms:List Bool) (k:Nat) (wi:TI) (g:TG) (tc:TT) (te:TE):TE:=yE ms k wi g tc (jn te)
abbrev LvC(X:Cx) (scope:aa5) (cl:List (Str×E5)) (ao:List Str) (ce:K4) (p:Pos) (tg:K4) (ifs:List K4) (B:BK):Prop:=∀C s H ex D,gK (aD X scope cl (X.N++ao) C s H ex) D->Lv (aD X scope cl (X.N++ao) C s H ex) D ce 0 p tg ifs B
theorem AZ(S:cC X scope cl ms ao) (cO:X.calm=true) {wi:TI}(hi:PI X tg iter wi)
  (hg:∀C s H ex,PG (aD X scope cl (X.N++ao) C s H ex) tg g) (hif:∀C s H ex,PIf (aD X scope cl (X.N++ao) C s H ex) ifs tc) (hL:LvC X scope cl ao (lcE elt (⟨tg,iter,ifs,0⟩::gs) scope pos) p tg ifs B)
  (hs:∀x,O1 iter X.env x=ad0 x:=by intro _;rfl):PE X (lcE elt (⟨tg,iter,ifs,0⟩::gs) scope pos) (yE ms ao.length wi g tc B):=by
 intro aa s σ H Q I h;rw[eval_ListComp];refine wpAny_comprehension_free (use:=none) rfl hs S.clos S.kind S.names (thn (hi aa s σ H _ I h) fun v s1 h1=>thn h1 fun itv s2 h2=>?_);obtain⟨it,fp,tn,J,H2,e,I2,T,st2,f2,W,Z,⟨m0,w0⟩,turn,q⟩:=h2;subst e;refine lq S cO hg hif hL I2 T st2 f2 w0 turn (RR:=fun acc C=>ao0 (J9 X.prog X.w) X.A X.xe none (EP X aa σ Q) acc C) ?_;intro s' ys its n σ' H' I' rv hz hZ;obtain⟨m,hm,_⟩:=I'.loc;refine⟨m,hm,fun h' hs'=>?_⟩;obtain⟨I3,hD⟩:=iy I2 f2 I' rv hz hs';exact⟨.ref s2.heap.objs.size,_,I3,rfl,q ys _ H' _ hZ hD⟩
theorem lP{i:Nat}{x:Str}{spos pos':Pos}(hN:X.N.Nodup) (hix:X.N[i]?=some x) (hx:X.env.scope.names.lookup x=some .local)
  (hsw:Z0 (lcE elt (⟨tg,iter,ifs,0⟩::gs) scope pos) (some (.Name x pos')) spos.line X.env=ad0 true)
  (S:cC X scope cl ms ao) (cO:X.calm=true) {wi:TI} (hi:PI X tg iter wi)
  (hg:∀C s H ex,PG (aD X scope cl (X.N++ao) C s H ex) tg g) (hif:∀C s H ex,PIf (aD X scope cl (X.N++ao) C s H ex) ifs tc) (hL:LvC X scope cl ao (lcE elt (⟨tg,iter,ifs,0⟩::gs) scope pos) p tg ifs B)
  (hs:∀x,O1 iter X.env x=ad0 x:=by intro _;rfl):PS X (.Assign [.Name x pos'] (lcE elt (⟨tg,iter,ifs,0⟩::gs) scope pos) spos) (Bc (yE ms ao.length wi g tc B) (nX i)):=by
 intro aa s σ H D I h;rw[exec_Assign_Name_used _ _ _ _ hsw];refine o0 (aa6 (o0 ?_));show F6 _ _ (do let _ <-comprehension (lcE elt (⟨tg,iter,ifs,0⟩::gs) scope pos) scope X.env _ (newList []) false (Z4 iter X.env) (some (af7 (.Name x pos') X.env))) _ _ s;refine o0 (L5 (wpAny_comprehension_free (use:=some (af7 (.Name x pos') X.env)) (Q:=fun _ s'=>SP X aa D .next s') rfl hs S.clos S.kind S.names
  (thn (hi aa s σ H _ I h) fun v s1 h1=>thn h1 fun itv s2 h2=>?_)) (fun _ s' hq=>E3 (E3 hq)) fun _ _ e=>e)
 obtain⟨it,fp,tn,J,H2,e,I2,T,st2,f2,W,Z,⟨m0,w0⟩,turn,q⟩:=h2;subst e;refine lq S cO hg hif hL I2 T st2 f2 w0 turn (RR:=fun acc C=>ao0 (J9 X.prog X.w) X.A X.xe (some (af7 (.Name x pos') X.env)) (fun _ s'=>SP X aa D .next s') acc C) ?_;intro s' ys its n σ' H' I' rv hz hZ;obtain⟨m,hm,_⟩:=I'.loc;obtain⟨I3,hD⟩:=iy I2 f2 I' rv hz (U6.refl (s2.heap.objs.size+1) s'.heap);have hq:=q ys _ H' _ hZ hD;show F6 _ _ (af7 (.Name x pos') X.env (.ref s2.heap.objs.size)) _ _ _;refine wpAny_assign_Name (ig I3 hN hix (.inl hx) (v:=.ref s2.heap.objs.size) rfl (fun s4 I4 hsame=>?_) (.inr hx));obtain⟨a,hsb,ha⟩:=hsame;have hLC:s2.heap.objs.size+1≠X.env.locals:=V9 (O9 I2.lt);have haC:s2.heap.objs.size+1≠a:=by
  rcases ha with rfl|ha
  ·exact hLC
  ·intro z;obtain⟨v,o,ho,_⟩:=I2.cell x a ha;exact absurd (O9 (F2 ho)) (by rw[<-z];exact S8 _)
 have hCn:upd H' s2.heap.objs.size (.lst ys) (s2.heap.objs.size+1)=none:=by rw[aB (V9 (U7 _))];exact I'.free
 refine⟨m,hm.sameBut hsb haC,fun h' hs'=>?_⟩;refine⟨_,_,?_,hq⟩;have hL:∀b o,b≠s2.heap.objs.size+1->s4.heap.get? b=some o->h'.get? b=some o:=fun b o hb e=>(hs'.2 b hb).trans e;have I5:=Inv.turned (t':=s4.toks) (h':=h') (it:=s2.heap.objs.size+1) I4 (fun b o hb e=>hL b o hb e) hCn hLC (.inr (Nat.le_succ_of_le I2.sz)) (fun y c e=>by
  obtain⟨v,o,ho,_⟩:=I2.cell y c e;exact F8 (O9 (F2 ho))) (fun p hp=>by
  exact F8 (O9 (F2 (I2.pin p hp).1)))
 exact I5
theorem uq(he:∀C s H ex,PE (aD X scope cl (X.N++ao) C s H ex) elt te):LvC X scope cl ao (lcE elt [⟨tg,iter,ifs,0⟩] scope pos) iter.pos tg ifs (jn te):=fun _ _ _ _ _ c=>qB c (he _ _ _ _) fun _ _ _=>rfl
end
inductive Bx where
 |dk (ks:List Key)|dt (ks:List (List Key))|ins (C:E5) (fs:List Str)|key
 deriving Inhabited
inductive D where
 |non|bl (b:Bool)|int (i:Int)|str (x:Str)|tup (ds:List D)|lst (ds:List D)|scr (ds:List D)|emp|ref (a:E5)|box (t:Bx) (ds:List D)
 deriving Inhabited
inductive HD where
 |lst (ds:List D)|dK (kvs:List (Key×D))|dT (kvs:List (List Key×D))|dKr (o:Obj) (ks:List (Key×V)) (kvs:List (Key×D))|ins (C:E5) (fs:List (Str×D))
 |ext (φ:List V->I0->Prop) (ds:List D)
 deriving Inhabited
abbrev DH:=E5->Option HD
def ar(M:DH) (a:E5) (o:HD):DH:=fun b=>if b=a then some o else M b
def fR(M:DH) (a:E5):DH:=fun b=>if b=a then none else M b
abbrev noM:DH:=fun _=>none
theorem aq{M:DH}{a:E5}{o:HD}:ar M a o a=some o:=if_pos rfl
theorem au{M:DH}{a b:E5}{o:HD}(h:b≠a):ar M a o b=M b:=if_neg h
theorem aJ{M:DH}{a:E5}{o u:HD}:ar (ar M a o) a u=ar M a u:=by
 funext b;unfold ar;split<;>rfl
theorem fG{M:DH}{a:E5}:fR M a a=none:=if_pos rfl
theorem qC{M:DH}{a b:E5}(h:b≠a):fR M a b=M b:=if_neg h
theorem gM{M:DH}{a:E5}{o:HD}(h:M a=none):fR (ar M a o) a=M:=by
 funext b;unfold fR ar;split
 ·rename_i e;rw[e,h]
 ·rfl
theorem ly{M:DH}{a:E5}{o:HD}(h:M a=some o):ar M a o=M:=by
 funext b;unfold ar;split
 ·rename_i e;rw[e,h]
 ·rfl
def lR(K:u8) (M:DH) (H:Hp) (a:E5) (vs:List V):Prop:=(Rd H a (.tup vs)/\M a=none)∨SqT K (fun _=>none) a vs
def rF(M:DH) (H:Hp) (a:E5) (vs:List V):Prop:=H a=some (.lst vs)/\M a=none
def lN(K:u8) (M:DH) (H:Hp) (a:E5) (vs:List V):Prop:=((∃o,H a=some (.frz o (.lst vs)))/\M a=none)∨SqL K (fun _=>none) a vs
def Ct(M:DH) (H:Hp) (a:E5):Prop:=H a=some (.dK [])/\M a=none
def nV(M:DH) (H:Hp) (a:E5):Bx->List V->Prop
 |.dk ks,vs=>ks.length=vs.length/\(∃o,H a=some (.frz o (.dK (ks.zip vs))))/\M a=none
 |.dt ks,vs=>ks.length=vs.length/\(∃o,H a=some (.frz o (.dT (ks.zip vs))))/\M a=none
 |.ins C fs,vs=>fs.length=vs.length/\(∃dx,H a=some (.ins C dx (fs.zip vs)))/\M a=none
 |.key,vs=>True/\(∃_u:Unit,H a=some (.tup vs))/\M a=none
mutual
def Rep(K:u8) (M:DH) (H:Hp):D->V->Prop
 |.non,v=>v=.non
 |.bl b,v=>v=.bl b
 |.int i,v=>v=.int i
 |.str x,v=>v=.str x
 |.tup ds,v=>∃a vs,v=.ref a/\lR K M H a vs/\am K M H ds vs
 |.lst ds,v=>∃a vs,v=.ref a/\rF M H a vs/\am K M H ds vs
 |.scr ds,v=>∃a vs,v=.ref a/\lN K M H a vs/\am K M H ds vs
 |.emp,v=>∃a,v=.ref a/\Ct M H a
 |.ref a,v=>v=.ref a
 |.box t ds,v=>∃a vs,v=.ref a/\nV M H a t vs/\am K M H ds vs
def am(K:u8) (M:DH) (H:Hp):List D->List V->Prop
 |[],vs=>vs=[]
 |d::ds,vs=>∃v ws,vs=v::ws/\Rep K M H d v/\am K M H ds ws
end
def Ext(M:DH) (H:Hp) (M':DH) (H':Hp):Prop:=∀a o,H a=some o->M a=none->H' a=some o/\M' a=none
theorem Ext.refl(M:DH) (H:Hp):Ext M H M H:=fun _ _ h n=>⟨h,n⟩
theorem Ext.trans{M M1 M2:DH}{H H1 H2:Hp}(a:Ext M H M1 H1) (b:Ext M1 H1 M2 H2):Ext M H M2 H2:=fun c o h n=>b c o (a c o h n).1 (a c o h n).2
variable{K:u8}{M M' M1 M2:DH}{H H' H1 H2:Hp}
theorem lR.ext{a:E5}{vs:List V}(h:lR K M H a vs) (e:Ext M H M' H'):lR K M' H' a vs:=by
 rcases h with⟨r|⟨o,r⟩,n⟩|h
 ·exact .inl ⟨.inl (e a _ r n).1,(e a _ r n).2⟩
 ·exact .inl ⟨.inr ⟨o,(e a _ r n).1⟩,(e a _ r n).2⟩
 ·exact .inr h
theorem rF.ext{a:E5}{vs:List V}(h:rF M H a vs) (e:Ext M H M' H'):rF M' H' a vs:=e a _ h.1 h.2
theorem lN.ext{a:E5}{vs:List V}(h:lN K M H a vs) (e:Ext M H M' H'):lN K M' H' a vs:=by
 rcases h with⟨⟨o,r⟩,n⟩|h
 ·exact .inl ⟨⟨o,(e a _ r n).1⟩,(e a _ r n).2⟩
 ·exact .inr h
theorem nV.ext{a:E5}{t:Bx}{vs:List V}(h:nV M H a t vs) (e:Ext M H M' H'):nV M' H' a t vs:=by
 cases t<;>(obtain⟨l,⟨o,r⟩,n⟩:=h;exact⟨l,⟨o,(e a _ r n).1⟩,(e a _ r n).2⟩)
mutual
theorem Rep.ext:∀{d:D}{v:V},Rep K M H d v->Ext M H M' H'->Rep K M' H' d v
 |.non,_,h,_=>h
 |.bl _,_,h,_=>h
 |.int _,_,h,_=>h
 |.str _,_,h,_=>h
 |.ref _,_,h,_=>h
 |.emp,_,h,e=>by
  simp only[Rep]at h ⊢;obtain⟨a,rfl,h1,h2⟩:=h;exact⟨a,rfl,e a _ h1 h2⟩
 |.tup ds,_,h,e=>by
  simp only[Rep]at h ⊢;obtain⟨a,vs,rfl,h1,h2⟩:=h;exact⟨a,vs,rfl,h1.ext e,am.ext h2 e⟩
 |.lst ds,_,h,e=>by
  simp only[Rep]at h ⊢;obtain⟨a,vs,rfl,h1,h2⟩:=h;exact⟨a,vs,rfl,h1.ext e,am.ext h2 e⟩
 |.scr ds,_,h,e=>by
  simp only[Rep]at h ⊢;obtain⟨a,vs,rfl,h1,h2⟩:=h;exact⟨a,vs,rfl,h1.ext e,am.ext h2 e⟩
 |.box t ds,_,h,e=>by
  simp only[Rep]at h ⊢;obtain⟨a,vs,rfl,h1,h2⟩:=h;exact⟨a,vs,rfl,h1.ext e,am.ext h2 e⟩
theorem am.ext:∀{ds:List D}{vs:List V},am K M H ds vs->Ext M H M' H'->am K M' H' ds vs
 |[],_,h,_=>h
 |d::ds,_,h,e=>by
  simp only[am]at h ⊢;obtain⟨v,ws,rfl,h1,h2⟩:=h;exact⟨v,ws,rfl,Rep.ext h1 e,am.ext h2 e⟩
end
theorem am.length:∀{ds:List D}{vs:List V},am K M H ds vs->ds.length=vs.length
 |[],_,h=>by simp only[am]at h;subst h;rfl
 |d::ds,_,h=>by
  simp only[am]at h;obtain⟨v,ws,rfl,h1,h2⟩:=h;simp[am.length h2]
theorem am.nil:am K M H [] []:=by simp[am]
theorem am.cons{d:D}{v:V}{ds:List D}{vs:List V}(h:Rep K M H d v) (t:am K M H ds vs):am K M H (d::ds) (v::vs):=by
 simp only[am];exact⟨v,vs,rfl,h,t⟩
theorem am.append:∀{ds es:List D}{vs ws:List V},am K M H ds vs->am K M H es ws->am K M H (ds++es) (vs++ws)
 |[],_,_,_,h,t=>by simp only[am]at h;subst h;exact t
 |d::ds,es,_,ws,h,t=>by
  simp only[am]at h;obtain⟨v,us,rfl,h1,h2⟩:=h;exact am.cons h1 (am.append h2 t)
theorem am.get:∀{ds:List D}{vs:List V}{i:Nat}{d:D},am K M H ds vs->ds[i]?=some d->∃v,vs[i]?=some v/\Rep K M H d v
 |[],_,_,_,_,e=>by simp at e
 |d::ds,_,0,x,h,e=>by
  simp only[am]at h;obtain⟨v,us,rfl,h1,h2⟩:=h;simp at e;subst e;exact⟨v,rfl,h1⟩
 |d::ds,_,i+1,x,h,e=>by
  simp only[am]at h;obtain⟨v,us,rfl,h1,h2⟩:=h;obtain⟨w,a,b⟩:=am.get (i:=i) (d:=x) h2 (by simpa using e);exact⟨w,by simpa using a,b⟩
theorem am.take:∀{ds:List D}{vs:List V}(n:Nat),am K M H ds vs->am K M H (ds.take n) (vs.take n)
 |ds,vs,0,_=>by simp[am]
 |[],_,n+1,h=>by simp only[am]at h;subst h;simp[am]
 |d::ds,_,n+1,h=>by
  simp only[am]at h;obtain⟨v,us,rfl,h1,h2⟩:=h;exact am.cons h1 (am.take n h2)
theorem am.drop:∀{ds:List D}{vs:List V}(n:Nat),am K M H ds vs->am K M H (ds.drop n) (vs.drop n)
 |ds,vs,0,h=>h
 |[],_,n+1,h=>by simp only[am]at h;subst h;simp[am]
 |d::ds,_,n+1,h=>by
  simp only[am]at h;obtain⟨v,us,rfl,h1,h2⟩:=h;exact am.drop n h2
theorem am.set:∀{ds:List D}{vs:List V}{d:D}{v:V}(n:Nat),am K M H ds vs->Rep K M H d v->am K M H (ds.set n d) (vs.set n v)
 |[],_,_,_,n,h,r=>by simp only[am]at h;subst h;simp[am]
 |d::ds,_,_,_,0,h,r=>by
  simp only[am]at h;obtain⟨v,us,rfl,h1,h2⟩:=h;exact am.cons r h2
 |d::ds,_,_,_,n+1,h,r=>by
  simp only[am]at h;obtain⟨v,us,rfl,h1,h2⟩:=h;exact am.cons h1 (am.set n h2 r)
theorem am.one{d:D}{vs:List V}(h:am K M H [d] vs):∃v,vs=[v]/\Rep K M H d v:=by
 simp only[am]at h;obtain⟨v,us,rfl,h1,rfl⟩:=h;exact⟨v,rfl,h1⟩
def KR(K:u8) (M:DH) (H:Hp) {κ:Type}:List (κ×D)->List (κ×V)->Prop:=Z8 fun p q=>p.1=q.1/\Rep K M H p.2 q.2
theorem KR.ext{κ:Type}{kvs:List (κ×D)}{ks:List (κ×V)}(h:KR K M H kvs ks) (e:Ext M H M' H'):KR K M' H' kvs ks:=Z8.imp' (fun _ _ r=>⟨r.1,r.2.ext e⟩) h
def jL(K:u8) (M:DH) (H:Hp) (a:E5):HD->Prop
 |.lst ds=>∃vs,H a=some (.lst vs)/\am K M H ds vs
 |.dK kvs=>∃ks,H a=some (.dK ks)/\KR K M H kvs ks
 |.dT kvs=>∃ks,H a=some (.dT ks)/\KR K M H kvs ks
 |.dKr o ks kvs=>∃_u:Unit,H a=some (.frz o (.dK ks))/\KR K M H kvs ks
 |.ins C fs=>∃gs,(∃dx,H a=some (.ins C dx gs))/\KR K M H fs gs
 |.ext φ ds=>∃vs,H a=some (.ext (φ vs))/\am K M H ds vs
def HR(K:u8) (M:DH) (H:Hp):Prop:=∀a o,M a=some o->jL K M H a o
theorem jL.some{a:E5}{o:HD}(h:jL K M H a o):∃u,H a=O6 u/\∀xs,u≠.tup xs/\∀ob,u≠.frz ob (.tup xs):=by
 cases o with
 |ins C fs=>obtain⟨gs,⟨dx,r⟩,_⟩:=h;exact⟨_,r,fun xs=>⟨(by intro z;cases z),(by intro ob z;cases z)⟩⟩
 |_=>obtain⟨vs,r,_⟩:=h;exact⟨_,r,fun xs=>⟨(by intro z;cases z),(by intro ob z;cases z)⟩⟩
theorem jL.keep{a:E5}{o:HD}(h:jL K M H a o) (e:Ext M H M' H') (q:H' a=H a):jL K M' H' a o:=by
 cases o with
 |ins C fs=>obtain⟨gs,⟨dx,r⟩,t⟩:=h;exact⟨gs,⟨dx,by rw[q];exact r⟩,t.ext e⟩
 |_=>obtain⟨vs,r,t⟩:=h;exact⟨vs,by rw[q];exact r,t.ext e⟩
theorem HR.fresh(h:HR K M H) {p:E5}(e:H p=none):M p=none:=by
 cases q:M p with
 |none=>rfl
 |some o =>
  obtain⟨u,r,_⟩:=(h p _ q).some;rw[e]at r;cases r
theorem HR.nil:HR K noM H:=fun _ _ h=>nomatch h
theorem Ext.new{p:E5}{o:HO}(hr:HR K M H) (h:H p=none):Ext M H M (upd H p o):=fun a u e n=>by
 have:a≠p:=bF e h;rw[aB this];exact⟨e,n⟩
theorem HR.ext1(h:HR K M H) (e:Ext M H M H') (keep:∀a o,M a=some o->H' a=H a):HR K M H':=fun a o q=>(h a o q).keep e (keep a o q)
theorem HR.new{p:E5}{o:HO}(hr:HR K M H) (h:H p=none):HR K M (upd H p o):=hr.ext1 (Ext.new hr h) fun a u q=>by
 have:a≠p:=fun z=>by rw[z,hr.fresh h]at q;cases q
 rw[aB this]
theorem Ext.own{p:E5}{o:HO}{u:HD}(h:H p=none):Ext M H (ar M p u) (upd H p o):=fun a x e n=>by
 have:a≠p:=bF e h;rw[aB this,au this];exact⟨e,n⟩
theorem HR.put{p:E5}{o:HO}{u:HD}(hr:HR K M H) (e:Ext M H (ar M p u) (upd H p o)) (c:jL K (ar M p u) (upd H p o) p u):HR K (ar M p u) (upd H p o):=fun a w q=>by
 by_cases z:a=p
 ·subst z;rw[aq]at q;cases q;exact c
 ·rw[au z]at q;exact(hr a w q).keep e (aB z)
theorem HR.own{p:E5}{ds:List D}{vs:List V}(hr:HR K M H) (h:H p=none) (r:am K M H ds vs):HR K (ar M p (.lst ds)) (upd H p (.lst vs)) :=
 hr.put (Ext.own h) ⟨vs,az,r.ext (Ext.own h)⟩
theorem Ext.write{a:E5}{o:HO}{u w:HD}(h:M a=some w):Ext M H (ar M a u) (upd H a o):=fun b x e n=>by
 have:b≠a:=fun z=>by rw[z,h]at n;cases n
 rw[aB this,au this];exact⟨e,n⟩
theorem HR.write{a:E5}{w:HD}{ds:List D}{vs:List V}(hr:HR K M H) (h:M a=some w) (r:am K M H ds vs):HR K (ar M a (.lst ds)) (upd H a (.lst vs)) :=
 hr.put (Ext.write h) ⟨vs,az,r.ext (Ext.write h)⟩
def LeM(M1 M:DH):Prop:=∀a o,M1 a=some o->M a=some o
theorem LeM.none(h:LeM M1 M) {a:E5}(n:M a=none):M1 a=none:=by
 cases q:M1 a with
 |none=>rfl
 |some o=>rw[h a o q]at n;cases n
theorem LeM.refl:LeM M M:=fun _ _ h=>h
theorem LeM.no:LeM noM M:=fun _ _ h=>nomatch h
theorem LeM.del{a:E5}:LeM (fR M a) M:=fun b o h=>by
 unfold fR at h;split at h
 ·cases h
 ·exact h
theorem Ext.le(h:LeM M1 M):Ext M H M1 H:=fun a o e n=>⟨e,h.none n⟩
theorem HR.le(hr:HR K M H) (h:LeM M1 M):HR K M1 H:=fun a o q=>(hr a o (h a o q)).keep (Ext.le h) rfl
theorem Rep.froze(hr:HR K M H) (h:LeM M1 M) {a:E5}{ds:List D}(e:M a=some (.lst ds)) (n:M1 a=none):Rep K M1 H (.lst ds) (.ref a):=by
 obtain⟨vs,r,t⟩:=hr a _ e;simp only[Rep];exact⟨a,vs,rfl,⟨r,n⟩,t.ext (Ext.le h)⟩
mutual
def noL:D->Bool
 |.tup ds=>yu ds
 |.lst _=>false
 |.scr _=>false
 |.emp=>false
 |.box _ _=>false
 |_=>true
def yu:List D->Bool
 |[]=>true
 |d::ds=>noL d&&yu ds
end
mutual
theorem Rep.hard:∀{d:D}{v:V},noL d=true->Rep K M H d v->(∀a xs,Rd H a (.tup xs)->M' a=none)->Rep K M' H d v
 |.non,_,_,h,_=>h
 |.bl _,_,_,h,_=>h
 |.int _,_,_,h,_=>h
 |.str _,_,_,h,_=>h
 |.ref _,_,_,h,_=>h
 |.emp,_,n,_,_=>by simp[noL]at n
 |.box _ _,_,n,_,_=>by simp[noL]at n
 |.lst _,_,n,_,_=>by simp[noL]at n
 |.scr _,_,n,_,_=>by simp[noL]at n
 |.tup ds,_,n,h,e=>by
  simp only[Rep]at h ⊢;obtain⟨a,vs,rfl,h1,h2⟩:=h;refine⟨a,vs,rfl,?_,am.hard (by simpa[noL]using n) h2 e⟩;rcases h1 with⟨r,_⟩|r
  ·exact .inl ⟨r,e a vs r⟩
  ·exact .inr r
theorem am.hard:∀{ds:List D}{vs:List V},yu ds=true->am K M H ds vs->(∀a xs,Rd H a (.tup xs)->M' a=none)->am K M' H ds vs
 |[],_,_,h,_=>h
 |d::ds,_,n,h,e=>by
  simp only[am]at h ⊢;obtain⟨v,ws,rfl,h1,h2⟩:=h;simp only[yu,N7]at n;exact⟨v,ws,rfl,Rep.hard n.1 h1 e,am.hard n.2 h2 e⟩
end
abbrev DE:=List (Option D)
def SR(K:u8) (M:DH) (H:Hp) (σ:St) (Δ:DE):Prop:=σ.length=Δ.length/\∀(i:Nat) (d:D),Δ[i]?=some (some d)->∃v,σ[i]?=some (some v)/\Rep K M H d v
theorem SR.ext{σ:St}{Δ:DE}(h:SR K M H σ Δ) (e:Ext M H M' H'):SR K M' H' σ Δ:=⟨h.1,fun i d q=>let⟨v,a,r⟩:=h.2 i d q;⟨v,a,r.ext e⟩⟩
theorem SR.set{σ:St}{Δ:DE}{d:D}{v:V}(h:SR K M H σ Δ) (i:Nat) (r:Rep K M H d v):SR K M H (σ.set i (some v)) (Δ.set i (some d)):=by
 refine⟨by simp[h.1],fun j e q=>?_⟩
 by_cases hj:j=i
 ·subst hj
  by_cases hl:j<Δ.length
  ·rw[R4 hl]at q;cases q;exact⟨v,R4 (by rw[h.1];exact hl),r⟩
  ·rw[List.getElem?_eq_none (by simp;lia)]at q;cases q
 ·rw[U5 (M9 hj)]at q ⊢;exact h.2 j e q
abbrev TEd:=DE->DH->(D->DH->Prop)->Prop
abbrev TAd:=DE->DH->(List D->DH->Prop)->Prop
abbrev TTd:=DE->DH->(Bool->DH->Prop)->Prop
structure cP where
 nx:DE->DH->Prop
 rt:D->DH->Prop
 bk:DE->DH->Prop:=fun _ _=>False
 ct:DE->DH->Prop:=fun _ _=>False
abbrev TSd:=cP->DE->DH->Prop
def up(K:u8) (t:TEd):TE:=fun σ H Q=>∃(Δ:DE) (M:DH) (R:D->DH->Prop),SR K M H σ Δ/\HR K M H/\t Δ M R /\
 ∀d M' v H',R d M'->Ext M H M' H'->HR K M' H'->Rep K M' H' d v->Q v H'
def upA(K:u8) (t:TAd):TA:=fun σ H Q=>∃(Δ:DE) (M:DH) (R:List D->DH->Prop),SR K M H σ Δ/\HR K M H/\t Δ M R /\
 ∀ds M' vs H',R ds M'->Ext M H M' H'->HR K M' H'->am K M' H' ds vs->Q vs H'
def upT(K:u8) (t:TTd):TT:=fun σ H Q=>∃(Δ:DE) (M:DH) (R:Bool->DH->Prop),SR K M H σ Δ/\HR K M H/\t Δ M R /\
 ∀b M' H',R b M'->Ext M H M' H'->HR K M' H'->Q b H'
theorem upT.el{K:u8}{t:TTd}{σ:St}{H:Hp}{Q:Bool->Hp->Prop}{P:Prop}(h:upT K t σ H Q) (f:∀(Δ:DE) (M:DH) (R:Bool->DH->Prop),SR K M H σ Δ->HR K M H->t Δ M R->(∀b M' H',R b M'->Ext M H M' H'->HR K M' H'->Q b H')->P):P:=by
 obtain⟨x1,x2,x3,a,b,c,d⟩:=h;exact f x1 x2 x3 a b c d
theorem up.el{K:u8}{t:TEd}{σ:St}{H:Hp}{Q:VK}{P:Prop}(h:up K t σ H Q) (f:∀(Δ:DE) (M:DH) (R:D->DH->Prop),SR K M H σ Δ->HR K M H->t Δ M R->(∀d M' v H',R d M'->Ext M H M' H'->HR K M' H'->Rep K M' H' d v->Q v H')->P):P:=by
 obtain⟨x1,x2,x3,a,b,c,d⟩:=h;exact f x1 x2 x3 a b c d
theorem upA.el{K:u8}{t:TAd}{σ:St}{H:Hp}{Q:List V->Hp->Prop}{P:Prop}(h:upA K t σ H Q) (f:∀(Δ:DE) (M:DH) (R:List D->DH->Prop),SR K M H σ Δ->HR K M H->t Δ M R->(∀ds M' vs H',R ds M'->Ext M H M' H'->HR K M' H'->am K M' H' ds vs->Q vs H')->P):P:=by
 obtain⟨x1,x2,x3,a,b,c,d⟩:=h;exact f x1 x2 x3 a b c d
structure UpE(K:u8) (E:cP) (D:kB) (M:DH) (H:Hp):Prop where
 nx:∀ Δ' M' σ' H',E.nx Δ' M'->Ext M H M' H'->HR K M' H'->SR K M' H' σ' Δ'->D.nx σ' H'
 bk:∀ Δ' M' σ' H',E.bk Δ' M'->Ext M H M' H'->HR K M' H'->SR K M' H' σ' Δ'->D.bk σ' H'
 ct:∀ Δ' M' σ' H',E.ct Δ' M'->Ext M H M' H'->HR K M' H'->SR K M' H' σ' Δ'->D.ct σ' H'
 rt:∀d M' v H',E.rt d M'->Ext M H M' H'->HR K M' H'->Rep K M' H' d v->D.rt v H'
theorem UpE.ext{E:cP}{D:kB}(u:UpE K E D M H) (e:Ext M H M' H'):UpE K E D M' H' :=
 ⟨fun a b c d h x=>u.nx a b c d h (e.trans x),fun a b c d h x=>u.bk a b c d h (e.trans x),fun a b c d h x=>u.ct a b c d h (e.trans x),fun a b c d h x=>u.rt a b c d h (e.trans x)⟩
def upS(K:u8) (t:TSd):TS:=fun D σ H=>∃(Δ:DE) (M:DH) (E:cP),SR K M H σ Δ/\HR K M H/\t E Δ M/\UpE K E D M H
theorem upS.el{K:u8}{t:TSd}{E:kB}{σ:St}{H:Hp}{P:Prop}(h:upS K t E σ H) (f:∀(Δ:DE) (M:DH) (R:cP),SR K M H σ Δ->HR K M H->t R Δ M->UpE K R E M H->P):P:=by
 obtain⟨x1,x2,x3,a,b,c,d⟩:=h;exact f x1 x2 x3 a b c d
def PEd(X:Cx) (e:K4) (t:TEd):Prop:=PE X e (up X.K t)
def PAd(X:Cx) (es:List K4) (t:TAd):Prop:=PA X es (upA X.K t)
def PTd(X:Cx) (e:K4) (t:TTd):Prop:=PT X e (upT X.K t)
def PWd(X:Cx) (e:K4) (t:TTd):Prop:=PW X e (upT X.K t)
def PSd(X:Cx) (st:Z7) (t:TSd):Prop:=PS X st (upS X.K t)
def yj(X:Cx) (st:List Z7) (t:TSd):Prop:=PSs X st (upS X.K t)
theorem PE.conv{X:Cx}{e:K4}{t t':TE}(h:PE X e t) (k:∀ σ H Q,t' σ H Q->t σ H Q):PE X e t':=fun p s σ H Q I q=>h p s σ H Q I (k σ H Q q)
theorem PT.conv{X:Cx}{e:K4}{t t':TT}(h:PT X e t) (k:∀ σ H Q,t' σ H Q->t σ H Q):PT X e t':=fun p s σ H Q I q=>h p s σ H Q I (k σ H Q q)
theorem PA.conv{X:Cx}{e:List K4}{t t':TA}(h:PA X e t) (k:∀ σ H Q,t' σ H Q->t σ H Q):PA X e t':=fun ps p s σ H Q I q=>h ps p s σ H Q I (k σ H Q q)
theorem PS.conv{X:Cx}{e:Z7}{t t':TS}(h:PS X e t) (k:∀D σ H,t' D σ H->t D σ H):PS X e t':=fun p s σ H D I q=>h p s σ H D I (k D σ H q)
theorem PSs.conv{X:Cx}{e:List Z7}{t t':TS}(h:PSs X e t) (k:∀D σ H,t' D σ H->t D σ H):PSs X e t':=fun p s σ H D I q=>h p s σ H D I (k D σ H q)
section
variable{X:Cx}{a b c:K4}{es:List K4}{ta tb:TEd}{pos:Pos}
def nF(i:Nat):TEd:=fun Δ M Q=>∃d,Δ[i]?=some (some d)/\Q d M
def dC(d:D):TEd:=fun _ M Q=>Q d M
theorem yC{x:Str}{i:Int}{t:Tok}{pos:Pos}(hg:Gl X x) (hm:X.mg x=some (.int i t)) (hd:(x==("__debug__":Str))=false:=by decide):PEd X (.Name x pos) (dC (.int i)) :=
 (jd (v:=.int i) hg hm ⟨t,rfl⟩ hd).conv fun σ H Q hup=>hup.el fun Δ M R sr hr q k=>k _ M _ H q (Ext.refl _ _) hr (by simp[Rep])
theorem xm{x y:Str}{t:Tok}{pos:Pos}(hg:Gl X x) (hm:X.mg x=some (.str y t)) (hd:(x==("__debug__":Str))=false:=by decide):PEd X (.Name x pos) (dC (.str y)) :=
 (jd (v:=.str y) hg hm ⟨t,rfl⟩ hd).conv fun σ H Q hup=>hup.el fun Δ M R sr hr q k=>k _ M _ H q (Ext.refl _ _) hr (by simp[Rep])
def uE:TAd:=fun _ M Q=>Q [] M
def lD(ta:TEd) (tr:TAd):TAd:=fun Δ M Q=>ta Δ M fun x M1=>tr Δ M1 fun xs M2=>Q (x::xs) M2
def BL(t:TAd):TEd:=fun Δ M Q=>t Δ M fun ds M1=>ds.length<=E4/\Q (.tup ds) M1
def Cd(t:TAd):TEd:=fun Δ M Q=>t Δ M fun ds M1=>ds.length<=E4/\Q (.lst ds) M1
def yS(t:TAd):TEd:=fun Δ M Q=>t Δ M fun ds M1=>ds.length<=E4/\∀p,M1 p=none->Q (.ref p) (ar M1 p (.lst ds))
def rdM(M:DH):D->D
 |.ref a=>match M a with|some (.lst ds)=>.lst ds|_=>.ref a
 |d=>d
def aN(K:u8) (M:DH) (H:Hp) (d:D) (v:V):Prop:=match d with
 |.tup ds=>∃a vs,v=.ref a/\SqT K H a vs/\am K M H ds vs
 |.lst ds=>∃a vs,v=.ref a/\H a=some (.lst vs)/\am K M H ds vs
 |.scr ds=>∃a vs,v=.ref a/\SqL K H a vs/\am K M H ds vs
 |d=>Rep K M H d v
theorem lR.sq{K:u8}{M:DH}{H:Hp}{a:E5}{vs:List V}(h:lR K M H a vs):SqT K H a vs:=by
 rcases h with⟨h,_⟩|h
 ·exact .inl h
 ·rcases h with(h|⟨_,h⟩)|h
  ·cases h
  ·cases h
  ·exact .inr h
theorem lN.sq{K:u8}{M:DH}{H:Hp}{a:E5}{vs:List V}(h:lN K M H a vs):SqL K H a vs:=by
 rcases h with⟨⟨o,h⟩,_⟩|h
 ·exact .inl (.inr ⟨o,h⟩)
 ·rcases h with(h|⟨_,h⟩)|h
  ·cases h
  ·cases h
  ·exact .inr h
theorem Rep.rd{K:u8}{M:DH}{H:Hp}{d:D}{v:V}(hr:HR K M H) (h:Rep K M H d v):aN K M H (rdM M d) v:=by
 cases d with
 |tup ds=>simp only[Rep]at h;obtain⟨a,vs,e,t,r⟩:=h;exact⟨a,vs,e,t.sq,r⟩
 |lst ds=>simp only[Rep]at h;obtain⟨a,vs,e,t,r⟩:=h;exact⟨a,vs,e,t.1,r⟩
 |scr ds=>simp only[Rep]at h;obtain⟨a,vs,e,t,r⟩:=h;exact⟨a,vs,e,t.sq,r⟩
 |ref a =>
  simp only[rdM];cases q:M a with
  |none=>exact h
  |some o =>
   cases o with
   |lst ds =>
    obtain⟨vs,e,r⟩:=hr a _ q;simp only[Rep]at h;exact⟨a,vs,h,e,r⟩
   |dK _=>exact h
   |dT _=>exact h
   |dKr _ _ _=>exact h
   |ins _ _=>exact h
   |ext _ _=>exact h
 |non=>exact h
 |bl b=>exact h
 |int i=>exact h
 |str x=>exact h
 |emp=>exact h
 |box _ _=>exact h
def bW(X:Cx) (f:s0->s0->Sem s0) (r:D->D->Option D):Prop :=
 ∀(aa:List (E5×Obj)) (s:E2) (σ:St) (H:Hp) (M:DH) (x y:V) (v u:s0) (dx dy dz:D) (Q:VK),Inv X aa σ H s->HR X.K M H->aF x v->aF y u->aN X.K M H dx x->aN X.K M H dy y->r dx dy=some dz ->
  (∀w H',Ext M H M H'->HR X.K M H'->Rep X.K M H' dz w->Q w H')->F6 (J9 X.prog X.w) X.A (f v u) (EP X aa σ Q) X.xe s
def Cf(X:Cx) (f:s0->Sem s0) (r:D->Option D):Prop :=
 ∀(aa:List (E5×Obj)) (s:E2) (σ:St) (H:Hp) (M:DH) (x:V) (v:s0) (dx dz:D) (Q:VK),Inv X aa σ H s->HR X.K M H->aF x v->aN X.K M H dx x->r dx=some dz ->
  (∀w H',Ext M H M H'->HR X.K M H'->Rep X.K M H' dz w->Q w H')->F6 (J9 X.prog X.w) X.A (f v) (EP X aa σ Q) X.xe s
def bh(X:Cx) (f:s0) (r:List D->Option D):Prop :=
 ∀(aa:List (E5×Obj)) (s:E2) (σ:St) (H:Hp) (M:DH) (xs:List V) (us:List s0) (ds:List D) (dz:D) (Q:VK),Inv X aa σ H s->HR X.K M H->ax xs us->Z8 (aN X.K M H) ds xs->r ds=some dz ->
  (∀w H',Ext M H M H'->HR X.K M H'->Rep X.K M H' dz w->Q w H')->F6 (J9 X.prog X.w) X.A (ap2 f us) (EP X aa σ Q) X.xe s
def dOp(r:D->D->Option D) (ta tb:TEd):TEd:=fun Δ M Q=>ta Δ M fun x M1=>tb Δ M1 fun y M2=>∃z,r (rdM M2 x) (rdM M2 y)=some z/\Q z M2
def dUn(r:D->Option D) (ta:TEd):TEd:=fun Δ M Q=>ta Δ M fun x M1=>∃z,r (rdM M1 x)=some z/\Q z M1
def opV(K:u8) (r:D->D->Option D):R2:=fun x y H Q=>∃dx dy dz M,HR K M H/\aN K M H dx x/\aN K M H dy y/\r dx dy=some dz/\∀w H',Ext M H M H'->HR K M H'->Rep K M H' dz w->Q w H'
theorem bW.v{f:s0->s0->Sem s0}{r:D->D->Option D}(h:bW X f r):OpR X f (opV X.K r):=fun aa s σ H x y v u Q I rx ry ⟨dx,dy,dz,M,hr,r1,r2,e,k⟩=>h aa s σ H M x y v u dx dy dz Q I hr rx ry r1 r2 e k
theorem tZ{K:u8}{r:D->D->Option D}{ta tb:TEd}:∀ σ H Q,up K (dOp r ta tb) σ H Q->tOp (opV K r) (up K ta) (up K tb) σ H Q:=fun σ H Q hup=>hup.el fun Δ M R sr hr q k =>
 ⟨Δ,M,_,sr,hr,q,fun x M1 v H1 q1 e1 hr1 rv=>⟨Δ,M1,_,sr.ext e1,hr1,q1,fun y M2 u H2 ⟨z,ez,q2⟩ e2 hr2 ru=>⟨_,_,z,M2,hr2,(rv.ext e2).rd hr2,ru.rd hr2,ez,fun w H' e3 hr3 rw_=>k z M2 w H' q2 ((e1.trans e2).trans e3) hr3 rw_⟩⟩⟩
def pI(t:TEd):TTd:=fun Δ M Q=>t Δ M fun x M1=>∃k,x=.bl k/\Q k M1
theorem CA{K:u8}{t:TEd}:∀ σ H Q,upT K (pI t) σ H Q->yQ (up K t) σ H Q:=fun σ H Q hup=>hup.el fun Δ M R sr hr q k =>
 ⟨Δ,M,_,sr,hr,q,fun d M1 v H1 ⟨b,e,q1⟩ e1 hr1 rv=>⟨b,by subst e;simpa only[Rep]using rv,k b M1 H1 q1 e1 hr1⟩⟩
def yM(t:TTd):TTd:=fun Δ M Q=>t Δ M fun c M1=>Q (!c) M1
def yP(t u:TTd):TTd:=fun Δ M Q=>t Δ M fun c M1=>if c=true then u Δ M1 Q else Q false M1
def Cw(t u:TTd):TTd:=fun Δ M Q=>t Δ M fun c M1=>if c=true then Q true M1 else u Δ M1 Q
variable{tA tB':TTd}{rest:List K4}
theorem PW.conv{X:Cx}{e:K4}{t t':TT}(h:PW X e t) (k:∀ σ H Q,t' σ H Q->t σ H Q):PW X e t':=fun w p s σ H Q I q=>h w p s σ H Q I (k σ H Q q)
theorem PWd.pt{e:K4}{t:TTd}(h:PWd X e t):PTd X e t:=PW.pt h
def C5(ta tb:TEd):TEd:=fun Δ M Q=>ta Δ M fun x M1=>∃c,x=.bl c/\if c=true then tb Δ M1 Q else Q (.bl false) M1
def tN(r r':D->D->Option D) (ta tb tc:TEd):TEd:=fun Δ M Q=>ta Δ M fun x M1=>tb Δ M1 fun y M2=>∃k,r (rdM M2 x) (rdM M2 y)=some (.bl k)/\if k=true then tc Δ M2 fun z M3=>∃w,r' (rdM M3 y) (rdM M3 z)=some w/\Q w M3 else Q (.bl false) M2
theorem rN{K:u8}{M:DH}{H:Hp}(hr:HR K M H):∀{ds:List D}{vs:List V},am K M H ds vs->Z8 (aN K M H) (ds.map (rdM M)) vs
 |[],_,h=>by simp only[am]at h;subst h;exact .nil
 |d::ds,_,h=>by
  simp only[am]at h;obtain⟨v,ws,rfl,h1,h2⟩:=h;exact .cons (h1.rd hr) (rN hr h2)
def dCB(r:List D->Option D) (t:TAd):TEd:=fun Δ M Q=>t Δ M fun ds M1=>∃z,r (ds.map (rdM M1))=some z/\Q z M1
theorem yR{K:u8}{r:List D->Option D}{t:TAd}:∀ σ H Q,up K (dCB r t) σ H Q->tCB (fun xs H Q=>∃ds dz M,HR K M H/\Z8 (aN K M H) ds xs/\r ds=some dz/\∀w H',Ext M H M H'->HR K M H'->Rep K M H' dz w->Q w H') (upA K t) σ H Q:=fun σ H Q hup=>hup.el fun Δ M R sr hr q k =>
 ⟨Δ,M,_,sr,hr,q,fun ds M1 vs H1 ⟨z,ez,q1⟩ e1 hr1 rv=>⟨_,z,M1,hr1,rN hr1 rv,ez,fun w H' e2 hr2 r2=>k z M1 w H' q1 (e1.trans e2) hr2 r2⟩⟩
theorem bh.v{f:s0}{r:List D->Option D}(h:bh X f r):cw X f (fun xs H Q=>∃ds dz M,HR X.K M H/\Z8 (aN X.K M H) ds xs/\r ds=some dz/\∀w H',Ext M H M H'->HR X.K M H'->Rep X.K M H' dz w->Q w H') :=
 fun aa s σ H xs us Q I rv ⟨ds,dz,M,hr,rr,e,k⟩=>h aa s σ H M xs us ds dz Q I hr rv rr e k
end
section
variable{X:Cx}
theorem bW.of{f:s0->s0->Sem s0}{r2:R2}{r:D->D->Option D}(h:OpR X f r2)
  (k:∀(H:Hp) (M:DH) (x y:V) (dx dy dz:D) (Q:VK),HR X.K M H->aN X.K M H dx x->aN X.K M H dy y->r dx dy=some dz->(∀w H',Ext M H M H'->HR X.K M H'->Rep X.K M H' dz w->Q w H')->r2 x y H Q):bW X f r :=
 fun aa s σ H M x y v u dx dy dz Q I hr rx ry r1 r2 e q=>h aa s σ H x y v u Q I rx ry (k H M x y dx dy dz Q hr r1 r2 e q)
theorem bh.of{f:s0}{r2:List V->Hp->VK->Prop}{r:List D->Option D}(h:cw X f r2)
  (k:∀(H:Hp) (M:DH) (xs:List V) (ds:List D) (dz:D) (Q:VK),HR X.K M H->Z8 (aN X.K M H) ds xs->r ds=some dz->(∀w H',Ext M H M H'->HR X.K M H'->Rep X.K M H' dz w->Q w H')->r2 xs H Q):bh X f r :=
 fun aa s σ H M xs us ds dz Q I hr rv r1 e q=>h aa s σ H xs us Q I rv (k H M xs ds dz Q hr r1 e q)
theorem dq{K:u8}{M:DH}{H:Hp}{i:Int}{v:V}(h:aN K M H (.int i) v):v=.int i:=by simpa[aN,Rep]using h
theorem oS{K:u8}{M:DH}{H:Hp}{i:Str}{v:V}(h:aN K M H (.str i) v):v=.str i:=by simpa[aN,Rep]using h
def iOp(f:Int->Int->Option D):D->D->Option D
 |.int a,.int b=>f a b
 |_,_=>none
theorem nN{f:Int->Int->Option D}{x y z:D}(h:iOp f x y=some z):∃a b,x=.int a/\y=.int b/\f a b=some z:=by
 cases x<;>first|cases h|skip
 rename_i a;cases y<;>first|cases h|skip
 rename_i b;exact⟨a,b,rfl,rfl,h⟩
noncomputable def bo:D->Bool
 |.non=>true|.bl _=>true|.int _=>true|.str _=>true|_=>false
def toV:D->V
 |.bl b=>.bl b|.int i=>.int i|.str x=>.str x|_=>.non
theorem nE{K:u8}{M:DH}{H:Hp}{d:D}(h:bo d=true):Rep K M H d (toV d):=by
 cases d<;>first|(simp[Rep,toV];done)|cases h
theorem qm{f:s0->s0->Sem s0}{C:Int->Int->Prop} [∀i j,Decidable (C i j)] {g:Int->Int->D}(hs:∀i j,bo (g i j)=true) (h:OpR X f (rI C fun i j=>toV (g i j))) :
  bW X f (iOp fun i j=>if C i j then some (g i j)else none) :=
 bW.of h fun H M x y dx dy dz Q hr r1 r2 e q=>by
  obtain⟨a,b,rfl,rfl,e'⟩:=nN e;clear e;have e:=e'
  by_cases hc:C a b
  ·rw[if_pos hc]at e;cases e;exact⟨a,b,dq r1,dq r2,hc,q _ _ (Ext.refl _ _) hr (nE (hs a b))⟩
  ·rw[if_neg hc]at e;cases e
theorem jG{f:s0->s0->Sem s0}{g:Int->Int->D}(hs:∀i j,bo (g i j)=true) (h:OpR X f (rI0 fun i j=>toV (g i j))) :
  bW X f (iOp fun i j=>some (g i j)) :=
 bW.of h fun H M x y dx dy dz Q hr r1 r2 e q=>by
  obtain⟨a,b,rfl,rfl,e⟩:=nN e;cases e;exact⟨a,b,dq r1,dq r2,q _ _ (Ext.refl _ _) hr (nE (hs a b))⟩
instance:∀i j,Decidable (jq i j):=fun i j=>by unfold jq;exact inferInstance
instance:∀i j,Decidable (fA i j):=fun i j=>by unfold fA;exact inferInstance
instance:∀i j,Decidable (nh i j):=fun i j=>by unfold nh;exact inferInstance
theorem zc:bW X (U8 .Sub) (iOp fun i j=>some (.int (i-j))):=jG (fun _ _=>rfl) Bj
theorem Ao:bW X (U8 .Mult) (iOp fun i j=>if fA i j then some (.int (i*j))else none):=qm (fun _ _=>rfl) zX
theorem p7:bW X (U8 .FloorDiv) (iOp fun i j=>if jq i j then some (.int (i / j))else none):=qm (fun _ _=>rfl) xu
theorem eh:bW X (U8 .Mod) (iOp fun i j=>if 0<j then some (.int (i % j))else none):=qm (C:=fun _ j=>0<j) (fun _ _=>rfl) AY
theorem Dd:bW X (U8 .Pow) (iOp fun i j=>if nh i j then some (.int (i ^ j.toNat))else none):=qm (fun _ _=>rfl) zF
theorem C8:bW X (Q9 .Lt) (iOp fun i j=>some (.bl (decide (i<j)))):=jG (fun _ _=>rfl) BV
theorem zO:bW X (Q9 .LtE) (iOp fun i j=>some (.bl (decide (i<=j)))):=jG (fun _ _=>rfl) CZ
theorem DX:bW X (Q9 .Gt) (iOp fun i j=>some (.bl (decide (j<i)))):=jG (fun _ _=>rfl) Cg
theorem DQ:bW X (Q9 .GtE) (iOp fun i j=>some (.bl (decide (j<=i)))):=jG (fun _ _=>rfl) Dv
theorem am.at_{K:u8}{M:DH}{H:Hp}{ds:List D}{vs:List V}{i:Int}{d:D}(h:am K M H ds vs) (e:atI ds i=some d):∃v,atI vs i=some v/\Rep K M H d v:=by
 unfold atI at e ⊢;rw[<-h.length];cases q:ixN ds.length i with
 |none=>rw[q]at e;cases e
 |some j =>
  rw[q]at e;have e':ds[j]?=some d:=e;obtain⟨v,a,b⟩:=h.get e';exact⟨v,a,b⟩
def ixD:D->D->Option D
 |.tup ds,.int i=>atI ds i
 |.lst ds,.int i=>atI ds i
 |.scr ds,.int i=>atI ds i
 |.str z,.int i=>if z.length<=E4 then(atI z.cps.toList i).map fun c=>.str ⟨#[c]⟩else none
 |_,_=>none
theorem aX:IxR X (opV X.K ixD):=by
 intro value slice aa s σ H x y v u Q I rx ry h hs;obtain⟨dx,dy,dz,M,hr,r1,r2,e,k⟩:=h;cases dx with
 |tup ds =>
  cases dy with
  |int i =>
   obtain⟨a,vs,rfl,sq,rl⟩:=r1;obtain⟨w,e2,rw_⟩:=rl.at_ e;exact By value slice aa s σ H _ _ v u Q I rx ry ⟨a,vs,i,w,rfl,dq r2,sq,e2,k w H (Ext.refl _ _) hr rw_⟩ hs
  |_=>cases e
 |lst ds =>
  cases dy with
  |int i =>
   obtain⟨a,vs,rfl,sq,rl⟩:=r1;obtain⟨w,e2,rw_⟩:=rl.at_ e;exact qv value slice aa s σ H _ _ v u Q I rx ry ⟨a,vs,i,w,rfl,dq r2,SqL.of sq,e2,k w H (Ext.refl _ _) hr rw_⟩ hs
  |_=>cases e
 |scr ds =>
  cases dy with
  |int i =>
   obtain⟨a,vs,rfl,sq,rl⟩:=r1;obtain⟨w,e2,rw_⟩:=rl.at_ e;exact qv value slice aa s σ H _ _ v u Q I rx ry ⟨a,vs,i,w,rfl,dq r2,sq,e2,k w H (Ext.refl _ _) hr rw_⟩ hs
  |_=>cases e
 |str z =>
  cases dy with
  |int i =>
   simp only[ixD]at e
   by_cases hz:z.length<=E4
   ·rw[if_pos hz]at e;cases q:atI z.cps.toList i with
    |none=>rw[q]at e;cases e
    |some c =>
     rw[q]at e;cases e;exact Be value slice aa s σ H _ _ v u Q I rx ry ⟨z,i,c,oS r1,dq r2,hz,q,k _ H (Ext.refl _ _) hr (by simp[Rep])⟩ hs
   ·rw[if_neg hz]at e;cases e
  |_=>cases e
 |_=>cases e
noncomputable def iS:D->D->Option D
 |.int a,.int b=>some (.int (a+b))
 |.str a,.str b=>if a.length+b.length<=E4 then some (.str (a++b))else none
 |.lst a,.lst b=>if a.length+b.length<=E4 then some (.lst (a++b))else none
 |.tup a,.tup b=>if a.length+b.length<=E4 then some (.tup (a++b))else none
 |_,_=>none
theorem mV{K:u8}{M:DH}{H:Hp}{p:E5}{ds:List D}{vs:List V}{Q:VK}(hr:HR K M H) (hp:H p=none) (r:am K M H ds vs) (q:∀w H',Ext M H M H'->HR K M H'->Rep K M H' (.lst ds) w->Q w H'):Q (.ref p) (upd H p (.lst vs)) :=
 q _ _ (Ext.new hr hp) (hr.new hp) (by simp only[Rep];exact⟨p,vs,rfl,⟨az,hr.fresh hp⟩,r.ext (Ext.new hr hp)⟩)
theorem iz{K:u8}{M:DH}{H:Hp}{p:E5}{ds:List D}{vs:List V}{Q:VK}(hr:HR K M H) (hp:H p=none) (r:am K M H ds vs) (q:∀w H',Ext M H M H'->HR K M H'->Rep K M H' (.tup ds) w->Q w H'):Q (.ref p) (upd H p (.tup vs)) :=
 q _ _ (Ext.new hr hp) (hr.new hp) (by simp only[Rep];exact⟨p,vs,rfl,.inl ⟨.inl az,hr.fresh hp⟩,r.ext (Ext.new hr hp)⟩)
theorem aN.tup{K:u8}{M:DH}{H:Hp}{ds:List D}{v:V}(hr:HR K M H) (h:aN K M H (.tup ds) v):Rep K M H (.tup ds) v:=by
 obtain⟨a,vs,rfl,sq,rl⟩:=h;simp only[Rep];refine⟨a,vs,rfl,?_,rl⟩;rcases sq with r|k
 ·refine .inl ⟨r,?_⟩;cases q:M a with
  |none=>rfl
  |some o =>
   obtain⟨u,z,m⟩:=(hr a _ q).some;rcases r with r|⟨ob,r⟩
   ·rw[z]at r;exact absurd (N3 r) (m _).1
   ·rw[z]at r;exact absurd (N3 r) ((m _).2 ob)
 ·exact .inr (.inr k)
theorem vn{prog:J4}{w:O3}{A:L8}{E:s0->E2->Prop}{s:E2}{t b:E5}{ws:List s0}{Q:s0->E2->Prop}(ht:am8 s.heap t ([]:List s0).toArray) (hb:am8 s.heap b ws.toArray)
  (h:Q (.ref b) s):F6 (J9 prog w) A (U8 .Add (.ref t) (.ref b)) Q E s:=by
 obtain⟨⟨cls,dd,data,sl⟩,ho,hc,n,hd⟩:=id ht;obtain⟨⟨cls2,dd2,data2,sl2⟩,ho2,hc2,n2,hd2⟩:=id hb;simp only at hc hd hc2 hd2;subst hc hd hc2 hd2;exact concat_meets ⟨_,ho,rfl⟩ ⟨_,ho2,rfl⟩ noFill_tuple_add seq_tuple_add PySem.F.slot_tuple_add PySem.F.entry_tuple_add (PySem.F.args_tuple_add_2 _ _)
   (tuple_addW0 t b ([]:List s0).toArray ws.toArray n n2 dd dd2 sl sl2 (by simp)) ⟨ho,ho2,h⟩
theorem aR:bW X (U8 .Add) iS:=by
 intro aa s σ H M x y v u dx dy dz Q I hr rx ry r1 r2 e k;cases dx with
 |int a =>
  cases dy with
  |int b =>
   cases e;exact AN aa s σ H x y v u Q I rx ry ⟨a,b,dq r1,dq r2,k _ H (Ext.refl _ _) hr (by simp[Rep])⟩
  |_=>cases e
 |str a =>
  cases dy with
  |str b =>
   simp only[iS]at e
   by_cases hz:a.length+b.length<=E4
   ·rw[if_pos hz]at e;cases e;exact pK aa s σ H x y v u Q I rx ry ⟨a,b,oS r1,oS r2,hz,k _ H (Ext.refl _ _) hr (by simp[Rep])⟩
   ·rw[if_neg hz]at e;cases e
  |_=>cases e
 |lst a =>
  cases dy with
  |lst b =>
   simp only[iS]at e
   by_cases hz:a.length+b.length<=E4
   ·rw[if_pos hz]at e;cases e;obtain⟨l1,vs,rfl,h1,l1r⟩:=r1;obtain⟨l2,ws,rfl,h2,l2r⟩:=r2;exact Aj aa s σ H _ _ v u Q I rx ry ⟨l1,l2,vs,ws,rfl,rfl,h1,h2,by rw[<-l1r.length,<-l2r.length];exact hz,fun p hp=>mV hr hp (l1r.append l2r) k⟩
   ·rw[if_neg hz]at e;cases e
  |_=>cases e
 |tup a =>
  cases dy with
  |tup b =>
   simp only[iS]at e
   by_cases hz:a.length+b.length<=E4
   ·rw[if_pos hz]at e;cases e;have t1:=aN.tup hr r1;have t2:=aN.tup hr r2;obtain⟨l1,vs,rfl,h1,l1r⟩:=r1;obtain⟨l2,ws,rfl,h2,l2r⟩:=r2
    by_cases hv:vs=[]
    ·subst hv;have ea:a=[]:=by
      have:=l1r.length;cases a with
      |nil=>rfl
      |cons _ _=>simp at this
     subst ea;cases rx;cases ry;obtain⟨its,q1,p1,_⟩:=I.tuple h1;obtain⟨its2,q2,p2,_⟩:=I.tuple h2;cases q1;exact vn p1 p2 ⟨.ref l2,H,I,rfl,k _ H (Ext.refl _ _) hr t2⟩
    ·refine wR aa s σ H _ _ v u Q I rx ry ⟨l1,l2,vs,ws,rfl,rfl,h1,h2,hv,by rw[<-l1r.length,<-l2r.length];exact hz,fun hw=>?_,fun _ p hp=>iz hr hp (l1r.append l2r) k⟩;subst hw;have eb:b=[]:=by
      have:=l2r.length;cases b with
      |nil=>rfl
      |cons _ _=>simp at this
     subst eb;rw[R7]at k;exact k _ H (Ext.refl _ _) hr t1
   ·rw[if_neg hz]at e;cases e
  |_=>cases e
 |_=>cases e
mutual
def eqD:D->D->Bool
 |.non,.non=>true
 |.bl a,.bl b=>a==b
 |.bl a,.int b=>(if a then 1 else 0)==b
 |.int a,.bl b=>a==(if b then 1 else 0)
 |.int a,.int b=>a==b
 |.str a,.str b=>a==b
 |.tup a,.tup b=>dY a b
 |.lst a,.lst b=>dY a b
 |_,_=>false
def dY:List D->List D->Bool
 |[],[]=>true
 |a::as,b::bs=>eqD a b&&dY as bs
 |_,_=>false
end
mutual
def dLe:D->Nat->Bool
 |.tup _,0=>false
 |.tup ds,n+1=>bL ds n
 |.lst _,0=>false
 |.lst ds,n+1=>bL ds n
 |.scr _,_=>false
 |.emp,_=>false
 |.box _ _,_=>false
 |.ref _,_=>false
 |_,_=>true
def bL:List D->Nat->Bool
 |[],_=>true
 |d::ds,n=>dLe d n&&bL ds n
end
theorem eA:∀{ds:List D}{n i:Nat}{d:D},bL ds n=true->ds[i]?=some d->dLe d n=true
 |[],_,_,_,_,e=>by simp at e
 |d::ds,n,0,x,h,e=>by
  simp only[bL,N7]at h;simp at e;subst e;exact h.1
 |d::ds,n,i+1,x,h,e=>by
  simp only[bL,N7]at h;exact eA h.2 (by simpa using e)
theorem g6:∀{ds:List D}{n:Nat},bL ds n=true↔∀d∈ds,dLe d n=true
 |[],n=>by simp[bL]
 |d::ds,n=>by simp[bL,g6 (ds:=ds)]
def eqN(ds es:List D) (j:Nat):Bool:=match ds[j]?,es[j]? with|some a,some b=>eqD a b|_,_=>false
theorem nM:∀{ds es:List D},dY ds es=true->ds.length=es.length
 |[],[],_=>rfl
 |[],_::_,h=>by simp[dY]at h
 |_::_,[],h=>by simp[dY]at h
 |_::ds,_::es,h=>by
  simp only[dY,N7]at h;simp[nM h.2]
theorem jN:∀{ds es:List D},dY ds es=((W3 (min ds.length es.length)).all (eqN ds es)&&ds.length==es.length)
 |[],[]=>by simp[dY]
 |[],_::_=>by simp[dY]
 |_::_,[]=>by simp[dY]
 |a::ds,b::es=>by
  have ih:=@jN ds es;simp only[dY,N6,Nat.add_min_add_right,List.range_succ_eq_map,ai8,ak4];have e0:eqN (a::ds) (b::es) 0=eqD a b:=by simp[eqN]
  have e1:(eqN (a::ds) (b::es))∘Nat.succ=eqN ds es:=by
   funext j;simp[eqN]
  rw[e0,e1,ih];have e2:(ds.length+1==es.length+1)=(ds.length==es.length):=by
   rw[W0];simp
  rw[e2,Bool.and_assoc]
theorem sy{ds es:List D}(h:ds.length=es.length):dY ds es=(W3 ds.length).all (eqN ds es):=by
 rw[jN,<-h,Nat.min_self];simp
theorem Rep.r{K:u8}{M:DH}{H:Hp}{d:D}{v:V}(h:Rep K M H d v):aN K M H d v:=by
 cases d with
 |tup ds=>simp only[Rep]at h;obtain⟨a,vs,e,t,r⟩:=h;exact⟨a,vs,e,t.sq,r⟩
 |lst ds=>simp only[Rep]at h;obtain⟨a,vs,e,t,r⟩:=h;exact⟨a,vs,e,t.1,r⟩
 |scr ds=>simp only[Rep]at h;obtain⟨a,vs,e,t,r⟩:=h;exact⟨a,vs,e,t.sq,r⟩
 |_=>exact h
theorem y0{aa:List (E5×Obj)}{σ:St}{H:Hp}{s:E2}{a:E5}{vs ws:List V}(I:Inv X aa σ H s) (h:SqT X.K H a vs) (h':H a=some (.lst ws)):False:=by
 obtain⟨its,r,⟨o,e,c,n,d⟩,_⟩:=I.tuple h;obtain⟨_,its',n',_,e'⟩:=I.hok a _ h';rw[e]at e';cases e';exact absurd (show O0 "list"=O0 "tuple" from c) (by decide)
theorem ur{aa:List (E5×Obj)}{σ:St}{H:Hp}{s:E2}(I:Inv X aa σ H s) {M M':DH}:∀(n:Nat) {d e:D}{v:V},dLe d n=true->dLe e n=true->aN X.K M H d v->aN X.K M' H e v->eqD d e=true:=by
  intro n
  induction n with
  | zero =>
    intro d e v hd he r1 r2;cases d<;>first|(simp[dLe]at hd;done)|skip
    all_goals cases e<;>first|(simp[dLe]at he;done)|skip
    all_goals (simp only[aN,Rep]at r1 r2;subst r1;first|(cases r2;simp[eqD];done)|cases r2)
  | succ n ih =>
    intro d e v hd he r1 r2;have lists:∀{ds es:List D} {vs:List V},bL ds n=true->bL es n=true->am X.K M H ds vs->am X.K M' H es vs->dY ds es=true:=by
      intro ds
      induction ds with
      | nil =>
        intro es vs _ _ h1 h2;simp only[am]at h1;subst h1;cases es with
        |nil=>simp[dY]
        |cons _ _=>simp[am]at h2
      | cons a ds ihl =>
        intro es vs d1 d2 h1 h2;simp only[am]at h1;obtain⟨v,ws,rfl,h3,h4⟩:=h1;cases es with
        |nil=>simp[am]at h2
        | cons b es =>
          simp only[am]at h2;obtain⟨v',ws',e',h5,h6⟩:=h2;cases e';simp only[bL,N7]at d1 d2;simp only[dY,N7];exact⟨ih d1.1 d2.1 h3.r h5.r,ihl d1.2 d2.2 h4 h6⟩
    cases d with
    | tup ds =>
      obtain⟨a,vs,rfl,sq,rl⟩:=r1;cases e with
      | tup es =>
        obtain⟨b,ws,e',sq',rl'⟩:=r2;cases e';have:=I.tuple_inj sq sq';subst this;simp only[eqD];exact lists (by simpa[dLe]using hd) (by simpa[dLe]using he) rl rl'
      | lst es =>
        obtain⟨b,ws,e',sq',rl'⟩:=r2;cases e';exact(y0 I sq sq').elim
      |_=>first|(simp[dLe]at he;done)|(simp only[aN,Rep]at r2;cases r2)
    | lst ds =>
      obtain⟨a,vs,rfl,sq,rl⟩:=r1;cases e with
      | lst es =>
        obtain⟨b,ws,e',sq',rl'⟩:=r2;cases e';rw[sq]at sq';cases sq';simp only[eqD];exact lists (by simpa[dLe]using hd) (by simpa[dLe]using he) rl rl'
      | tup es =>
        obtain⟨b,ws,e',sq',rl'⟩:=r2;cases e';exact(y0 I sq' sq).elim
      |_=>first|(simp[dLe]at he;done)|(simp only[aN,Rep]at r2;cases r2)
    | _ =>
      first
      |(simp[dLe]at hd;done)
      | (cases e with
         |tup es=>(obtain⟨b,ws,e',sq',rl'⟩:=r2;subst e';simp only[aN,Rep]at r1;cases r1)
         |lst es=>(obtain⟨b,ws,e',sq',rl'⟩:=r2;subst e';simp only[aN,Rep]at r1;cases r1)
         |_=>first|(simp[dLe]at he;done)|(simp only[aN,Rep]at r1 r2;subst r1;first|(cases r2;simp[eqD];done)|cases r2))
theorem aN.at{K:u8}{M:DH}{H:Hp}{d:D}{v:V}{u:s0}(r:aN K M H d v) (q:aF v u):match d with|.non=>u=.none|.bl b=>u=.bool b|.int i=>∃t,u=.int i t|.str x=>∃t,u=.str x t|_=>True:=by
 cases d<;>first|trivial|(simp only[aN,Rep]at r;subst r;exact q)
open PySem.SeqAt in
theorem kc{aa:List (E5×Obj)}{σ:St}{H:Hp}{s:E2}(I:Inv X aa σ H s) {M M':DH}:∀(n:Nat) {A:L8}{d e:D}{v w:V}{u1 u2:s0},A.units+n<ae6->dLe d n=true->dLe e n=true ->
  aN X.K M H d v->aN X.K M' H e w->aF v u1->aF w u2->EqAt A s u1 u2 (eqD d e)/\RcAt A s u1 u2 (eqD d e)/\RcNeAt A s u1 u2 (!(eqD d e)):=by
 intro n
 induction n with
 |zero =>
  intro A d e v w u1 u2 hu hd he r1 r2 q1 q2;have hu0:A.units<ae6:=by lia
  cases d<;>first|(simp[dLe]at hd;done)|skip
  all_goals cases e<;>first|(simp[dLe]at he;done)|skip
  all_goals simp only[aN,Rep]at r1 r2
  all_goals subst r1
  all_goals subst r2
  all_goals simp only[aF]at q1 q2
  all_goals first|(obtain⟨t1,rfl⟩:=q1)|subst q1
  all_goals first|(obtain⟨t2,rfl⟩:=q2)|subst q2
  all_goals simp only[eqD]
  ·exact⟨EqAt.same _,RcAt.none_none,RcNeAt.none_none⟩
  ·exact⟨EqAt.none_bool _,RcAt.none_bool _,RcNeAt.none_bool _⟩
  ·exact⟨EqAt.none_int _ _,RcAt.none_int _ _,RcNeAt.none_int _ _⟩
  ·exact⟨EqAt.none_str _ _,RcAt.none_str _ _,RcNeAt.none_str _ _⟩
  ·exact⟨EqAt.bool_none _,RcAt.bool_none _,RcNeAt.bool_none _⟩
  ·exact⟨EqAt.bool_bool _ _,RcAt.bool_bool _ _,RcNeAt.bool_bool _ _⟩
  ·exact⟨EqAt.bool_int _ _ _,RcAt.bool_int _ _ _,RcNeAt.bool_int _ _ _⟩
  ·exact⟨EqAt.bool_str _ _ _,RcAt.bool_str _ _ _,RcNeAt.bool_str _ _ _⟩
  ·exact⟨EqAt.int_none _ _,RcAt.int_none _ _,RcNeAt.int_none _ _⟩
  ·exact⟨EqAt.int_bool _ _ _,RcAt.int_bool _ _ _,RcNeAt.int_bool _ _ _⟩
  ·exact⟨EqAt.int_int _ _ _ _,RcAt.int_int _ _ _ _,RcNeAt.int_int _ _ _ _⟩
  ·exact⟨EqAt.int_str _ _ _ _,RcAt.int_str _ _ _ _,RcNeAt.int_str _ _ _ _⟩
  ·exact⟨EqAt.str_none _ _,RcAt.str_none _ _,RcNeAt.str_none _ _⟩
  ·exact⟨EqAt.str_bool _ _ _,RcAt.str_bool _ _ _,RcNeAt.str_bool _ _ _⟩
  ·exact⟨EqAt.str_int _ _ _ _,RcAt.str_int _ _ _ _,RcNeAt.str_int _ _ _ _⟩
  ·exact⟨EqAt.str_str _ _ _ _,RcAt.str_str _ _ _ _,RcNeAt.str_str _ _ _ _⟩
 |succ n ih =>
  intro A d e v w u1 u2 hu hd he r1 r2 q1 q2;have hu0:A.units<ae6:=by lia
  have hu1:A.in1.units+n<ae6:=by show A.units+1+n<ae6;lia
  have item:∀{ds es:List D} {vs ws:List V} {us us2:List s0},bL ds n=true->bL es n=true->am X.K M H ds vs->am X.K M' H es ws->ax vs us->ax ws us2 ->
    ∀j (h1:j<us.toArray.size) (h2:j<us2.toArray.size),EqAt A.in1 s us.toArray[j] us2.toArray[j] (eqN ds es j):=by
   intro ds es vs ws us us2 d1 d2 h1 h2 h3 h4 j hj1 hj2;have l1:=h1.length;have l2:=h2.length;have l3:=h3.length;have l4:=h4.length;have j1:j<ds.length:=by simp at hj1;lia
   have j2:j<es.length:=by simp at hj2;lia
   obtain⟨v1,g1,p1⟩:=h1.get (i:=j) (d:=ds[j]) (by simp[j1]);obtain⟨v2,g2,p2⟩:=h2.get (i:=j) (d:=es[j]) (by simp[j2]);obtain⟨u1,k1,m1⟩:=h3.get g1;obtain⟨u2,k2,m2⟩:=h4.get g2;have e1:us.toArray[j]=u1:=by
    simp at hj1;simpa[H0 hj1]using k1
   have e2:us2.toArray[j]=u2:=by
    simp at hj2;simpa[H0 hj2]using k2
   rw[e1,e2];have e3:eqN ds es j=eqD ds[j] es[j]:=by simp[eqN,j1,j2]
   rw[e3];exact(ih hu1 (eA d1 (i:=j) (by simp[j1])) (eA d2 (i:=j) (by simp[j2])) p1.r p2.r m1 m2).1
  have both:∀{a b:E5},v=.ref a->w=.ref b->RcAt A s (.ref a) (.ref b) (eqD d e)->EqAt A s (.ref a) (.ref b) (eqD d e):=by
   intro a b ea eb rc
   by_cases hab:a=b
   ·subst hab;subst ea;subst eb;rw[ur I (n+1) hd he r1 r2];exact EqAt.same _
   ·exact EqAt.of_refs hab rc
  cases d with
  |tup ds =>
   obtain⟨a,vs,rfl,sq,rl⟩:=id r1;cases q1;obtain⟨its,rv,pt,_⟩:=I.tuple sq;have hd':bL ds n=true:=by simpa[dLe]using hd
   cases e with
   |tup es =>
    obtain⟨b,ws,rfl,sq',rl'⟩:=id r2;cases q2;obtain⟨its2,rv2,pt2,_⟩:=I.tuple sq';have he':bL es n=true:=by simpa[dLe]using he
    have it:=item hd' he' rl rl' rv rv2;have t1:=RcAt.tuples (e:=eqN ds es) pt pt2 hu0 it;have t2:=RcNeAt.tuples (e:=eqN ds es) pt pt2 hu0 it;rw[F1,F1,<-rv.length,<-rv2.length,<-rl.length,<-rl'.length,<-jN]at t1 t2;have rc:RcAt A s (.ref a) (.ref b) (eqD (.tup ds) (.tup es)):=by simpa only[eqD]using t1
    exact⟨both rfl rfl rc,rc,by simpa only[eqD]using t2⟩
   |lst es =>
    obtain⟨b,ws,rfl,sq',rl'⟩:=id r2;cases q2;obtain⟨its2,rv2,pt2,_⟩:=I.list (SqL.of sq');simp only[eqD];exact⟨EqAt.tuple_list pt pt2.isList hu0,RcAt.tuple_list pt pt2.isList hu0,RcNeAt.tuple_list pt pt2.isList hu0⟩
   |non=>obtain rfl:=r2.at q2;simp only[eqD];exact⟨EqAt.tuple_none pt hu0,RcAt.tuple_none pt hu0,RcNeAt.tuple_none pt hu0⟩
   |bl b=>obtain rfl:=r2.at q2;simp only[eqD];exact⟨EqAt.tuple_bool _ pt hu0,RcAt.tuple_bool _ pt hu0,RcNeAt.tuple_bool _ pt hu0⟩
   |int b=>obtain⟨t,rfl⟩:=r2.at q2;simp only[eqD];exact⟨EqAt.tuple_int _ _ pt hu0,RcAt.tuple_int _ _ pt hu0,RcNeAt.tuple_int _ _ pt hu0⟩
   |str b=>obtain⟨t,rfl⟩:=r2.at q2;simp only[eqD];exact⟨EqAt.tuple_str _ _ pt hu0,RcAt.tuple_str _ _ pt hu0,RcNeAt.tuple_str _ _ pt hu0⟩
   |_=>simp[dLe]at he
  |lst ds =>
   obtain⟨a,vs,rfl,sq,rl⟩:=id r1;cases q1;obtain⟨its,rv,pt,_⟩:=I.list (SqL.of sq);have hd':bL ds n=true:=by simpa[dLe]using hd
   cases e with
   |lst es =>
    obtain⟨b,ws,rfl,sq',rl'⟩:=id r2;cases q2;obtain⟨its2,rv2,pt2,_⟩:=I.list (SqL.of sq');have he':bL es n=true:=by simpa[dLe]using he
    have hs:its.toArray.size=ds.length/\its2.toArray.size=es.length:=by rw[F1,F1,<-rv.length,<-rv2.length,<-rl.length,<-rl'.length];exact⟨rfl,rfl⟩
    have rc:RcAt A s (.ref a) (.ref b) (eqD (.lst ds) (.lst es))/\RcNeAt A s (.ref a) (.ref b) (!(eqD (.lst ds) (.lst es))):=by
     by_cases hl:ds.length=es.length
     ·have hsz:its.toArray.size=its2.toArray.size:=by rw[hs.1,hs.2];exact hl
      have it:=item hd' he' rl rl' rv rv2;have t1:=RcAt.lists (e:=eqN ds es) pt.isList pt2.isList hsz hu0 it;have t2:=RcNeAt.lists (e:=eqN ds es) pt.isList pt2.isList hsz hu0 it;rw[hs.1,<-sy hl]at t1 t2;exact⟨by simpa only[eqD]using t1,by simpa only[eqD]using t2⟩
     ·have hsz:(its.toArray.size != its2.toArray.size)=true:=by rw[hs.1,hs.2];simpa using hl
      have e0:eqD (.lst ds) (.lst es)=false:=by
       simp only[eqD];cases q:dY ds es with
       |false=>rfl
       |true=>exact absurd (nM q) hl
      rw[e0];exact⟨RcAt.lists_lengths pt.isList pt2.isList hsz hu0,RcNeAt.lists_lengths pt.isList pt2.isList hsz hu0⟩
    exact⟨both rfl rfl rc.1,rc⟩
   |tup es =>
    obtain⟨b,ws,rfl,sq',rl'⟩:=id r2;cases q2;obtain⟨its2,rv2,pt2,_⟩:=I.tuple sq';simp only[eqD];exact⟨EqAt.list_tuple pt.isList pt2 hu0,RcAt.list_tuple pt.isList pt2 hu0,RcNeAt.list_tuple pt.isList pt2 hu0⟩
   |non=>obtain rfl:=r2.at q2;simp only[eqD];exact⟨EqAt.list_none pt.isList hu0,RcAt.list_none pt.isList hu0,RcNeAt.list_none pt.isList hu0⟩
   |bl b=>obtain rfl:=r2.at q2;simp only[eqD];exact⟨EqAt.list_bool _ pt.isList hu0,RcAt.list_bool _ pt.isList hu0,RcNeAt.list_bool _ pt.isList hu0⟩
   |int b=>obtain⟨t,rfl⟩:=r2.at q2;simp only[eqD];exact⟨EqAt.list_int _ _ pt.isList hu0,RcAt.list_int _ _ pt.isList hu0,RcNeAt.list_int _ _ pt.isList hu0⟩
   |str b=>obtain⟨t,rfl⟩:=r2.at q2;simp only[eqD];exact⟨EqAt.list_str _ _ pt.isList hu0,RcAt.list_str _ _ pt.isList hu0,RcNeAt.list_str _ _ pt.isList hu0⟩
   |_=>simp[dLe]at he
  |non =>
   cases e with
   |tup es =>
    obtain⟨b,ws,rfl,sq',rl'⟩:=id r2;cases q2;obtain⟨its2,rv2,pt2,_⟩:=I.tuple sq';obtain rfl:=r1.at q1;simp only[eqD];exact⟨EqAt.none_tuple pt2 hu0,RcAt.none_tuple pt2 hu0,RcNeAt.none_tuple pt2 hu0⟩
   |lst es =>
    obtain⟨b,ws,rfl,sq',rl'⟩:=id r2;cases q2;obtain⟨its2,rv2,pt2,_⟩:=I.list (SqL.of sq');obtain rfl:=r1.at q1;simp only[eqD];exact⟨EqAt.none_list pt2.isList hu0,RcAt.none_list pt2.isList hu0,RcNeAt.none_list pt2.isList hu0⟩
   |_=>first|(simp[dLe]at he;done)|exact ih (A:=A) (by lia) (by simp[dLe]) (by simp[dLe]) r1 r2 q1 q2
  |bl a =>
   cases e with
   |tup es =>
    obtain⟨b,ws,rfl,sq',rl'⟩:=id r2;cases q2;obtain⟨its2,rv2,pt2,_⟩:=I.tuple sq';obtain rfl:=r1.at q1;simp only[eqD];exact⟨EqAt.bool_tuple _ pt2 hu0,RcAt.bool_tuple _ pt2 hu0,RcNeAt.bool_tuple _ pt2 hu0⟩
   |lst es =>
    obtain⟨b,ws,rfl,sq',rl'⟩:=id r2;cases q2;obtain⟨its2,rv2,pt2,_⟩:=I.list (SqL.of sq');obtain rfl:=r1.at q1;simp only[eqD];exact⟨EqAt.bool_list _ pt2.isList hu0,RcAt.bool_list _ pt2.isList hu0,RcNeAt.bool_list _ pt2.isList hu0⟩
   |_=>first|(simp[dLe]at he;done)|exact ih (A:=A) (by lia) (by simp[dLe]) (by simp[dLe]) r1 r2 q1 q2
  |int a =>
   cases e with
   |tup es =>
    obtain⟨b,ws,rfl,sq',rl'⟩:=id r2;cases q2;obtain⟨its2,rv2,pt2,_⟩:=I.tuple sq';obtain⟨t,rfl⟩:=r1.at q1;simp only[eqD];exact⟨EqAt.int_tuple _ _ pt2 hu0,RcAt.int_tuple _ _ pt2 hu0,RcNeAt.int_tuple _ _ pt2 hu0⟩
   |lst es =>
    obtain⟨b,ws,rfl,sq',rl'⟩:=id r2;cases q2;obtain⟨its2,rv2,pt2,_⟩:=I.list (SqL.of sq');obtain⟨t,rfl⟩:=r1.at q1;simp only[eqD];exact⟨EqAt.int_list _ _ pt2.isList hu0,RcAt.int_list _ _ pt2.isList hu0,RcNeAt.int_list _ _ pt2.isList hu0⟩
   |_=>first|(simp[dLe]at he;done)|exact ih (A:=A) (by lia) (by simp[dLe]) (by simp[dLe]) r1 r2 q1 q2
  |str a =>
   cases e with
   |tup es =>
    obtain⟨b,ws,rfl,sq',rl'⟩:=id r2;cases q2;obtain⟨its2,rv2,pt2,_⟩:=I.tuple sq';obtain⟨t,rfl⟩:=r1.at q1;simp only[eqD];exact⟨EqAt.str_tuple _ _ pt2 hu0,RcAt.str_tuple _ _ pt2 hu0,RcNeAt.str_tuple _ _ pt2 hu0⟩
   |lst es =>
    obtain⟨b,ws,rfl,sq',rl'⟩:=id r2;cases q2;obtain⟨its2,rv2,pt2,_⟩:=I.list (SqL.of sq');obtain⟨t,rfl⟩:=r1.at q1;simp only[eqD];exact⟨EqAt.str_list _ _ pt2.isList hu0,RcAt.str_list _ _ pt2.isList hu0,RcNeAt.str_list _ _ pt2.isList hu0⟩
   |_=>first|(simp[dLe]at he;done)|exact ih (A:=A) (by lia) (by simp[dLe]) (by simp[dLe]) r1 r2 q1 q2
  |_=>simp[dLe]at hd
end
section
variable{X:Cx}{a b c e:K4}{es:List K4}{te ta tb:TEd}{pos:Pos}{st:Z7}{rest:List Z7}{t u:TSd}
def tR:TSd:=fun E Δ M=>E.nx Δ M
def yi(t u:TSd):TSd:=fun E Δ M=>t { E with nx:=u E } Δ M
def CT(te:TEd):TSd:=fun E Δ M=>te Δ M E.rt
def yU(te:TEd):TSd:=fun E Δ M=>te Δ M fun _ M1=>E.nx Δ M1
def zQ(c:TTd) (t u:TSd):TSd:=fun E Δ M=>c Δ M fun b M1=>if b=true then t E Δ M1 else u E Δ M1
def ua(i:Nat) (te:TEd):TSd:=fun E Δ M=>te Δ M fun d M1=>E.nx (Δ.set i (some d)) M1
def vT(i:Nat) (t:TSd):TSd:=fun E Δ M=>∃a ds,Δ[i]?=some (some (.ref a))/\M a=some (.lst ds)/\t E (Δ.set i (some (.lst ds))) (fR M a)
abbrev GD:=D->DE->Option DE
def PGd(X:Cx) (tg:K4) (g:GD):Prop:=∃gv:TG,PG X tg gv/\∀(d:D) (v:V) (σ:St) (Δ Δ':DE) (M:DH) (H:Hp) (Q:St->Hp->Prop),SR X.K M H σ Δ->HR X.K M H->Rep X.K M H d v->g d Δ=some Δ'->(∀ σ',SR X.K M H σ' Δ'->Q σ' H)->gv v σ H Q
def bG(i:Nat):GD:=fun d Δ=>some (Δ.set i (some d))
theorem ba{i:Nat}{x:Str}(hN:X.N.Nodup) (hi:X.N[i]?=some x) (hx:Loc X.env.scope x) (hf:X.fn x=true∨X.env.scope.names.lookup x=some .local:=by first|exact .inl rfl|exact .inr rfl|assumption):PGd X (.Name x pos) (bG i) :=
 ⟨nX i,qV hN hi hx hf,fun d v σ Δ Δ' M H Q sr hr rv e k=>by cases e;exact k _ (sr.set i rv)⟩
abbrev GDs:=List D->DE->Option DE
def xq(X:Cx) (tgs:List K4) (g:GDs):Prop:=∃gv:TGs,PGs X tgs gv/\∀(ds:List D) (vs:List V) (σ:St) (Δ Δ':DE) (M:DH) (H:Hp) (Q:St->Hp->Prop),SR X.K M H σ Δ->HR X.K M H->am X.K M H ds vs->g ds Δ=some Δ'->(∀ σ',SR X.K M H σ' Δ'->Q σ' H)->gv vs σ H Q
def qU:GDs:=fun ds Δ=>match ds with|[]=>some Δ|_=>none
def iE(g:GD) (gs:GDs):GDs:=fun ds Δ=>match ds with|[]=>none|d::r=>(g d Δ).bind fun Δ1=>gs r Δ1
def lu(g:GDs) (n:Nat):GD:=fun d Δ=>match d with|.tup ds=>if ds.length=n then g ds Δ else none|_=>none
theorem nt:xq X [] qU:=⟨Ay,rK,fun ds vs σ Δ Δ' M H Q sr hr rv e k=>by
 cases ds with
 |nil=>simp only[am]at rv;subst rv;cases e;exact⟨rfl,k _ sr⟩
 |cons _ _=>cases e⟩
theorem di{tg:K4}{tgs:List K4}{g:GD}{gs:GDs}(h1:PGd X tg g) (h2:xq X tgs gs)
  (hs:(V2 (tg::tgs) X.env).map (·.2)=af7 tg X.env::(V2 tgs X.env).map (·.2):=by rfl):xq X (tg::tgs) (iE g gs):=by
 obtain⟨g1,p1,k1⟩:=h1;obtain⟨g2,p2,k2⟩:=h2;refine⟨uR g1 g2,oK p1 p2 hs,fun ds vs σ Δ Δ' M H Q sr hr rv e k=>?_⟩;cases ds with
 |nil=>cases e
 |cons d r =>
  simp only[am]at rv;obtain⟨v,ws,rfl,h3,h4⟩:=rv;simp only[iE]at e;cases q:g d Δ with
  |none=>rw[q]at e;cases e
  |some Δ1 =>
   rw[q]at e;exact⟨v,ws,rfl,k1 d v σ Δ Δ1 M H _ sr hr h3 q fun σ1 sr1=>k2 r ws σ1 Δ1 Δ' M H Q sr1 hr h4 e k⟩
theorem oU{tgs:List K4}{kx:Nat}{g:GDs}{n:Nat}(hc:X.calm=true) (h:xq X tgs g) (hn:(V2 tgs X.env).length=n:=by rfl) (hst:(V2 tgs X.env).findIdx? (·.1)=none:=by rfl):PGd X (.Tuple tgs kx pos) (lu g n):=by
 obtain⟨g1,p1,k1⟩:=h;refine⟨zR X.K n g1,vQ hc p1 hn hst,fun d v σ Δ Δ' M H Q sr hr rv e k=>?_⟩;cases d with
 |tup ds =>
  simp only[lu]at e
  by_cases hl:ds.length=n
  ·rw[if_pos hl]at e;simp only[Rep]at rv;obtain⟨a,vs,rfl,ta,rl⟩:=rv;exact⟨a,vs,rfl,ta.sq,by rw[<-rl.length];exact hl,k1 ds vs σ Δ Δ' M H Q sr hr rl e k⟩
  ·rw[if_neg hl]at e;cases e
 |_=>cases e
def Du(te:TEd) (g:GD):TSd:=fun E Δ M=>te Δ M fun d M1=>∃ Δ',g d Δ=some Δ'/\E.nx Δ' M1
abbrev TId:=DE->DH->(List D->DH->Prop)->Prop
def ItD(K:u8) (J:It) (ds:List D) (M1:DH) (H1:Hp):Prop:=∀M2 H2,Ext M1 H1 M2 H2->HR K M2 H2->∀i,(∀d,ds[i]?=some d->J.go i H2/\∀x H',J.yld i H2 x H'->Ext M2 H2 M2 H'/\HR K M2 H'/\Rep K M2 H' d x)/\(ds.length<=i->J.stop i H2)
def upI(K:u8) (wi:TId):TI:=fun σ H R=>∃(Δ:DE) (M:DH) (R':List D->DH->Prop),SR K M H σ Δ/\HR K M H/\wi Δ M R'/\∀ds M1 J H1,R' ds M1->Ext M H M1 H1->HR K M1 H1->ItD K J ds M1 H1->R J H1
theorem upI.el{K:u8}{t:TId}{σ:St}{H:Hp}{Q:It->Hp->Prop}{P:Prop}(h:upI K t σ H Q) (f:∀(Δ:DE) (M:DH) (R:List D->DH->Prop),SR K M H σ Δ->HR K M H->t Δ M R->(∀ds M1 J H1,R ds M1->Ext M H M1 H1->HR K M1 H1->ItD K J ds M1 H1->Q J H1)->P):P:=by
 obtain⟨x1,x2,x3,a,b,c,d⟩:=h;exact f x1 x2 x3 a b c d
def PId(X:Cx) (tg iter:K4) (wi:TId):Prop:=PI X tg iter (upI X.K wi)
theorem PI.conv{tg iter:K4}{w w':TI}(h:PI X tg iter w) (k:∀ σ H R,w' σ H R->w σ H R):PI X tg iter w':=fun p s σ H R I q=>h p s σ H R I (k σ H R q)
variable{tg iter:K4}
def iX(lo:Int) (n:Nat):List D:=(W3 n).map fun(k:Nat)=>.int (lo+(k:Int))
theorem bT{lo:Int}{n i:Nat}{d:D}(h:(iX lo n)[i]?=some d):i<n/\d=.int (lo+i):=by
 unfold iX at h;rw[L7]at h
 by_cases hi:i<n
 ·rw[List.getElem?_range hi]at h;cases h;exact⟨hi,rfl⟩
 ·rw[List.getElem?_eq_none (by simp;omega)]at h;cases h
theorem wX{K:u8}{lo:Int}{n:Nat}{M1:DH}{H1:Hp}:ItD K (Itr lo n) (iX lo n) M1 H1:=fun M2 H2 e2 hr2 i=>⟨fun d hd=>by
  obtain⟨h1,rfl⟩:=bT hd;refine⟨h1,fun x H' ⟨eH,y⟩=>?_⟩;subst eH;subst y;exact⟨Ext.refl _ _,hr2,by simp[Rep]⟩,fun hl=>by
  show n<=i;simpa[iX]using hl⟩
def uw(ta:TAd):TId:=fun Δ M R=>ta Δ M fun ds M1=>∃j:Int,ds=[.int j]/\-(2 ^ 62)<=j/\j<2 ^ 62/\R (iX 0 j.toNat) M1
def cE(g:GD) (tb:TSd) (E:cP):List D->DE->DH->Prop
 |[],Δ,M=>E.nx Δ M
 |d::ds,Δ,M=>∃ Δ',g d Δ=some Δ'/\tb { E with nx:=cE g tb E ds,ct:=cE g tb E ds,bk:=E.nx } Δ' M
def AQ(wi:TId) (g:GD) (tb:TSd):TSd:=fun E Δ M=>wi Δ M fun ds M1=>cE g tb E ds Δ M1
def wm(c:TTd) (tb:TSd):TSd:=fun E Δ M=>∃W:Nat->DE->DH->Prop,(∃m,W m Δ M)/\∀m Δ M,W m Δ M->c Δ M fun b M1=>if b=true then tb { E with nx:=fun Δ' M'=>∃m',m'<m/\W m' Δ' M',ct:=fun Δ' M'=>∃m',m'<m/\W m' Δ' M',bk:=E.nx } Δ M1 else E.nx Δ M1
end
def qk:D->Prop
 |.tup ds=>ds.length<=E4
 |.lst ds=>ds.length<=E4
 |.scr ds=>ds.length<=E4
 |_=>True
section
variable{X:Cx}{a b c e:K4}{es:List K4}{te ta tb:TEd}{pos:Pos}{tg iter elt:K4}
theorem aN.len{K:u8}{aa:List (E5×Obj)}{σ:St}{H:Hp}{s:E2}{M:DH}{d:D}{v:V}(I:Inv X aa σ H s) (h:Rep X.K M H d v):qk d:=by
 cases d with
 |tup ds =>
  simp only[Rep]at h;obtain⟨a,vs,e,t,r⟩:=h;obtain⟨_,_,_,z⟩:=I.tuple t.sq;simp only[qk];rw[r.length];exact z
 |lst ds =>
  simp only[Rep]at h;obtain⟨a,vs,e,t,r⟩:=h;obtain⟨_,_,_,z⟩:=I.list (SqL.of t.1);simp only[qk];rw[r.length];exact z
 |scr ds =>
  simp only[Rep]at h;obtain⟨a,vs,e,t,r⟩:=h;obtain⟨_,_,_,z⟩:=I.list t.sq;simp only[qk];rw[r.length];exact z
 |_=>trivial
noncomputable def bP:List Bool->DE->DE
 |true::ms,v::σ=>v::bP ms σ
 |false::ms,_::σ=>none::bP ms σ
 |[],_::σ=>none::bP [] σ
 |_,[]=>[]
def iO(ms:List Bool) (k:Nat) (Δ:DE):DE:=bP ms Δ++E6 k none
theorem cp:∀(ms:List Bool) (σ:DE),(bP ms σ).length=σ.length
 |true::ms,v::σ=>by simp[bP,cp ms σ]
 |false::ms,_::σ=>by simp[bP,cp ms σ]
 |[],_::σ=>by simp[bP,cp [] σ]
 |[],[]=>by simp[bP]
 |true::_,[]=>by simp[bP]
 |false::_,[]=>by simp[bP]
theorem fF:∀{ms:List Bool}{σ:DE}{i:Nat}{v:D},(bP ms σ)[i]?=some (some v)->ms[i]?=some true/\σ[i]?=some (some v)
 |true::ms,v::σ,0,x,h=>by simpa[bP]using h
 |true::ms,v::σ,i+1,x,h=>by
  have:=fF (ms:=ms) (σ:=σ) (i:=i) (v:=x) (by simpa[bP]using h);simpa using this
 |false::ms,_::σ,0,x,h=>by simp[bP]at h
 |false::ms,_::σ,i+1,x,h=>by
  have:=fF (ms:=ms) (σ:=σ) (i:=i) (v:=x) (by simpa[bP]using h);simpa using this
 |[],_::σ,0,x,h=>by simp[bP]at h
 |[],_::σ,i+1,x,h=>by
  have:=fF (ms:=[]) (σ:=σ) (i:=i) (v:=x) (by simpa[bP]using h);simpa using this
 |[],[],_,_,h=>by simp[bP]at h
 |true::_,[],_,_,h=>by simp[bP]at h
 |false::_,[],_,_,h=>by simp[bP]at h
theorem gj:∀{ms:List Bool}{σ:St}{i:Nat}{v:V},ms[i]?=some true->σ[i]?=some (some v)->(bv ms σ)[i]?=some (some v)
 |true::ms,v::σ,0,x,h,h2=>by simpa[bv]using h2
 |true::ms,v::σ,i+1,x,h,h2=>by
  have:=gj (ms:=ms) (σ:=σ) (i:=i) (v:=x) (by simpa using h) (by simpa using h2);simpa[bv]using this
 |false::ms,_::σ,0,x,h,h2=>by simp at h
 |false::ms,_::σ,i+1,x,h,h2=>by
  have:=gj (ms:=ms) (σ:=σ) (i:=i) (v:=x) (by simpa using h) (by simpa using h2);simpa[bv]using this
 |[],_,_,_,h,_=>by simp at h
 |_::_,[],_,_,_,h=>by simp at h
theorem SR.comp{K:u8}{M:DH}{H:Hp}{σ:St}{Δ:DE}(ms:List Bool) (k:Nat) (h:SR K M H σ Δ):SR K M H (dS ms k σ) (iO ms k Δ):=by
 refine⟨by simp[dS,iO,bw,cp,h.1],fun i d q=>?_⟩;unfold iO at q
 by_cases hi:i<(bP ms Δ).length
 ·rw[P9 hi]at q;obtain⟨m,e⟩:=fF q;obtain⟨v,ev,rv⟩:=h.2 i d e;refine⟨v,?_,rv⟩;have:=gj m ev;unfold dS;rw[P9 (by rw[bw,h.1,<-cp ms];exact hi)];exact this
 ·rw[S3 (by lia),ac3]at q
  split at q<;>cases q
def cy(g:GD) (tc:TTd) (te:TEd):List D->DE->DH->List D->(List D->DH->Prop)->Prop
 |[],_,M,acc,Q=>Q acc M
 |d::ds,Δ,M,acc,Q=>∃ Δ',g d Δ=some Δ'/\tc Δ' M fun b M1=>if b=true then te Δ' M1 fun y M2=>cy g tc te ds Δ' M2 (acc++[y]) Q else cy g tc te ds Δ' M1 acc Q
def dLc(ms:List Bool) (k:Nat) (wi:TId) (g:GD) (tc:TTd) (te:TEd):TEd:=fun Δ M Q=>wi Δ M fun ds M1=>ds.length<=E4/\cy g tc te ds (iO ms k Δ) M1 [] fun ys M2=>Q (.lst ys) M2
def Cb(X:Cx) (ifs:List K4) (t:TTd):Prop:=PIf X ifs (upT X.K t)
def kz:TTd:=fun _ M Q=>Q true M
abbrev ki(K:u8) (g:GD) (gv:TG):Prop:=∀(d:D) (v:V) (σ:St) (Δ Δ':DE) (M:DH) (H:Hp) (Q:St->Hp->Prop),SR K M H σ Δ->HR K M H->Rep K M H d v->g d Δ=some Δ'->(∀ σ',SR K M H σ' Δ'->Q σ' H)->gv v σ H Q
theorem xT{K:u8}{g:GD}{tc:TTd}{te:TEd}{gv:TG}(kg:ki K g gv) {J:It}{ds:List D}{M1:DH}{H1:Hp}(it:ItD K J ds M1 H1) (hr1:HR K M1 H1) (hz:ds.length<=E4) {R:List D->DH->Prop}{σ:St}{Δ:DE}(sr:SR K M1 H1 σ Δ) (q:cy g tc te ds Δ M1 [] R) :
  ∃(W:Nat->Nat->List V->St->Hp->Prop) (Z:List V->St->Hp->Prop),(∃m,W 0 m [] σ H1)/\iI J gv (upT K tc) (jn (up K te)) W Z/\∀ys σ' H',Z ys σ' H'->∃M' acc,Ext M1 H1 M' H'/\HR K M' H'/\am K M' H' acc ys/\R acc M':=by
 refine⟨fun i m ys σ' H'=>∃ Δ' M' acc,m=ds.length-i/\i<=ds.length/\Ext M1 H1 M' H'/\HR K M' H'/\SR K M' H' σ' Δ'/\am K M' H' acc ys/\acc.length<=i/\cy g tc te (ds.drop i) Δ' M' acc R,_,
  ⟨ds.length,_,M1,[],by simp,O4 _,Ext.refl _ _,hr1,sr,am.nil,by simp,q⟩,?_,fun _ _ _ z=>z⟩
 rintro i m ys σ2 H2 ⟨Δ2,M2,acc,rfl,hi2,e2,hr2,sr2,ra,la,f2⟩;have hl:ys.length<=E4:=by rw[<-ra.length];lia
 refine⟨hl,?_⟩;obtain⟨go,stop⟩:=it M2 H2 e2 hr2 i
 by_cases hlt:i<ds.length
 ·have hd:ds[i]?=some ds[i]:=by simp[hlt]
  obtain⟨g1,y1⟩:=go _ hd;rw[V7 hlt]at f2;simp only[cy]at f2;obtain⟨Δ3,eg,f3⟩:=f2;refine .inr ⟨g1,fun x H' hy=>?_⟩;obtain⟨e3,hr3,rx⟩:=y1 x H' hy;refine kg _ x σ2 Δ2 Δ3 M2 H' _ (sr2.ext e3) hr3 rx eg fun σ3 sr3=>?_;refine⟨Δ3,M2,_,sr3,hr3,f3,fun b M4 H4 q4 e4 hr4=>?_⟩;cases b with
  |true =>
   simp only[if_true]at q4 ⊢;refine⟨Δ3,M4,_,sr3.ext e4,hr4,q4,fun y M5 v5 H5 q5 e5 hr5 rv5=>?_⟩;refine⟨ds.length-(i+1),by lia,Δ3,M5,acc++[y],rfl,hlt,((e2.trans e3).trans e4).trans e5,hr5,(sr3.ext e4).ext e5,(((ra.ext e3).ext e4).ext e5).append (am.cons rv5 am.nil),by simp;lia,q5⟩
  |false =>
   simp only[K8,if_false]at q4 ⊢;exact⟨ds.length-(i+1),by lia,Δ3,M4,acc,rfl,hlt,(e2.trans e3).trans e4,hr4,sr3.ext e4,(ra.ext e3).ext e4,by lia,q4⟩
 ·rw[Z5 (by lia)]at f2;exact .inl ⟨stop (by lia),M2,acc,e2,hr2,ra,f2⟩
theorem qA{K:u8}{wi:TId}{g:GD}{tc:TTd}{te:TEd}{gv:TG}{ms:List Bool}{kk:Nat}(kg:ki K g gv) :
  ∀ σ H Q,up K (dLc ms kk wi g tc te) σ H Q->tLc ms kk (upI K wi) gv (upT K tc) (up K te) σ H Q:=by
 rintro σ H Q ⟨Δ,M,R,sr,hr,q,k⟩;refine⟨Δ,M,_,sr,hr,q,fun ds M1 J H1 ⟨hz,q1⟩ e1 hr1 it=>?_⟩;obtain⟨W,Z,hW,hC,hZ⟩:=xT kg it hr1 hz ((sr.ext e1).comp ms kk) q1;refine⟨W,Z,hW,hC,fun ys σ' H' p z hp=>?_⟩;obtain⟨M',acc,e',hr',ra,q'⟩:=hZ _ _ _ z;refine k _ M' _ _ q' ((e1.trans e').trans (Ext.new hr' hp)) (hr'.new hp) ?_;simp only[Rep];exact⟨p,ys,rfl,⟨az,hr'.fresh hp⟩,ra.ext (Ext.new hr' hp)⟩
variable{scope:aa5}{cl:List (Str×E5)}{ms:List Bool}{ao:List Str}{ifs:List K4}
def PGa(X:Cx) (scope:aa5) (cl:List (Str×E5)) (ao:List Str) (tg:K4) (g:GD):Prop:=∃gv:TG,(∀C s H ex,PG (aD X scope cl (X.N++ao) C s H ex) tg gv)/\ki X.K g gv
theorem aP{i:Nat}{x:Str}{pos:Pos}(hN:(X.N++ao).Nodup) (hi:(X.N++ao)[i]?=some x) (hx:(relabel scope X.env).names.lookup x=some .local):PGa X scope cl ao (.Name x pos) (bG i) :=
 ⟨nX i,fun C s H ex=>qV hN hi (.inl hx) (.inr hx),fun d v σ Δ Δ' M H Q sr hr rv e k=>by cases e;exact k _ (sr.set i rv)⟩
end
abbrev SpD:=List D->DH->(D->DH->Prop)->Prop
def spD(K:u8) (n:Nat) (S:SpD):Sp:=fun vs H Q _=>∃(ds:List D) (M:DH) (R:D->DH->Prop),ds.length=n/\am K M H ds vs/\HR K M H/\S ds M R/\∀d M' v H',R d M'->Ext M H M' H'->HR K M' H'->Rep K M' H' d v->Q v H'
theorem yk{K:u8}{n:Nat}{S:SpD}{vs:List V}{H:Hp}{Q:VK}{E:XK}(h:spD K n S vs H Q E):vs.length=n:=by
 obtain⟨ds,M,R,hl,r,_⟩:=h;rw[<-r.length];exact hl
def eO(N:List Str) (ds:List D):DE:=ds.map some++E6 (N.length-ds.length) none
theorem nU{K:u8}{M:DH}{H:Hp}{N:List Str}:∀{ds:List D}{vs:List V},am K M H ds vs->SR K M H (eR N vs) (eO N ds):=by
 intro ds vs h;have hl:=h.length;refine⟨by simp[eR,eO,hl],fun i d q=>?_⟩;unfold eO at q
 by_cases hi:i<ds.length
 ·rw[P9 (by simpa using hi),L7]at q;cases e:ds[i]? with
  |none=>rw[e]at q;cases q
  |some d' =>
   rw[e]at q;cases q;obtain⟨v,gv,rv⟩:=h.get e;refine⟨v,?_,rv⟩;unfold eR;rw[P9 (by simp;lia),L7,gv];rfl
 ·rw[S3 (by simpa using hi),ac3]at q
  split at q<;>cases q
section
variable{P:J4}{w:O3}{K:u8}{mg:Str->Option s0}{base:I0}{f:E5}{fd:K1}
theorem Fun.okD{x qual:Str}{st:Z7}{f:E5}{fd:K1}{N ps:List Str}{k n:Nat}{S:SpD}(F:Fun K x qual st f fd) (hn:ps.length=n) (Sc:aA N ps (ai st))
  (hbody:∀ (cdv:s0) (A:L8) (outer:List Env) (s:E2) (H:Hp) (E:XK),bt k (A.deeper (W9 qual (ai st) s.heap.objs.size f cdv)) →
   ∃t:TSd,yj (fm CX0 P w K mg base N qual (ai st) f cdv A outer s H E).nox (bZ st) t/\∀ds M R,ds.length=n->S ds M R->t { nx:=fun _ M'=>R .non M',rt:=R } (eO N ds) M):aO P w K mg base CX0 (k+1) f fd ps (spD K n S):=by
 refine F.ok Sc (fun vs H Q E h=>by rw[hn];exact yk h) (fun cdv A outer s H vs Q E hr h=>?_);obtain⟨t,ht,hq⟩:=hbody cdv A outer s H E hr;obtain⟨ds,M,R,hl,r,hrr,q,k'⟩:=h;refine⟨_,ht,eO N ds,M,_,nU r,hrr,hq ds M R hl q,⟨fun Δ' M' σ' H' q' e' hr' _=>k' .non M' .non H' q' e' hr' (by simp[Rep]),fun _ _ _ _ q'=>Q6 q',fun _ _ _ _ q'=>Q6 q',fun d M' v H' q' e' hr' rv=>k' d M' v H' q' e' hr' rv⟩⟩
end
section
variable{X:Cx}{a b c e:K4}{es:List K4}{te ta tb:TEd}{t:TAd}{pos:Pos}
def oH(n:Nat) (S:SpD) (t:TAd):TEd:=fun Δ M Q=>t Δ M fun ds M1=>ds.length=n/\S ds M1 Q
theorem BC{k:Nat}{f:E5}{fd:K1}{ps:List Str}{n:Nat}{S:SpD}{x:Str}{p:Pos}(F:aO X.prog X.w X.K X.mg X.base CX0 k f fd ps (spD X.K n S)) (hr:bt k X.A) (hg:Gl X x) (hm:X.mg x=some (.ref f)) (hk:S5 X.K (.ref f)=true) (hb:bQ X.K fd ps [])
  (ha:PAd X (e::es) t) (hdb:(x==("__debug__":Str))=false:=by decide) (he:E8 (e::es) X.env=(false,Z4 e X.env)::E8 es X.env:=by rfl) (hpl:(V0 pos (E8 es X.env)).any (·.1)=false:=by rfl) :
  PEd X (.Call (.Name x p) (e::es) [] pos) (oH n S t) :=
 (m6 F hr hg hm hk hb .nil uL ha hdb he hpl).conv fun σ H Q hup => hup.el fun Δ M R sr hr q k => ⟨Δ,M,_,sr,hr,q,fun ds M1 vs H1 ⟨hl,q1⟩ e1 hr1 rv => by
  dsimp only;rw[R7];exact⟨ds,M1,R,hl,rv,hr1,q1,fun d M' v H' q' e' hr' rv'=>k d M' v H' q' (e1.trans e') hr' rv'⟩⟩
def Dz(to ti te:TEd):TSd:=fun E Δ M=>te Δ M fun d M1=>to Δ M1 fun o M2=>ti Δ M2 fun i M3=>∃a ds k j,o=.ref a/\i=.int k/\M3 a=some (.lst ds)/\ixN ds.length k=some j/\E.nx Δ (ar M3 a (.lst (ds.set j d)))
def CU(to te:TEd):TEd:=fun Δ M Q=>to Δ M fun o M1=>∃a l,o=.ref a/\M1 a=some (.lst l)/\te Δ M1 fun d M2=>∃ds,M2 a=some (.lst ds)/\ds.length<E4/\Q .non (ar M2 a (.lst (ds++[d])))
end
def ItW(n:Nat) (Vp:Nat->V->Prop):It:=⟨fun i _=>i<n,fun i H x H'=>H'=H/\Vp i x,fun i _=>n<=i⟩
theorem tu{P:J4}{w:O3}{K:u8}{tg:K4}{it:E5}{n:Nat}{Pv:Nat->s0->Prop}{St:Nat->I0->Prop}{ty:String}{Vp:Nat->V->Prop}
  (W:∀A:L8,A.handled=none->Walks P w A it [it] [it] n Pv St) (ho:∀i h,St i h->∃o,h.get? it=some o/\o.cls=.type ty/\∃vs,o.data=.fields vs)
  (hn:["enumerate","zip","dict_itemiterator","dict_reverseitemiterator","odict_iterator","itertools.zip_longest","itertools.pairwise"].contains ty=false)
  (hv:∀i u,Pv i u->∃x,aF x u/\Vp i x) (hself:∀(A:L8) (i:Nat) (s:E2) (Q:s0->E2->Prop) (E:s0->E2->Prop),St i s.heap->Q (.ref it) s->F6 (J9 P w) A (ao9 (.ref it)) Q E s):iB P w K tg (ItW n Vp) [it] it (fun i h=>i<=n/\St i h) where
 mem:=by simp
 obj:=fun i h st b hb=>by
  have e:b=it:=by simpa using hb
  subst e;obtain⟨o,e,c,vs,d⟩:=ho i h st.2;exact⟨o,e,fun v z=>by rw[d]at z;cases z⟩
 keep:=fun i h h' st k=>⟨st.1,(W { handled:=none } rfl).frame i h h' st.2 k⟩
 item:=by
  intro X hP hw hK hc i aa s σ H E I hf st hg;subst hP hw hK;obtain⟨f0,f1,f2,f3,f4,f5⟩:=hf it (by simp);refine(W X.A (I.ok.hd hc)).item i s _ _ hg st.2 fun v h' tk pv st' kk=>?_;have I1:Inv X aa σ H { s with heap:=h',toks:=tk }:=I.turned (fun b o hb e=>kk b o (by simpa using hb) e) f0 f1 f3 f4 f5;obtain⟨x,rx,vx⟩:=hv i v pv;obtain⟨o,e,c,vs,d⟩:=ho _ _ st';exact⟨v,rfl,oy (s:={ s with heap:=h',toks:=tk }) e c d hn ⟨x,H,I1,rx,⟨rfl,vx⟩,⟨hg,st'⟩,fun b hb=>(hf b hb).1⟩⟩
 done:=by
  intro X hP hw hK hc i aa s σ H E I hf st hg;subst hP hw hK;obtain⟨f0,f1,f2,f3,f4,f5⟩:=hf it (by simp);have e:i=n:=Nat.le_antisymm st.1 hg;subst e;exact(W X.A (I.ok.hd hc)).done s _ _ st.2 fun h' tk kk=>⟨rfl,I.turned (fun b o hb e=>kk b o (by simpa using hb) e) f0 f1 f3 f4 f5⟩
 self:=fun A i s Q E st h=>hself A i s Q E st.2 h
section
variable{X:Cx}{a b c e:K4}{es:List K4}{te ta tb:TEd}{t:TAd}{pos:Pos}{tg iter:K4}
noncomputable def fC(x:Str):List D:=x.cps.toList.map fun c=>.str ⟨#[c]⟩
theorem qL{aa:List (E5×Obj)}{σ:St}{H:Hp}{s:E2}{x:Str}{t:Tok}{R:It->Hp->Prop}(I:Inv X aa σ H s) (ty:String) (hn:["enumerate","zip","dict_itemiterator","dict_reverseitemiterator","odict_iterator","itertools.zip_longest","itertools.pairwise"].contains ty=false)
  (W:∀A:L8,A.handled=none->Walks X.prog X.w A s.heap.objs.size [s.heap.objs.size] [s.heap.objs.size] x.cps.size (SignAt x) (fun i h=>h.IsStrIter s.heap.objs.size ty x t i))
  (hself:∀(A:L8) (i:Nat) (s':E2) (Q:s0->E2->Prop) (E:s0->E2->Prop),s'.heap.IsStrIter s.heap.objs.size ty x t i->Q (.ref s.heap.objs.size) s'->F6 (J9 X.prog X.w) A (ao9 (.ref s.heap.objs.size)) Q E s')
  (q:R (ItW x.cps.size fun i v=>∃c,x.cps[i]?=some c/\v=.str ⟨#[c]⟩) H):PIE X aa σ tg R (.ref s.heap.objs.size) { s with heap:=s.heap.push { cls:=.type ty,data:=.fields #[.str x t,.int 0 0] } }:=by
 have I1:Inv X aa σ H { s with heap:=s.heap.push { cls:=.type ty,data:=.fields #[.str x t,.int 0 0] } }:=I.kept (t':=s.toks) fun b o e=>E1 _ e;refine⟨s.heap.objs.size,[s.heap.objs.size],_,_,H,rfl,I1,tu W (fun i h st=>?_) hn (fun i u ⟨c,t',e,ev⟩=>⟨.str ⟨#[c]⟩,⟨t',ev⟩,c,e,rfl⟩) hself,⟨O4 _,_,F0 _ rfl,rfl,rfl⟩,fun b hb=>?_,q⟩
 ·obtain⟨o,e,c,d⟩:=st;exact⟨o,e,c,_,d⟩
 ·have e:b=s.heap.objs.size:=by simpa using hb
  subst e;exact I.fpOk (F5 _) (I.hok.fresh (F5 _))
end
section
variable{X:Cx}{a b c e:K4}{es:List K4}{te ta tb:TEd}{t:TAd}{pos:Pos}
def eqF(x y:D):Option D:=if dLe x 60=true/\dLe y 60=true then some (.bl (eqD x y))else none
theorem vK{x y z:D}(h:eqF x y=some z):dLe x 60=true/\dLe y 60=true/\z=.bl (eqD x y):=by
 unfold eqF at h
 by_cases hc:dLe x 60=true/\dLe y 60=true
 ·rw[if_pos hc]at h;cases h;exact⟨hc.1,hc.2,rfl⟩
 ·rw[if_neg hc]at h;cases h
theorem gc(hu:X.A.units+64<ae6):bW X (Q9 .Eq) eqF:=by
 intro aa s σ H M x y v u dx dy dz Q I hr rx ry r1 r2 e k;obtain⟨h1,h2,rfl⟩:=vK e;exact(kc I 60 (A:=X.A) (by lia) h1 h2 r1 r2 rx ry).2.1 X.prog X.w X.xe _ ⟨.bl (eqD dx dy),H,I,rfl,k _ H (Ext.refl _ _) hr (by simp[Rep])⟩
def inD(neg:Bool) (x y:D):Option D:=match y with
 |.lst ds=>if bo x=true/\ds.all bo=true then some (.bl (xor neg (ds.any fun d=>eqD d x)))else none
 |.tup ds=>if bo x=true/\ds.all bo=true then some (.bl (xor neg (ds.any fun d=>eqD d x)))else none
 |_=>none
theorem Bi{K:u8}{M:DH}{H:Hp}{d:D}{v:V}(h:bo d=true) (r:Rep K M H d v):v=toV d/\fh v=true:=by
 cases d<;>first|(simp only[Rep]at r;subst r;exact⟨rfl,rfl⟩)|cases h
theorem xR{x y:D}(hx:bo x=true) (hy:bo y=true):eqV (toV x) (toV y)=eqD x y:=by
 cases x<;>cases y<;>first|(simp[bo]at hx;done)|(simp[bo]at hy;done)|(simp[toV,eqV,eqD];done)
theorem kh{K:u8}{M:DH}{H:Hp}{x:D}(hx:bo x=true):∀{ds:List D}{vs:List V},am K M H ds vs->ds.all bo=true->vs.all fh=true/\inV (toV x) vs=ds.any fun d=>eqD d x
 |[],_,h,_=>by simp only[am]at h;subst h;simp[inV]
 |d::ds,_,h,ha=>by
  simp only[am]at h;obtain⟨v,ws,rfl,h3,h4⟩:=h;rw[ai8,N7]at ha;obtain⟨e1,e2⟩:=Bi ha.1 h3;obtain⟨e3,e4⟩:=kh hx h4 ha.2;subst e1;refine⟨by rw[ai8,e2,e3];rfl,?_⟩;unfold inV at e4 ⊢;rw[X1,X1,e4,xR ha.1 hx]
theorem aN.scal{K:u8}{M:DH}{H:Hp}{d:D}{v:V}(h:bo d=true) (r:aN K M H d v):v=toV d/\fh v=true:=by
 cases d<;>first|(simp only[aN,Rep]at r;subst r;exact⟨rfl,rfl⟩)|cases h
theorem D6:bW X (Q9 .In) (inD false):=bW.of rP fun H M x y dx dy dz Q hr r1 r2 e q=>by
 cases dy with
 |lst ds =>
  simp only[inD]at e
  by_cases hc:bo dx=true/\ds.all bo=true
  ·rw[if_pos hc]at e;cases e;obtain⟨l,vs,rfl,sq,rl⟩:=r2;obtain⟨e1,e2⟩:=aN.scal hc.1 r1;obtain⟨e3,e4⟩:=kh hc.1 rl hc.2;subst e1;refine⟨l,vs,rfl,.inl (SqL.of sq),e2,e3,q _ H (Ext.refl _ _) hr ?_⟩;rw[e4];simp[Rep]
  ·rw[if_neg hc]at e;cases e
 |tup ds =>
  simp only[inD]at e
  by_cases hc:bo dx=true/\ds.all bo=true
  ·rw[if_pos hc]at e;cases e;obtain⟨l,vs,rfl,sq,rl⟩:=r2;obtain⟨e1,e2⟩:=aN.scal hc.1 r1;obtain⟨e3,e4⟩:=kh hc.1 rl hc.2;subst e1;refine⟨l,vs,rfl,.inr sq,e2,e3,q _ H (Ext.refl _ _) hr ?_⟩;rw[e4];simp[Rep]
  ·rw[if_neg hc]at e;cases e
 |_=>cases e
def nc(f:D->Option D):List D->Option D
 |[d]=>f d
 |_=>none
theorem md{K:u8}{M:DH}{H:Hp}{d:D}{xs:List V}(h:Z8 (aN K M H) [d] xs):∃v,xs=[v]/\aN K M H d v:=by
 cases h with
 |cons r t=>cases t;exact⟨_,rfl,r⟩
theorem c7{f:D->Option D}{ds:List D}{z:D}(h:nc f ds=some z):∃d,ds=[d]/\f d=some z:=by
 match ds,h with
 |[d],h=>exact⟨d,rfl,h⟩
noncomputable def iU:D->Option D
 |.tup ds=>some (.int ds.length)
 |.lst ds=>some (.int ds.length)
 |.scr ds=>some (.int ds.length)
 |.str x=>if x.length<=E4 then some (.int x.length)else none
 |_=>none
theorem bV:bh X (.builtin "len") (nc iU):=bh.of (cw.or mE mT) fun H M xs ds dz Q hr rp e q=>by
 obtain⟨d,rfl,e0⟩:=c7 e;clear e;have e:=e0;clear e0;obtain⟨v,rfl,r⟩:=md rp;cases d with
 |tup ds=>cases e;obtain⟨l,vs,rfl,sq,rl⟩:=r;exact .inl ⟨l,vs,rfl,.inr sq,q _ H (Ext.refl _ _) hr (by rw[<-rl.length];simp[Rep])⟩
 |lst ds=>cases e;obtain⟨l,vs,rfl,sq,rl⟩:=r;exact .inl ⟨l,vs,rfl,.inl (SqL.of sq),q _ H (Ext.refl _ _) hr (by rw[<-rl.length];simp[Rep])⟩
 |scr ds=>cases e;obtain⟨l,vs,rfl,sq,rl⟩:=r;exact .inl ⟨l,vs,rfl,.inl sq,q _ H (Ext.refl _ _) hr (by rw[<-rl.length];simp[Rep])⟩
 |str x =>
  simp only[iU]at e
  by_cases hz:x.length<=E4
  ·rw[if_pos hz]at e;cases e;exact .inr ⟨x,by rw[oS r],hz,q _ H (Ext.refl _ _) hr (by simp[Rep])⟩
  ·rw[if_neg hz]at e;cases e
 |_=>cases e
def B2:D->Option D
 |.int i=>some (.int (if i<0 then -i else i))
 |_=>none
theorem B5:bh X (.builtin "abs") (nc B2):=bh.of u7 fun H M xs ds dz Q hr rp e q=>by
 obtain⟨d,rfl,e0⟩:=c7 e;clear e;have e:=e0;clear e0;obtain⟨v,rfl,r⟩:=md rp;cases d with
 |int i=>cases e;exact⟨i,by rw[dq r],q _ H (Ext.refl _ _) hr (by simp[Rep])⟩
 |_=>cases e
def Ad:D->Option D
 |.lst ds=>some (.tup ds)
 |.tup ds=>some (.tup ds)
 |_=>none
theorem cK:bh X (.type "tuple") (nc Ad):=bh.of kq fun H M xs ds dz Q hr rp e q=>by
 obtain⟨d,rfl,e0⟩:=c7 e;clear e;have e:=e0;clear e0;obtain⟨v,rfl,r⟩:=md rp;cases d with
 |lst ds=>cases e;obtain⟨l,vs,rfl,sq,rl⟩:=r;exact⟨l,vs,rfl,.inl ⟨SqL.of sq,fun p hp=>iz hr hp rl q⟩⟩
 |tup ds=>cases e;have t1:=aN.tup hr r;obtain⟨l,vs,rfl,sq,rl⟩:=r;exact⟨l,vs,rfl,.inr ⟨sq,q _ H (Ext.refl _ _) hr t1⟩⟩
 |_=>cases e
def uM:D->Bool
 |.bl _=>true
 |_=>false
def sg:D->Bool
 |.bl b=>b
 |_=>false
def v9:D->Option D
 |.lst ds=>if ds.all uM=true then some (.bl (ds.all sg))else none
 |_=>none
theorem tD{p:Nat->Bool}{q:D->Bool}:∀{ds:List D},(∀i d,ds[i]?=some d->p i=q d)->(W3 ds.length).all p=ds.all q:=by
 intro ds h;rw[W0,S9,S9];constructor
 ·intro hh d hd;obtain⟨i,hi,e⟩:=X0.mp hd;rw[<-h i d (by rw[H0 hi,e])];exact hh i (ah8.mpr hi)
 ·intro hh i hi;have hi:=ah8.mp hi;rw[h i ds[i] (by simp[hi])];exact hh _ (W6 hi)
theorem ug{K:u8}{M:DH}{H:Hp}{ds:List D}{vs:List V}{us:List s0}(rl:am K M H ds vs) (rv:ax vs us) (hb:ds.all uM=true) {i:Nat}{u:s0}(h:us[i]?=some u):∃d,ds[i]?=some d/\u=.bool (sg d):=by
 have hi:i<ds.length:=by rw[rl.length,rv.length];exact(F4.mp h).1
 obtain⟨v,g,r⟩:=rl.get (i:=i) (d:=ds[i]) (by simp[hi]);obtain⟨u',g',r'⟩:=rv.get g;rw[h]at g';cases g';have hbi:=S9.mp hb ds[i] (W6 hi);refine⟨ds[i],by simp[hi],?_⟩;cases q:ds[i]with
 |bl b=>rw[q]at r;simp only[Rep]at r;subst r;exact r'
 |_=>rw[q]at hbi;cases hbi
theorem yI(hc:X.calm=true):bh X (.builtin "all") (nc v9):=by
 intro aa s σ H M xs us ds dz Q I hr rv rp e k;obtain⟨d,rfl,e0⟩:=c7 e;clear e;have e:=e0;clear e0;obtain⟨v,rfl,r⟩:=md rp;obtain⟨u,rfl,ru⟩:=ax.one rv;cases d with
 |lst ds =>
  simp only[v9]at e
  by_cases hb:ds.all uM=true
  ·rw[if_pos hb]at e;cases e;obtain⟨l,vs,rfl,sq,rl⟩:=r;cases ru;obtain⟨its,rv,pl,hz⟩:=I.list (SqL.of sq);have hne:l≠s.heap.objs.size:=F8 (I.hok.lt sq);refine call_all_walk (X6 pl.isList ⟨s.heap.objs.size,[s.heap.objs.size,l],[s.heap.objs.size],its.toArray.size,_,_,fun i=>(ds[i]?.map sg).getD false,rfl,Walks.list (A:=X.A.in1) (show X.A.in1.handled=none from I.ok.hd hc) s.heap.objs.size l hne its.toArray,⟨⟨_,F0 _ rfl,rfl,rfl⟩,?_⟩,fun i v s' Q' E' hv q=>?_,fun h' tk kk=>?_⟩)
   ·obtain⟨o,e,c⟩:=pl.isList;exact⟨o,E1 _ e,c⟩
   ·obtain⟨d,hd,rfl⟩:=ug rl rv hb (i:=i) (u:=v) (by simpa using hv);dsimp only at q;rw[hd]at q;exact ab7 q
   ·have I1:Inv X aa σ H { s with heap:=h',toks:=tk }:=I.kept (t':=tk) fun b o e=>kk b o (by simpa using F8 (F2 e)) (E1 _ e);refine⟨.bl _,H,I1,rfl,k _ H (Ext.refl _ _) hr ?_⟩;rw[F1,<-rv.length,<-rl.length,tD (q:=sg) (fun i d hd=>by simp[hd])];simp[Rep]
  ·rw[if_neg hb]at e;cases e
 |_=>cases e
end
section
variable{X:Cx}{a b c e:K4}{es:List K4}{te ta tb:TEd}{t:TAd}{pos:Pos}
noncomputable def xG(T:String):D->Option Bool
 |.non=>some false
 |.bl _=>some (T=="bool" || T=="int")
 |.int _=>some (T=="int")
 |.str _=>some (T=="str")
 |.tup _=>some (T=="tuple")
 |.lst _=>some (T=="list")
 |.emp=>some (T=="dict")
 |_=>none
def okT(T:String):Bool:=T=="bool" || T=="int" || T=="str" || T=="tuple" || T=="list"
def Dh(T:String) (te:TEd):TEd:=fun Δ M Q=>te Δ M fun d M1=>∃k,xG T (rdM M1 d)=some k/\Q (.bl k) M1
theorem so{T:String}(hT:okT T=true) {aa:List (E5×Obj)}{s:E2}{σ:St}{H:Hp}{M:DH}{v:V}{u:s0}{d:D}{k:Bool}{Q:VK}(I:Inv X aa σ H s) (r:aF v u) (rd:aN X.K M H d v) (e:xG T d=some k) (q:Q (.bl k) H) :
  F6 (J9 X.prog X.w) X.A (ap2 (.builtin "isinstance") [u,.type T]) (EP X aa σ Q) X.xe s:=by
 have fin:∀{k'} ,k=k'->EP X aa σ Q (.bool k') s:=fun e=>by subst e;exact⟨.bl k,H,I,rfl,q⟩
 have fint:∀{k'} ,k=k'->EP X aa σ Q (.bool k') { s with toks:=s.toks+1 }:=fun e=>by subst e;exact⟨.bl k,H,I.tok _,rfl,q⟩
 have h5:T="bool"∨T="int"∨T="str"∨T="tuple"∨T="list":=by
  simp[okT]at hT;rcases hT with(((h|h)|h)|h)|h<;>simp[h]
 cases d with
 |non =>
  simp only[aN,Rep]at rd;subst rd;simp only[aF]at r;subst r;cases e;rcases h5 with rfl|rfl|rfl|rfl|rfl
  ·exact IsiPair.NoneType_bool (fint rfl)
  ·exact IsiPair.NoneType_int (fint rfl)
  ·exact IsiPair.NoneType_str (fint rfl)
  ·exact IsiPair.NoneType_tuple (fint rfl)
  ·exact IsiPair.NoneType_list (fint rfl)
 |bl b =>
  simp only[aN,Rep]at rd;subst rd;simp only[aF]at r;subst r;cases e;rcases h5 with rfl|rfl|rfl|rfl|rfl
  ·exact IsiPair.bool_bool (fin rfl)
  ·exact IsiPair.bool_int (fin rfl)
  ·exact IsiPair.bool_str (fint rfl)
  ·exact IsiPair.bool_tuple (fint rfl)
  ·exact IsiPair.bool_list (fint rfl)
 |int i =>
  simp only[aN,Rep]at rd;subst rd;obtain⟨t,rfl⟩:=r;cases e;rcases h5 with rfl|rfl|rfl|rfl|rfl
  ·exact IsiPair.int_bool (fint rfl)
  ·exact IsiPair.int_int (fin rfl)
  ·exact IsiPair.int_str (fint rfl)
  ·exact IsiPair.int_tuple (fint rfl)
  ·exact IsiPair.int_list (fint rfl)
 |str x =>
  simp only[aN,Rep]at rd;subst rd;obtain⟨t,rfl⟩:=r;cases e;rcases h5 with rfl|rfl|rfl|rfl|rfl
  ·exact IsiPair.str_bool (fint rfl)
  ·exact IsiPair.str_int (fint rfl)
  ·exact IsiPair.str_str (fin rfl)
  ·exact IsiPair.str_tuple (fint rfl)
  ·exact IsiPair.str_list (fint rfl)
 |tup ds =>
  obtain⟨a,vs,rfl,sq,rl⟩:=rd;cases r;cases e;obtain⟨its,rv,⟨o,ho,hc,_⟩,_⟩:=I.tuple sq;rcases h5 with rfl|rfl|rfl|rfl|rfl
  ·exact IsiPair.tuple_bool ho hc (fint rfl)
  ·exact IsiPair.tuple_int ho hc (fint rfl)
  ·exact IsiPair.tuple_str ho hc (fint rfl)
  ·exact IsiPair.tuple_tuple ho hc (fin rfl)
  ·exact IsiPair.tuple_list ho hc (fint rfl)
 |lst ds =>
  obtain⟨a,vs,rfl,sq,rl⟩:=rd;cases r;cases e;obtain⟨its,rv,⟨o,n,ho,hc,_⟩,_⟩:=I.list (SqL.of sq);rcases h5 with rfl|rfl|rfl|rfl|rfl
  ·exact IsiPair.list_bool ho hc (fint rfl)
  ·exact IsiPair.list_int ho hc (fint rfl)
  ·exact IsiPair.list_str ho hc (fint rfl)
  ·exact IsiPair.list_tuple ho hc (fint rfl)
  ·exact IsiPair.list_list ho hc (fin rfl)
 |emp =>
  simp only[aN,Rep]at rd;obtain⟨a,rfl,h1,_⟩:=rd;cases r;cases e;obtain⟨_,_,_,_,o,es,ep,ho,ex,_⟩:=I.hok a _ h1;rcases h5 with rfl|rfl|rfl|rfl|rfl
  ·exact IsiPair.dict_bool ho ex.1 (fint rfl)
  ·exact IsiPair.dict_int ho ex.1 (fint rfl)
  ·exact IsiPair.dict_str ho ex.1 (fint rfl)
  ·exact IsiPair.dict_tuple ho ex.1 (fint rfl)
  ·exact IsiPair.dict_list ho ex.1 (fint rfl)
 |_=>cases e
abbrev TOd:=DE->DH->(Option Int->DH->Prop)->Prop
def upO(K:u8) (t:TOd):TO:=fun σ H Q=>∃(Δ:DE) (M:DH) (R:Option Int->DH->Prop),SR K M H σ Δ/\HR K M H/\t Δ M R/\∀i M' H',R i M'->Ext M H M' H'->HR K M' H'->Q i H'
theorem upO.el{K:u8}{t:TOd}{σ:St}{H:Hp}{Q:Option Int->Hp->Prop}{P:Prop}(h:upO K t σ H Q) (f:∀(Δ:DE) (M:DH) (R:Option Int->DH->Prop),SR K M H σ Δ->HR K M H->t Δ M R->(∀i M' H',R i M'->Ext M H M' H'->HR K M' H'->Q i H')->P):P:=by
 obtain⟨x1,x2,x3,a,b,c,d⟩:=h;exact f x1 x2 x3 a b c d
def POd(X:Cx) (e:Option K4) (t:TOd):Prop:=PO X e (upO X.K t)
def mD:TOd:=fun _ M Q=>Q none M
def uY(t:TEd):TOd:=fun Δ M Q=>t Δ M fun d M1=>∃i,d=.int i/\Q (some i) M1
theorem PO.conv{e:Option K4}{t t':TO}(h:PO X e t) (k:∀ σ H Q,t' σ H Q->t σ H Q):PO X e t':=fun p s σ H Q I q=>h p s σ H Q I (k σ H Q q)
theorem yp:POd X none mD:=yh.conv fun σ H Q hup=>hup.el fun Δ M R sr hr q k=>k none M H q (Ext.refl _ _) hr
theorem wL(h:PEd X e te):POd X (some e) (uY te):=(xO h).conv fun σ H Q hup=>hup.el fun Δ M R sr hr q k=>⟨Δ,M,_,sr,hr,q,fun d M1 v H1 ⟨i,ed,q1⟩ e1 hr1 rv=>⟨i,by subst ed;simpa only[Rep]using rv,k _ M1 H1 q1 e1 hr1⟩⟩
def b7(xs:List D) (lo hi:Option Int):List D:=(xs.drop (HT.sIx xs.length 0 lo)).take (HT.sIx xs.length xs.length hi-HT.sIx xs.length 0 lo)
def slD:D->Option Int->Option Int->Option D
 |.lst ds,lo,hi=>some (.lst (b7 ds lo hi))
 |.scr ds,lo,hi=>some (.lst (b7 ds lo hi))
 |.str x,lo,hi=>if x.length<=E4 then some (.str (am4 x lo hi))else none
 |.tup ds,lo,hi=>if HT.sIx ds.length 0 lo=0/\HT.sIx ds.length ds.length hi=ds.length then none else some (.tup (b7 ds lo hi))
 |_,_,_=>none
def DY:V->Option Int->Option Int->Hp->VK->Prop:=fun x lo hi H Q=>∃z,x=.str z/\z.length<=E4/\Q (.str (am4 z lo hi)) H
theorem uc:SlR X DY:=by
 intro aa s σ H x v vl vu lo hi sl Q I rx hs pl pu h;obtain⟨z,rfl,hz,q⟩:=h;obtain⟨t,rfl⟩:=rx;refine⟨"str",_,PySem.F.slot_str_getitem.lookup,typeIs_str _ _ _,?_⟩;have fin:∀(t':Tok) (k:Nat),EP X aa σ Q (.str (am4 z lo hi) t') { s with toks:=k }:=fun t' k=>⟨.str (am4 z lo hi),H,I.tok _,⟨t',rfl⟩,q⟩;cases pl with
 |none =>
  cases pu with
  |none=>exact ac5 (l:=none) (u:=none) (st:=none) hs rfl (aj6 ⟨Q0 (am5 z _ _) hz,fin⟩)
  |int j tj=>exact ac5 (l:=none) (u:=some (j,tj)) (st:=none) hs rfl (aj6 ⟨Q0 (am5 z _ _) hz,fin⟩)
 |int i ti =>
  cases pu with
  |none=>exact ac5 (l:=some (i,ti)) (u:=none) (st:=none) hs rfl (aj6 ⟨Q0 (am5 z _ _) hz,fin⟩)
  |int j tj=>exact ac5 (l:=some (i,ti)) (u:=some (j,tj)) (st:=none) hs rfl (aj6 ⟨Q0 (am5 z _ _) hz,fin⟩)
end
def cg(names:List (Str×R5)) (cells:List (Str×E5)):List (Str×E5):=(names.filterMap fun y=>if y.2==.free then(cells.lookup y.1).map fun c=>(y.1,c)else none).reverse
noncomputable def eE(env:Env) (y:Str×R5) (cs:List (Str×E5)):Sem (ForInStep (List (Str×E5))):=if(y.2==.free)=true then(do let c <-cellOf env y.1;ad0 (T9 ((y.1,c)::cs)))else ad0 (T9 cs)
theorem ir{env:Env}:∀(names:List (Str×R5)) (acc:List (Str×E5)),(∀y∈names,y.2=.free->(env.cells.lookup y.1).isSome=true) ->
  (forIn names acc (eE env):Sem (List (Str×E5)))=ad0 (cg names env.cells++acc)
 |[],acc,_=>by simp[cg]
 |y::r,acc,h=>by
  rw[List.forIn_cons]
  by_cases hk:(y.2==V6)=true
  ·have hs:=h y P0 (by simpa using hk);obtain⟨c,hc⟩:=T5.mp hs;have e1:eE env y acc=ad0 (T9 ((y.1,c)::acc)):=by
    unfold eE cellOf;rw[if_pos hk,hc];simp only[ap5]
   rw[e1];simp only[ap5];rw[ir r ((y.1,c)::acc) fun y hy=>h y (F7 _ hy)];have e2:cg (y::r) env.cells=cg r env.cells++[(y.1,c)]:=by
    unfold cg;rw[X8,if_pos hk,hc];simp
   rw[e2];simp
  ·have e1:eE env y acc=ad0 (T9 acc):=by
    unfold eE;rw[if_neg hk]
   rw[e1];simp only[ap5];rw[ir r acc fun y hy=>h y (F7 _ hy)];have e2:cg (y::r) env.cells=cg r env.cells:=by
    unfold cg;rw[X8,if_neg hk]
   rw[e2]
theorem rG{scope:aa5}{env:Env}(h:∀y∈scope.names,y.2=.free->(env.cells.lookup y.1).isSome=true):closureFor scope env=ad0 (cg scope.names env.cells):=by
 have:=ir (env:=env) scope.names [] h;simp only[R7]at this;show(forIn scope.names [] (eE env) >>= fun cs=>ad0 cs)=_;rw[this];simp only[ap5]
theorem oW{cells:List (Str×E5)}{names:List (Str×R5)}{x:Str}{c:E5}(h:(cg names cells).lookup x=some c):cells.lookup x=some c:=by
 have hm:=P8 h;unfold cg at hm;rw[List.mem_reverse,S4]at hm;obtain⟨y,_,e⟩:=hm
 split at e
 ·cases q:cells.lookup y.1 with
  |none=>rw[q]at e;cases e
  |some c'=>rw[q]at e;cases e;exact q
 ·cases e
theorem dv:∀{l:List (Str×E5)}{x:Str}{c:E5},(x,c)∈l->∃c',l.lookup x=some c'
 |(y,d)::l,x,c,h=>by
  rw[P2];cases q:x==y with
  |true=>exact⟨d,by simp⟩
  |false =>
   rcases E9.mp h with e|h
   ·cases e;simp at q
   ·simpa using dv h
theorem vm{cells:List (Str×E5)}{names:List (Str×R5)}{x:Str}(h:names.lookup x=some .free) (hs:(cells.lookup x).isSome=true):∃c,(cg names cells).lookup x=some c:=by
 obtain⟨c,hc⟩:=T5.mp hs;refine dv (c:=c) ?_;unfold cg;rw[List.mem_reverse,S4];exact⟨(x,.free),P8 h,by simp[hc]⟩
noncomputable def aT(fs:aa5) (N:List Str) (scope:aa5) (ms:List Bool):Bool :=
 scope.kind==.function&&scope.names.all (fun y=>y.2 != .cell)&&scope.names.all (fun y=>y.2 != .local || scope.names.lookup y.1==some .local) &&
 scope.names.all (fun y=>y.2 != .free || fs.names.lookup y.1==some .cell)&&(ms.zip N).all (fun y=>!y.1 || scope.names.lookup y.2==some .free)&&decide (ms.length<=N.length)
theorem aM{X:Cx}{scope:aa5}{ms:List Bool}{ao:List Str}{n0:Nat}(hX:X.env.cells=ap4 n0 X.env.scope.names []) (c:aT X.env.scope X.N scope ms=true):cC X scope (cg scope.names X.env.cells) ms ao:=by
 unfold aT at c;simp only[N7,S9,decide_eq_true_eq]at c;obtain⟨⟨⟨⟨⟨c1,c2⟩,c3⟩,c4⟩,c5⟩,c6⟩:=c;have fr:∀x,(x,V6)∈scope.names->X.env.scope.names.lookup x=some .cell:=fun x hx=>by
  have:=c4 _ hx;simpa using this
 have cs:∀x,(x,V6)∈scope.names->(X.env.cells.lookup x).isSome=true:=fun x hx=>by
  rw[hX];exact PySem.W.cellsFrom_some _ _ _ (.inl (fr x hx))
 refine⟨by simpa using c1,fun y hy e=>?_,fun y hy e=>?_,rG fun y hy e=>?_,fun x c h=>oW h,fun x h=>vm h (cs x (P8 h)),fun x h=>.inl (fr x (P8 h)),fun i x h1 h2=>?_,c6⟩
 ·have:=c2 y hy;rw[e]at this;simp at this
 ·have:=c3 y hy;simpa[e]using this
 ·obtain⟨a,b⟩:=y;cases e;exact cs a hy
 ·have:=c5 (true,x) (by
   rw[List.mem_iff_getElem?];exact⟨i,by rw[List.getElem?_zip_eq_some];exact⟨h1,h2⟩⟩)
  simpa using this
structure FnD(P:J4) (w:O3) (K:u8) (mg:Str->Option s0) (base:I0) (x:Str) (k n:Nat) (S:SpD):Prop where
 ex:∃(f:E5) (fd:K1) (ps:List Str),aO P w K mg base CX0 k f fd ps (spD K n S)/\mg x=some (.ref f)/\S5 K (.ref f)=true/\bQ K fd ps []
section
variable{X:Cx}{e:K4}{es:List K4}{t:TAd}{pos p:Pos}{x:Str}{k n:Nat}{S:SpD}
theorem dc(F:FnD X.prog X.w X.K X.mg X.base x k n S) (hr:bt k X.A) (hg:Gl X x) (ha:PAd X (e::es) t) (hdb:(x==("__debug__":Str))=false:=by decide) (he:E8 (e::es) X.env=(false,Z4 e X.env)::E8 es X.env:=by rfl) (hpl:(V0 pos (E8 es X.env)).any (·.1)=false:=by rfl) :
  PEd X (.Call (.Name x p) (e::es) [] pos) (oH n S t):=by
 obtain⟨f,fd,ps,h1,h2,h3,h4⟩:=F.ex;exact BC h1 hr hg h2 h3 h4 ha hdb he hpl
end
section
variable{X:Cx}{a b c e:K4}{es:List K4}{te ta tb:TEd}{t:TAd}{pos:Pos}{tg iter:K4}
def yY(te:TEd):TSd:=fun E Δ M=>te Δ M fun d M1=>∃a ds,d=.ref a/\M1 a=some (.lst ds)/\E.rt (.lst ds) (fR M1 a)
theorem AO:Cf X (unaryOp .USub) (fun d=>match d with|.int i=>some (.int (-i))|_=>none):=by
 intro aa s σ H M x v dx dz Q I hr rx r1 e k;cases dx with
 |int i=>cases e;exact A9 aa s σ H x v Q I rx ⟨i,dq r1,k _ H (Ext.refl _ _) hr (by simp[Rep])⟩
 |_=>cases e
def gh:D->Option (List D)
 |.tup ds=>some ds
 |.lst ds=>some ds
 |.scr ds=>some ds
 |.str x=>if x.length<=E4 then some (fC x)else none
 |_=>none
def vy(te:TEd):TId:=fun Δ M R=>te Δ M fun d M1=>∃ds,gh d=some ds/\(ds.length<=E4->R ds M1)
theorem pT{aa:List (E5×Obj)}{σ:St}{H:Hp}{s:E2}{o:Obj}(I:Inv X aa σ H s):∀b∈[s.heap.objs.size],cA X aa H b:=fun b hb=>by
 have e:b=s.heap.objs.size:=by simpa using hb
 subst e;exact I.fpOk (F5 _) (I.hok.fresh (F5 _))
theorem Aq{K:u8}{x:Str}{M1:DH}{H1:Hp}:ItD K (ItW x.cps.size fun i v=>∃c,x.cps[i]?=some c/\v=.str ⟨#[c]⟩) (fC x) M1 H1:=fun M2 H2 e2 hr2 i=>⟨fun d hd=>by
  unfold fC at hd;rw[L7]at hd;cases q:x.cps.toList[i]? with
  |none=>rw[q]at hd;cases hd
  |some c =>
   rw[q]at hd;cases hd;have hc:x.cps[i]?=some c:=by simpa using q
   refine⟨?_,fun y H' ⟨eH,c',hc',ey⟩=>?_⟩
   ·exact(N1.mp hc).1
   ·subst eH;subst ey;rw[hc]at hc';cases hc';exact⟨Ext.refl _ _,hr2,by simp[Rep]⟩,fun hl=>by
  show x.cps.size<=i;simpa[fC]using hl⟩
end
section
variable{M:DH}
theorem mU{i:Int}:rdM M (.int i)=.int i:=rfl
theorem zN{i:Bool}:rdM M (.bl i)=.bl i:=rfl
theorem gU{i:Str}:rdM M (.str i)=.str i:=rfl
theorem wQ:rdM M .non=.non:=rfl
theorem xb{i:List D}:rdM M (.tup i)=.tup i:=rfl
theorem yf{i:List D}:rdM M (.lst i)=.lst i:=rfl
theorem xa{i:List D}:rdM M (.scr i)=.scr i:=rfl
theorem dF{a:E5}{ds:List D}(h:M a=some (.lst ds)):rdM M (.ref a)=.lst ds:=by simp[rdM,h]
theorem xw{a:E5}{ds:List D}:rdM (ar M a (.lst ds)) (.ref a)=.lst ds:=dF aq
theorem Am{f:Int->Int->Option D}{a b:Int}:iOp f (.int a) (.int b)=f a b:=rfl
theorem xH{a b:Int}:iS (.int a) (.int b)=some (.int (a+b)):=rfl
theorem je{a b:Str}:iS (.str a) (.str b)=if a.length+b.length<=E4 then some (.str (a++b))else none:=rfl
theorem xy{a b:List D}:iS (.lst a) (.lst b)=if a.length+b.length<=E4 then some (.lst (a++b))else none:=rfl
theorem qz{a b:List D}:iS (.tup a) (.tup b)=if a.length+b.length<=E4 then some (.tup (a++b))else none:=rfl
theorem Ce{a:List D}{b:Int}:ixD (.lst a) (.int b)=atI a b:=rfl
theorem CC{a:List D}{b:Int}:ixD (.scr a) (.int b)=atI a b:=rfl
theorem BN{a:List D}{b:Int}:ixD (.tup a) (.int b)=atI a b:=rfl
theorem y9{z:Str}{i:Int}:ixD (.str z) (.int i)=if z.length<=E4 then(atI z.cps.toList i).map fun c=>.str ⟨#[c]⟩else none:=rfl
theorem B3{α:Type}{x:α}{xs:List α}:atI (x::xs) 0=some x:=bK (j:=0) rfl
theorem Dt{α:Type}{x y:α}{xs:List α}:atI (x::y::xs) 1=some y:=bK (j:=1) rfl
theorem BM{α:Type}{x y z:α}{xs:List α}:atI (x::y::z::xs) 2=some z:=bK (j:=2) rfl
theorem uj{f:D->Option D}{d:D}:nc f [d]=f d:=rfl
theorem Ar{a:List D}:iU (.lst a)=some (.int a.length):=rfl
theorem Af{a:List D}:iU (.tup a)=some (.int a.length):=rfl
theorem Ak{a:List D}:iU (.scr a)=some (.int a.length):=rfl
theorem AI{x:Str}:iU (.str x)=if x.length<=E4 then some (.int x.length)else none:=rfl
theorem A4{i:Int}:B2 (.int i)=some (.int (if i<0 then -i else i)):=rfl
theorem Aw{a:List D}:Ad (.lst a)=some (.tup a):=rfl
theorem zL{a:List D}:Ad (.tup a)=some (.tup a):=rfl
theorem Cy{b:Bool}{x:D}{ds:List D}:inD b x (.lst ds)=if bo x=true/\ds.all bo=true then some (.bl (xor b (ds.any fun d=>eqD d x)))else none:=rfl
theorem CQ{b:Bool}{x:D}{ds:List D}:inD b x (.tup ds)=if bo x=true/\ds.all bo=true then some (.bl (xor b (ds.any fun d=>eqD d x)))else none:=rfl
theorem Ag{a b:Int}:eqF (.int a) (.int b)=some (.bl (a==b)):=by simp[eqF,dLe,eqD]
theorem Bb{a b:Str}:eqF (.str a) (.str b)=some (.bl (a==b)):=by simp[eqF,dLe,eqD]
theorem AU{a b:Bool}:eqF (.bl a) (.bl b)=some (.bl (a==b)):=by simp[eqF,dLe,eqD]
theorem Dq{ds:List D}{lo hi:Option Int}:slD (.scr ds) lo hi=some (.lst (b7 ds lo hi)):=rfl
theorem BS{ds:List D}{lo hi:Option Int}:slD (.lst ds) lo hi=some (.lst (b7 ds lo hi)):=rfl
theorem Da{x:Str}{lo hi:Option Int}:slD (.str x) lo hi=if x.length<=E4 then some (.str (am4 x lo hi))else none:=rfl
theorem tL{a:List D}:gh (.lst a)=some a:=rfl
theorem wx{a:List D}:gh (.tup a)=some a:=rfl
theorem uo{a:List D}:gh (.scr a)=some a:=rfl
theorem vN{x:Str}:gh (.str x)=if x.length<=E4 then some (fC x)else none:=rfl
theorem Dr{n:Nat}:ixN (n+1) 0=some 0:=by simp[ixN]<;>omega
theorem B6{n:Nat}:ixN (n+2) 1=some 1:=by simp[ixN]<;>omega
theorem BW{n:Nat}:ixN (n+3) 2=some 2:=by simp[ixN]<;>omega
theorem sz3(n:Nat) (h:n<=1000:=by decide):n<=E4:=Q0 h (by decide)
theorem zJ{b:Bool}:xG "bool" (.bl b)=some true:=rfl
end
end L2
namespace L2
theorem vA{i j:Int}(h:-18446744073709551616<j/\j<18446744073709551616):fA i j=True:=by unfold fA;simp;right;omega
theorem CI{i j:Int}(h:-18446744073709551616<i/\i<18446744073709551616):fA i j=True:=by unfold fA;simp;left;omega
theorem ux:nh 10 18=True:=by simp[nh]
theorem C6{i j:Int}(h:0<j/\j<1073741824):jq i j=True:=by unfold jq;simp[h]
end L2
namespace L2
open PySem PySem.Spec PyProof.Rows
theorem gn{g:GD}{tc:TTd}{te:TEd}{M:DH}{Q:List D->DH->Prop}(b:D->Bool) (y:D->D) (Ok:DE->Prop):∀(ds:List D) (Δ:DE) (acc:List D),
  (∀d∈ds,∀ Δ,Ok Δ->∃ Δ',g d Δ=some Δ'/\Ok Δ'/\(∀Q1:Bool->DH->Prop,Q1 (b d) M->tc Δ' M Q1)/\(b d=true->∀Q2:D->DH->Prop,Q2 (y d) M->te Δ' M Q2))->Ok Δ ->
  Q (acc++(ds.filter b).map y) M->cy g tc te ds Δ M acc Q
 |[],Δ,acc,_,_,q=>by simpa[cy]using q
 |d::ds,Δ,acc,h,hΔ,q=>by
  simp only[cy];obtain⟨Δ',eg,ok,h1,h2⟩:=h d P0 Δ hΔ;refine⟨Δ',eg,h1 _ ?_⟩;have hr:∀d∈ds,∀ Δ,Ok Δ->∃ Δ',g d Δ=some Δ'/\Ok Δ'/\(∀Q1:Bool->DH->Prop,Q1 (b d) M->tc Δ' M Q1)/\(b d=true->∀Q2:D->DH->Prop,Q2 (y d) M->te Δ' M Q2):=fun x hx=>h x (F7 _ hx);cases hb:b d with
  |true =>
   simp only[if_true];refine h2 hb _ (gn b y Ok ds Δ' (acc++[y d]) hr ok ?_);simpa[List.filter_cons,hb]using q
  |false =>
   simp only[K8,if_false];refine gn b y Ok ds Δ' acc hr ok ?_;simpa[List.filter_cons,hb]using q
section
variable{X:Cx}{e:K4}{te:TEd}{pos:Pos}
def zu(te:TEd):TSd:=fun E Δ M=>te Δ M fun d M1=>∃M2,LeM M2 M1/\E.rt d M2
theorem rh{M:DH}{q:E5}{o:HD}(h:M q=none):LeM M (ar M q o):=fun a u e=>by
 by_cases ha:a=q
 ·subst ha;rw[h]at e;cases e
 ·rw[au ha];exact e
end
end L2
namespace L2
open PySem PySem.Spec PyProof.Rows PySem.Builtin.Str
def tx(cs:List Nat):Str:=⟨cs.toArray⟩
theorem mJ(cs:List Nat):(tx cs).cps.toList=cs:=by simp[tx]
theorem mH(a b:List Nat):tx a++tx b=tx (a++b):=by
 show Str.mk (a.toArray++b.toArray)=_;simp[tx]
theorem fL{α:Type} [DecidableEq α]:∀(V K:List α),V.Nodup->(∀x∈V,x∈K)->V.length<=K.length
 |[],_,_,_=>O4 _
 |x::V,K,hn,h=>by
  have hx:=h x P0;obtain⟨h1,h2⟩:=ad7.mp hn;have:=fL V (K.erase x) h2 fun y hy=>(List.mem_erase_of_ne (by rintro rfl;exact h1 hy)).mpr (h y (F7 _ hy));rw[List.length_erase_of_mem hx]at this;have hp:0<K.length:=List.length_pos_of_mem hx;simp only[N6]
  lia
abbrev abc:Str:=L4 "abcdefghijklmnopqrstuvwxyz"
def kU:List Nat:=List.range' 97 26
theorem AA:abc=tx kU:=by decide +kernel
end L2
namespace L2
open PySem PySem.Spec PyProof.Rows
theorem lE{g:GD}{tb:TSd}{E:cP}{all:List D}(I:Nat->DE->DH->Prop)
  (step:∀(i:Nat) (d:D) (Δ:DE) (M:DH) (X:DE->DH->Prop),all[i]?=some d->I i Δ M->(∀ Δ' M',I (i+1) Δ' M'->X Δ' M')->∃ Δ',g d Δ=some Δ'/\tb { E with nx:=X,ct:=X,bk:=E.nx } Δ' M)
  (fin:∀ Δ M,I all.length Δ M->E.nx Δ M):∀(ds:List D) (i:Nat) (Δ:DE) (M:DH),all.drop i=ds->i<=all.length->I i Δ M->cE g tb E ds Δ M
 |[],i,Δ,M,e,hi,h=>by
  have:i=all.length:=by
   have:=congrArg V3 e;simp at this;lia
  subst this;simpa only[cE]using fin Δ M h
 |d::ds,i,Δ,M,e,hi,h=>by
  have hlt:i<all.length:=by
   have:=congrArg V3 e;simp at this;lia
  have hd:all[i]?=some d:=by
   have:=congrArg List.head? e;simpa using this
  have hn:all.drop (i+1)=ds:=by
   rw[<-List.tail_drop,e];rfl
  simp only[cE];exact step i d Δ M _ hd h fun Δ' M' h'=>lE I step fin ds (i+1) Δ' M' hn hlt h'
theorem aQ{g:GD}{tb:TSd}{E:cP}{ds:List D}{Δ:DE}{M:DH}(I:Nat->DE->DH->Prop) (h0:I 0 Δ M)
  (step:∀(i:Nat) (d:D) (Δ:DE) (M:DH) (X:DE->DH->Prop),ds[i]?=some d->I i Δ M->(∀ Δ' M',I (i+1) Δ' M'->X Δ' M')->∃ Δ',g d Δ=some Δ'/\tb { E with nx:=X,ct:=X,bk:=E.nx } Δ' M)
  (fin:∀ Δ M,I ds.length Δ M->E.nx Δ M):cE g tb E ds Δ M:=lE I step fin ds 0 Δ M rfl (O4 _) h0
theorem oF{g:GD}{tc:TTd}{te:TEd}{all:List D}{Q:List D->DH->Prop}(I:Nat->List D->DE->DH->Prop)
  (step:∀ (i:Nat) (d:D) (acc:List D) (Δ:DE) (M:DH) (X:List D → DE → DH → Prop),all[i]? = some d → I i acc Δ M → (∀ acc' Δ' M',I (i + 1) acc' Δ' M' → X acc' Δ' M') →
   ∃ Δ',g d Δ=some Δ'/\tc Δ' M fun b M1=>if b=true then te Δ' M1 fun y M2=>X (acc++[y]) Δ' M2 else X acc Δ' M1)
  (fin:∀acc Δ M,I all.length acc Δ M->Q acc M):∀(ds:List D) (i:Nat) (acc:List D) (Δ:DE) (M:DH),all.drop i=ds->i<=all.length->I i acc Δ M->cy g tc te ds Δ M acc Q
 |[],i,acc,Δ,M,e,hi,h=>by
  have:i=all.length:=by
   have:=congrArg V3 e;simp at this;lia
  subst this;simpa only[cy]using fin acc Δ M h
 |d::ds,i,acc,Δ,M,e,hi,h=>by
  have hlt:i<all.length:=by
   have:=congrArg V3 e;simp at this;lia
  have hd:all[i]?=some d:=by
   have:=congrArg List.head? e;simpa using this
  have hn:all.drop (i+1)=ds:=by
   rw[<-List.tail_drop,e];rfl
  simp only[cy];exact step i d acc Δ M (fun acc' Δ' M'=>cy g tc te ds Δ' M' acc' Q) hd h fun acc' Δ' M' h'=>oF I step fin ds (i+1) acc' Δ' M' hn hlt h'
theorem eD{g:GD}{tc:TTd}{te:TEd}{ds:List D}{Δ:DE}{M:DH}{Q:List D->DH->Prop}(I:Nat->List D->DE->DH->Prop) (h0:I 0 [] Δ M)
  (step:∀ (i:Nat) (d:D) (acc:List D) (Δ:DE) (M:DH) (X:List D → DE → DH → Prop),ds[i]? = some d → I i acc Δ M → (∀ acc' Δ' M',I (i + 1) acc' Δ' M' → X acc' Δ' M') →
   ∃ Δ',g d Δ=some Δ'/\tc Δ' M fun b M1=>if b=true then te Δ' M1 fun y M2=>X (acc++[y]) Δ' M2 else X acc Δ' M1)
  (fin:∀acc Δ M,I ds.length acc Δ M->Q acc M):cy g tc te ds Δ M [] Q:=oF I step fin ds 0 [] Δ M rfl (O4 _) h0
theorem szB(n:Nat) (h:n<=16000000:=by decide):n<=E4:=Q0 h (by decide)
theorem eF{α:Type}{f:α->D}{xs:List α}{i:Nat}{d:D}(h:(xs.map f)[i]?=some d):∃x,xs[i]?=some x/\d=f x:=by
 rw[L7]at h;cases e:xs[i]? with
 |none=>rw[e]at h;cases h
 |some x=>rw[e]at h;cases h;exact⟨x,rfl,rfl⟩
theorem nv{K:u8}{M:DH}{H:Hp}:∀ns:List Int,am K M H (ns.map D.int) (ns.map V.int)
 |[]=>am.nil
 |n::ns=>am.cons (by simp[Rep]) (nv ns)
theorem tf{K:u8}{H:Hp}{a:E5}{ns:List Int}(hO:yl H) (hS:SqL K H a (ns.map V.int)):am K noM H [.scr (ns.map D.int)] [.ref a]:=by
 refine am.cons ?_ am.nil;simp only[Rep];refine⟨a,ns.map V.int,rfl,?_,nv ns⟩;rcases hS with h|h
 ·left;rcases h with h|h
  ·rcases hO a with z|⟨o,xs,z⟩<;>(rw[h]at z;cases z)
  ·exact⟨h,rfl⟩
 ·right;exact .inr h
def BY(S:SpD):Prop:=∀(ns:List Int) (R:D->DH->Prop),ns.length<=63->(∀M',R (.bl true) M')->S [.scr (ns.map .int)] noM R
theorem Cj{S:SpD}(hS:BY S) {k:Nat}{x:Str}{l:PySem.W.OpenLaw}{q:J4}{loose:List Str}{XP:(Str->Option s0)->I0->Prop}{YP:O3->I0->Prop}{d:DefRec}{K:Params->u8}(hr:bt k an2) (hn:l.most=some 63) (hdf:d.params.defaults=[])
  (hY:∀(w:O3) (h:I0),YP w h->(K w.params).In h)
  (F:∀ (w:O3) (mg:Str → Option s0) (fa:E5) (h:I0),(K w.params).In h → h.Ns F9 mg → mg d.name = some (.ref fa) →
   ∃fd:K1,(∀(s:E2) (u:s0),ao4 s fd ⟨[u],[]⟩ [(x,u)])/\∀base:I0,(K w.params).In base->base.Ns F9 mg->aO l.prog w (K w.params) mg base CX0 k fa fd [x] (spD (K w.params) 1 S)) :
  PySem.W.WalkO q loose XP YP l.row.toRowW d [] (fun f vs=>PySem.call f vs) :=
 L2.q0 (n:=63) (k:=k) (x:=x) (CX:=fun _=>CX0) (sp:=fun w=>spD (K w.params) 1 S) hn (by decide) hdf hr hY F
  (fun w H a ns hl hO hq=>⟨[.scr (ns.map .int)],noM,fun d _=>d=.bl true,rfl,tf hO hq,HR.nil,hS ns _ hl (fun _=>rfl),fun d M' v H' e _ _ rv=>by subst e;simpa only[Rep]using rv⟩) fun _ _ _ _ _ z=>z
section
variable{X:Cx}
def neF(x y:D):Option D:=if dLe x 60=true/\dLe y 60=true then some (.bl (!(eqD x y)))else none
theorem zK(hu:X.A.units+64<ae6):bW X (Q9 .NotEq) neF:=by
 intro aa s σ H M x y v u dx dy dz Q I hr rx ry r1 r2 e k;unfold neF at e
 by_cases hc:dLe dx 60=true/\dLe dy 60=true
 ·rw[if_pos hc]at e;cases e;exact(kc I 60 (A:=X.A) (by lia) hc.1 hc.2 r1 r2 rx ry).2.2 X.prog X.w X.xe _ ⟨.bl (!(eqD dx dy)),H,I,rfl,k _ H (Ext.refl _ _) hr (by simp[Rep])⟩
 ·rw[if_neg hc]at e;cases e
theorem Av{a b:Int}:neF (.int a) (.int b)=some (.bl (!(a==b))):=by simp[neF,dLe,eqD]
theorem tO{a b:Str}:neF (.str a) (.str b)=some (.bl (!(a==b))):=by simp[neF,dLe,eqD]
theorem A5{a b:Bool}:neF (.bl a) (.bl b)=some (.bl (!(a==b))):=by simp[neF,dLe,eqD]
end
end L2
namespace HT
open PySem PyProof.Rows
section
variable{prog:J4}{w:O3}{A:L8}{E:s0->E2->Prop}{s:E2}
theorem tupleIsExact_{t:E5}{items:Array s0}{Q:Bool->E2->Prop}(ht:am8 s.heap t items) (h:Q true s):F6 (J9 prog w) A (J7.Tuple.tupleIsExact (.ref t)) Q E s:=by
 unfold J7.Tuple.tupleIsExact;exact o0 (af5 ht.typeIs (E3 (by simpa using h)))
theorem getItem_tuple_whole{t sl:E5}{items:Array s0}{vl vu:s0}{lo hi:Option Int}{Q:s0->E2->Prop}(ht:am8 s.heap t items) (hs:s.heap.IsSliceOf sl vl vu .none) (pl:an8 vl lo) (pu:an8 vu hi)
  (hw:sIx items.size 0 lo=0/\sIx items.size items.size hi=items.size) (h:Q (.ref t) s):F6 (J9 prog w) A (aj4 (.ref t) (.ref sl)) Q E s:=by
 obtain⟨os,hos,hcs,hds⟩:=id hs;have hTs:s.TypeIs (.ref sl) "slice":=⟨os,hos,hcs⟩;unfold aj4
 try with_reducible refine P4 ?_
 first|refine o0 (E3 ?_)|skip
 refine o0 (wpAny_sequenceKey ht.typeIs (by decide) ?_);refine o0 (S0 (name:=L4 "__getitem__") ht.typeIs M0
  (aa2 M0 ht.typeIs entry_tuple_getitem ?_ (args_tuple_getitem _ _)))
 show F6 _ _ (aa0 (.ref t) >>= _) _ _ s;refine o0 (ag0 ht ?_);refine o0 (af5 hTs ?_);rw[if_pos (by decide)];refine o0 (er hs pl pu ?_);show F6 _ _ (if(((sIx items.size 0 lo:Nat):Int)==0&&(1:Int)==1&&(sIx items.size items.size hi-sIx items.size 0 lo)==items.size)=true then _ else _) _ _ s;rw[if_pos (by rw[hw.1,hw.2];simp)];refine o0 (tupleIsExact_ ht ?_);rw[if_pos rfl];refine o0 (al2 ?_)
 first
  |exact E3 ⟨_,rfl,E3 h⟩
  |exact o0 (E3 (E3 ⟨_,rfl,E3 h⟩))
theorem iw{sl:E5}{tk:Tok}{n:Nat}{Q:Int×Int×Nat->E2->Prop}(hs:s.heap.IsSliceOf sl .none .none (.int (-1) tk))
  (h:Q ((n:Int)-1,-1,n) s):F6 (J9 prog w) A (Z9 (.ref sl) (ad0 (n:Int))) Q E s:=by
 obtain⟨os,hos,hcs,hds⟩:=id hs;unfold Z9 J7.Slice.sliceFields;refine o0 (o0 (O7 hos hds (x:=.none) rfl (o0 (O7 hos hds (x:=.none) rfl (o0 (O7 hos hds (x:=.int (-1) tk) rfl (E3 ?_)))))));refine o0 (slicePart_int ?_);show F6 _ _ (if((-1:Int)==0)=true then _ else _) _ _ s;rw[if_neg (by decide)];refine o0 (ak7 (o0 (ak7 (o0 (E3 ?_)))));show F6 _ _ (ad0 ((n:Int)-1,(-1:Int),R1 ((n:Int)-1) (-1) (-1))) _ _ s;have e:R1 ((n:Int)-1) (-1) (-1)=n:=by
  unfold R1;simp only[show ¬ ((-1:Int) > 0)by omega,if_false]
  split<;>simp<;>omega
 rw[e];exact E3 h
theorem vI(xs:Array s0):((W3 xs.size).filterMap fun(m:Nat)=>xs[((xs.size:Int)-1+(m:Int)*-1).toNat]?)=xs.toList.reverse:=by
 have:∀k,k<=xs.size->((W3 k).filterMap fun(m:Nat)=>xs[((xs.size:Int)-1+(m:Int)*-1).toNat]?)=xs.toList.reverse.take k:=by
  intro k
  induction k with
  |zero=>intro _;simp
  |succ k ih =>
   intro hk;rw[List.range_succ,List.filterMap_append,ih (by omega)];have e1:((xs.size:Int)-1+(k:Int)*-1).toNat=xs.size-1-k:=by omega
   have e2:xs[xs.size-1-k]?=some xs[xs.size-1-k]:=by simp[show xs.size-1-k<xs.size by omega]
   have e3:xs.toList.reverse[k]?=some xs[xs.size-1-k]:=by
    rw[List.getElem?_reverse (by simp;omega)];simpa using e2
   rw[X7,e3];have e4:(List.filterMap (fun(m:Nat)=>xs[((xs.size:Int)-1+(m:Int)*-1).toNat]?) [k])=[xs[xs.size-1-k]]:=by
    rw[X8,e1,e2];rfl
   rw[e4];rfl
 rw[this xs.size (F5 _)];exact V1 (by simp)
theorem getItem_tuple_rev{t sl:E5}{items:Array s0}{tk:Tok}{Q:s0->E2->Prop}(ht:am8 s.heap t items) (hs:s.heap.IsSliceOf sl .none .none (.int (-1) tk))
  (h:Q (.ref s.heap.objs.size) { s with heap:=s.heap.push { cls:=.type "tuple",data:=.seq items.toList.reverse.toArray } }) (hsz:items.size<=E4):F6 (J9 prog w) A (aj4 (.ref t) (.ref sl)) Q E s:=by
 have htake:sizeOk (.seq items.toList.reverse.toArray):=by
  show items.toList.reverse.toArray.size<=E4;simpa using hsz
 obtain⟨os,hos,hcs,hds⟩:=id hs;have hTs:s.TypeIs (.ref sl) "slice":=⟨os,hos,hcs⟩;unfold aj4
 try with_reducible refine P4 ?_
 first|refine o0 (E3 ?_)|skip
 refine o0 (wpAny_sequenceKey ht.typeIs (by decide) ?_);refine o0 (S0 (name:=L4 "__getitem__") ht.typeIs M0
  (aa2 M0 ht.typeIs entry_tuple_getitem ?_ (args_tuple_getitem _ _)))
 show F6 _ _ (aa0 (.ref t) >>= _) _ _ s;refine o0 (ag0 ht ?_);refine o0 (af5 hTs ?_);rw[if_pos (by decide)];refine o0 (iw hs ?_);show F6 _ _ (if((((items.size:Int)-1)==0&&(-1:Int)==1&&items.size==items.size)=true)then _ else _) _ _ s;rw[if_neg (by simp),vI]
 first
  |exact o0 (m:=N0 _) (O8 (E3 ⟨_,rfl,E3 h⟩) htake)
  |exact o0 (m:=N0 _) (O8 (o0 (E3 (E3 ⟨_,rfl,E3 h⟩))) htake)
  |exact o0 (o0 (m:=N0 _) (O8 (E3 (E3 ⟨_,rfl,E3 h⟩)) htake))
  |exact o0 (o0 (m:=N0 _) (O8 (E3 ⟨_,rfl,E3 h⟩) htake))
end
end HT
namespace L2
open PySem PySem.Spec PyProof.Rows
section
variable{X:Cx}{a b c e:K4}{es:List K4}{te ta tb ts:TEd}{t:TAd}{pos:Pos}
def slE:D->Option Int->Option Int->Option D
 |.tup ds,lo,hi=>some (.tup (b7 ds lo hi))
 |d,lo,hi=>slD d lo hi
def D1(K:u8):V->Option Int->Option Int->Hp->VK->Prop:=fun x lo hi H Q=>∃a xs,x=.ref a/\SqT K H a xs/\(HT.sIx xs.length 0 lo=0/\HT.sIx xs.length xs.length hi=xs.length)/\Q (.ref a) H
theorem nB:SlR X (D1 X.K):=by
 intro aa s σ H x v vl vu lo hi sl Q I rx hs pl pu h;obtain⟨a,xs,rfl,hx,hw,q⟩:=h;cases rx;obtain⟨its,r,ht,hz⟩:=I.tuple hx;have bu:its.toArray.size=xs.length:=by rw[F1];exact r.length.symm
 exact⟨"tuple",_,M0.lookup,ht.typeIs,HT.getItem_tuple_whole ht hs pl pu (by rw[bu];exact hw) ⟨.ref a,H,I,rfl,q⟩⟩
theorem pZ{ds:List D}{lo hi:Option Int}(h:HT.sIx ds.length 0 lo=0/\HT.sIx ds.length ds.length hi=ds.length):b7 ds lo hi=ds:=by
 unfold b7;rw[h.1,h.2];simp
def BQ(te:TEd) (tl th:TOd):TEd:=fun Δ M Q=>te Δ M fun x M1=>tl Δ M1 fun l M2=>th Δ M2 fun u M3=>∃z,slE (rdM M3 x) l u=some z/\Q z M3
theorem B8{ds:List D}{lo hi:Option Int}:slE (.tup ds) lo hi=some (.tup (b7 ds lo hi)):=rfl
theorem Dx{ds:List D}{lo hi:Option Int}:slE (.lst ds) lo hi=some (.lst (b7 ds lo hi)):=rfl
theorem CN{ds:List D}{lo hi:Option Int}:slE (.scr ds) lo hi=some (.lst (b7 ds lo hi)):=rfl
theorem Ca{x:Str}{lo hi:Option Int}:slE (.str x) lo hi=if x.length<=E4 then some (.str (am4 x lo hi))else none:=rfl
theorem am.reverse{K:u8}{M:DH}{H:Hp}:∀{ds:List D}{vs:List V},am K M H ds vs->am K M H ds.reverse vs.reverse
 |[],_,h=>by simp only[am]at h;subst h;exact am.nil
 |d::ds,_,h=>by
  simp only[am]at h;obtain⟨v,ws,rfl,h1,h2⟩:=h;rw[ah2,ah2];exact(am.reverse h2).append (am.cons h1 am.nil)
def vS(te ts:TEd):TEd:=fun Δ M Q=>te Δ M fun x M1=>ts Δ M1 fun st M2=>st=.int (-1)/\∃ds,x=.tup ds/\Q (.tup ds.reverse) M2
def vJ:TSd:=fun _ _ _=>False
variable{scope:aa5}{cl:List (Str×E5)}{ao:List Str}{tg:K4}
def xc(X:Cx) (scope:aa5) (cl:List (Str×E5)) (ao:List Str) (tgs:List K4) (g:GDs):Prop:=∃gv:TGs,(∀C s H ex,PGs (aD X scope cl (X.N++ao) C s H ex) tgs gv)/\∀(ds:List D) (vs:List V) (σ:St) (Δ Δ':DE) (M:DH) (H:Hp) (Q:St->Hp->Prop),SR X.K M H σ Δ->HR X.K M H->am X.K M H ds vs->g ds Δ=some Δ'->(∀ σ',SR X.K M H σ' Δ'->Q σ' H)->gv vs σ H Q
theorem tJ:xc X scope cl ao [] qU:=⟨Ay,fun _ _ _ _=>rK,fun ds vs σ Δ Δ' M H Q sr hr rv e k=>by
 cases ds with
 |nil=>simp only[am]at rv;subst rv;cases e;exact⟨rfl,k _ sr⟩
 |cons _ _=>cases e⟩
theorem jh{tgs:List K4}{g:GD}{gs:GDs}(h1:PGa X scope cl ao tg g) (h2:xc X scope cl ao tgs gs)
  (hs:∀env,(V2 (tg::tgs) env).map (·.2)=af7 tg env::(V2 tgs env).map (·.2):=by intro _;rfl):xc X scope cl ao (tg::tgs) (iE g gs):=by
 obtain⟨g1,p1,k1⟩:=h1;obtain⟨g2,p2,k2⟩:=h2;refine⟨uR g1 g2,fun C s H ex=>oK (p1 C s H ex) (p2 C s H ex) (hs _),fun ds vs σ Δ Δ' M H Q sr hr rv e k=>?_⟩;cases ds with
 |nil=>cases e
 |cons d r =>
  simp only[am]at rv;obtain⟨v,ws,rfl,h3,h4⟩:=rv;simp only[iE]at e;cases q:g d Δ with
  |none=>rw[q]at e;cases e
  |some Δ1 =>
   rw[q]at e;exact⟨v,ws,rfl,k1 d v σ Δ Δ1 M H _ sr hr h3 q fun σ1 sr1=>k2 r ws σ1 Δ1 Δ' M H Q sr1 hr h4 e k⟩
theorem uh{tgs:List K4}{kx:Nat}{g:GDs}{n:Nat}(hc:X.calm=true) (h:xc X scope cl ao tgs g) (hn:∀env,(V2 tgs env).length=n:=by intro _;rfl) (hst:∀env,(V2 tgs env).findIdx? (·.1)=none:=by intro _;rfl):PGa X scope cl ao (.Tuple tgs kx pos) (lu g n):=by
 obtain⟨g1,p1,k1⟩:=h;refine⟨zR X.K n g1,fun C s H ex=>vQ (X:=aD X scope cl (X.N++ao) C s H ex) hc (p1 C s H ex) (hn _) (hst _),fun d v σ Δ Δ' M H Q sr hr rv e k=>?_⟩;cases d with
 |tup ds =>
  simp only[lu]at e
  by_cases hl:ds.length=n
  ·rw[if_pos hl]at e;simp only[Rep]at rv;obtain⟨a,vs,rfl,ta,rl⟩:=rv;exact⟨a,vs,rfl,ta.sq,by rw[<-rl.length];exact hl,k1 ds vs σ Δ Δ' M H Q sr hr rl e k⟩
  ·rw[if_neg hl]at e;cases e
 |_=>cases e
end
section
variable{X:Cx}{a b c e:K4}{es:List K4}{te ta tb ts:TEd}{t:TAd}{pos:Pos}
def inE(neg:Bool) (x y:D):Option D:=match y with
 |.str j=>match x with
  |.str i=>some (.bl (xor neg (!(J7.Str.occurrences j i 0 j.length 1).isEmpty)))
  |_=>none
 |y=>inD neg x y
theorem zm:bW X (Q9 .In) (inE false):=by
 intro aa s σ H M x y v u dx dy dz Q I hr rx ry r1 r2 e k;cases dy with
 |str j =>
  cases dx with
  |str i =>
   cases e;exact sH aa s σ H x y v u Q I rx ry ⟨i,j,oS r1,oS r2,k _ H (Ext.refl _ _) hr (by simp[Rep])⟩
  |_=>cases e
 |_=>exact D6 aa s σ H M x y v u dx _ dz Q I hr rx ry r1 r2 e k
theorem C7{b:Bool}{x:D}{ds:List D}:inE b x (.lst ds)=if bo x=true/\ds.all bo=true then some (.bl (xor b (ds.any fun d=>eqD d x)))else none:=rfl
theorem Cz{b:Bool}{x:D}{ds:List D}:inE b x (.tup ds)=if bo x=true/\ds.all bo=true then some (.bl (xor b (ds.any fun d=>eqD d x)))else none:=rfl
theorem yO{b:Bool}{c:Nat}{y:Str}:inE b (.str (tx [c])) (.str y)=some (.bl (xor b (decide (c∈y.cps.toList)))):=by
 show some (D.bl (xor b (!(J7.Str.occurrences y ⟨#[c]⟩ 0 y.length 1).isEmpty)))=_;rw[StrLaws.found_one]
theorem cF:fillsNumberSlot (.type "tuple") "mul"=ad0 false :=
 PySem.fillsNumberSlot_seq (id:="tuple.__mul__") (r:=some (.builtin "tuple.__rmul__")) af1.lookup (by decide +kernel) F.slot_tuple_rmul.lookup (by decide +kernel)
theorem eM:seqRepeat? (.type "tuple")=ad0 (some (.builtin "tuple.__mul__")):=by
 unfold seqRepeat?;rw[PySem.seqSlot_of (T:="tuple") (name:="__mul__") (id:="tuple.__mul__") af1.lookup (by decide +kernel),PySem.seqSlot_of (T:="tuple") (name:="__rmul__") (id:="tuple.__rmul__") F.slot_tuple_rmul.lookup (by decide +kernel)];rfl
theorem du(a:Int) (t:Tok) (l:E5) (items:Array s0) :
  Meets (J7.«int.__rmul__» ⟨[.int a t,.ref l],[]⟩) (fun _ R s=>am8 s.heap l items/\R (.ok (.ret s0.notImplemented)) s) :=
 .of_wp fun prog w A R s h=>by
  obtain⟨hp,g,d,tk,os⟩:=s;obtain⟨⟨⟨cls,dd,data,sl⟩,ho,hc,n,hd⟩,h⟩:=h;simp only at hc hd;subst hc hd
  wp_walk;exact⟨_,rfl,h⟩
theorem kI(l:E5) (items:Array s0) (x:Int) (u:Tok) (hne:items.isEmpty=false) (hx:2<=x) (hx2:x<2 ^ 62) (hz:items.size*x.toNat<=E4) :
  Meets (J7.«tuple.__mul__» ⟨[.ref l,.int x u],[]⟩) (fun _ R s=>am8 s.heap l items/\R (.ok (.ret (.ref s.heap.objs.size))) { s with heap:=s.heap.push { cls:=.type "tuple",data:=.seq (E6 x.toNat items.toList).flatten.toArray } }) :=
 .of_wp fun prog w A R s h=>by
  obtain⟨ht,h⟩:=h;show F6 _ _ (do
   let n <-asIndex (.int x u)
   if n < -(2 ^ 63) || n>=2 ^ 63 then
    rule "tuple.repeat.overflow";raiseError "OverflowError" s!"cannot fit '{← typeNameOf (.int x u)}' into an index-sized integer"
   let xs <-aa0 (.ref l)
   if xs.isEmpty || n==1 then
    if <-J7.Tuple.tupleIsExact (.ref l)then rule "tuple.repeat.same-object";return <-ret (.ref l)
   if n<=0 || xs.isEmpty then return <-ret (<-N0 #[])
   if xs.size*n > (2 ^ 63-1) / 8 then rule "tuple.repeat.no-memory";raiseNew (<-newExc (.type "MemoryError") [])
   if J7.Tuple.tupleTooMany (xs.size*n)then unsupported "tuple.__mul__:memory"
   ret (<-N0 ((E6 n.toNat xs).foldl (·++·) #[]))) _ _ s
  refine o0 (al6 (a:=x) rfl ?_);dsimp only;rw[if_neg (by simp only[Bool.or_eq_true,decide_eq_true_eq];lia)];refine o0 (ag0 ht ?_);rw[if_neg (by simp[hne];lia)];rw[if_neg (by simp[hne];lia)];have hxn:((x.toNat:Nat):Int)=x:=by lia
  have hm:(items.size:Int)*x=((items.size*x.toNat:Nat):Int):=by rw[Int.natCast_mul,hxn]
  have h16:E4=16777216:=rfl;rw[if_neg (by rw[hm];lia)];rw[if_neg (by unfold J7.Tuple.tupleTooMany;rw[hm];simp only[decide_eq_true_eq];lia)];have hf:ao7 (fun x1 x2=>x1++x2) #[] (E6 x.toNat items)=(E6 x.toNat items.toList).flatten.toArray:=by
   have:=il items.toList x.toNat [];rw[O5]at this;simpa using this
  rw[hf];have hs:sizeOk (.seq (E6 x.toNat items.toList).flatten.toArray):=by
   show(E6 x.toNat items.toList).flatten.toArray.size<=E4;rw[F1,mv,X9,Nat.mul_comm];exact hz
  exact o0 (m:=N0 _) (O8 (E3 ⟨_,rfl,h⟩) hs)
theorem am.rep{K:u8}{M:DH}{H:Hp}{ds:List D}{vs:List V}(h:am K M H ds vs):∀k:Nat,am K M H (E6 k ds).flatten (E6 k vs).flatten
 |0=>am.nil
 |k+1=>by
  rw[N5,N5,V4,V4];exact h.append (am.rep h k)
def ni:D->D->Option D
 |.int a,.int b=>if fA a b then some (.int (a*b))else none
 |.str x,.int n=>if x.length<=16777216/\-(2 ^ 63)<=n/\n<=16777216/\x.length*n.toNat<=16777216 then some (.str (Txt.mul x n))else none
 |.tup ds,.int n=>if 2<=n/\n<2 ^ 62/\ds≠[]/\ds.length*n.toNat<=E4 then some (.tup (E6 n.toNat ds).flatten)else none
 |.lst ds,.int n=>if -(2 ^ 63)<=n/\n<2 ^ 63/\ds.length*n.toNat<=E4 then some (.lst (E6 n.toNat ds).flatten)else none
 |_,_=>none
theorem cc:bW X (U8 .Mult) ni:=by
 intro aa s σ H M x y v u dx dy dz Q I hr rx ry r1 r2 e k;cases dx with
 |int a =>
  cases dy with
  |int b=>exact Ao aa s σ H M x y v u _ _ dz Q I hr rx ry r1 r2 e k
  |_=>cases e
 |str z =>
  cases dy with
  |int n =>
   simp only[ni]at e
   by_cases hc:z.length<=16777216/\-(2 ^ 63)<=n/\n<=16777216/\z.length*n.toNat<=16777216
   ·rw[if_pos hc]at e;cases e;have e1:=oS r1;have e2:=dq r2;subst e1;subst e2;obtain⟨t1,rfl⟩:=rx;obtain⟨t2,rfl⟩:=ry;have hok:MulOk z n:=by
     by_cases hn:0<=n
     ·exact mulOk_of z.length n.toNat (F5 _) (by lia) hc.2.1 (by lia) hc.2.2.2
     ·exact mulOk_of z.length 0 (F5 _) (by lia) hc.2.1 (by lia) (by lia)
    exact SB.mul hok fun t' kk=>⟨.str _,H,I.tok _,⟨t',rfl⟩,k _ H (Ext.refl _ _) hr (by simp[Rep])⟩
   ·rw[if_neg hc]at e;cases e
  |_=>cases e
 |tup ds =>
  cases dy with
  |int n =>
   simp only[ni]at e
   by_cases hc:2<=n/\n<2 ^ 62/\ds≠[]/\ds.length*n.toNat<=E4
   ·rw[if_pos hc]at e;cases e;have e2:=dq r2;subst e2;obtain⟨t2,rfl⟩:=ry;obtain⟨a,vs,rfl,sq,rl⟩:=r1;cases rx;obtain⟨its,rv,pt,hz⟩:=I.tuple sq;have hl1:=rv.length;have hl2:=rl.length;have hne:its.toArray.isEmpty=false:=by
     cases its with
     |nil =>
      have h0:ds.length=0:=by rw[hl2,hl1];rfl
      exact absurd (X4.mp h0) hc.2.2.1
     |cons _ _=>rfl
    have hzz:its.toArray.size*n.toNat<=E4:=by rw[F1,<-hl1,<-hl2];exact hc.2.2.2
    refine ab5 (T:="tuple") (U:="int") (by decide) pt.typeIs (fun s'=>af6 s' n t2) cF aj5 Z3 eM ai5.lookup
     (aa3 Z3 (af6 s n t2) ai6 (ah3 _ _) (du n t2 a its.toArray)
      ⟨pt,rfl,pt.typeIs,aa3 af1 pt.typeIs F.entry_tuple_mul (F.args_tuple_mul_2 _ _) (kI a its.toArray n t2 hne hc.1 hc.2.1 hzz) ⟨pt,?_⟩⟩)
    have rr:ax (E6 n.toNat vs).flatten (E6 n.toNat its).flatten:=rv.rep n.toNat;refine⟨.ref s.heap.objs.size,_,I.laid (t':=s.toks) (o:=.tup (E6 n.toNat vs).flatten) (fun b ob q=>E1 _ q) (F5 _) ?_,rfl,?_⟩
    ·refine⟨?_,_,rr,by simpa using gf.new _ _⟩;rw[mv,Nat.mul_comm,<-hl2];exact hc.2.2.2
    ·exact iz hr (I.hok.fresh (F5 _)) (rl.rep n.toNat) k
   ·rw[if_neg hc]at e;cases e
  |_=>cases e
 |lst ds =>
  cases dy with
  |int n =>
   simp only[ni]at e
   by_cases hc:-(2 ^ 63)<=n/\n<2 ^ 63/\ds.length*n.toNat<=E4
   ·rw[if_pos hc]at e;cases e;obtain⟨a,vs,rfl,sq,rl⟩:=r1;exact vF aa s σ H _ _ v u Q I rx ry ⟨a,n,vs,rfl,dq r2,sq,hc.1,hc.2.1,by rw[<-rl.length];exact hc.2.2,fun p hp=>mV hr hp (rl.rep n.toNat) k⟩
   ·rw[if_neg hc]at e;cases e
  |_=>cases e
 |_=>cases e
theorem ml{a b:Int}:ni (.int a) (.int b)=if fA a b then some (.int (a*b))else none:=rfl
def zg:D->Bool
 |.non=>true
 |_=>false
def xv(neg:Bool) (x y:D):Option D:=match y with|.non=>some (.bl (xor neg (zg x)))|_=>none
theorem rQ{b:Bool}{x:D}:xv b x .non=some (.bl (xor b (zg x))):=rfl
variable{scope:aa5}{cl:List (Str×E5)}{ms:List Bool}{ao:List Str}{ifs:List K4}{tg iter elt:K4}
end
@[irreducible] def QEd(X:Cx) (e:K4) (t:TEd):Prop:=PEd X e t
theorem QEd.eq{X:Cx}{e:K4}{t:TEd}:QEd X e t=(PEd X e t):=by unfold QEd;rfl
@[irreducible] def QAd(X:Cx) (e:List K4) (t:TAd):Prop:=PAd X e t
theorem QAd.eq{X:Cx}{e:List K4}{t:TAd}:QAd X e t=(PAd X e t):=by unfold QAd;rfl
@[irreducible] def QTd(X:Cx) (e:K4) (t:TTd):Prop:=PTd X e t
theorem QTd.eq{X:Cx}{e:K4}{t:TTd}:QTd X e t=(PTd X e t):=by unfold QTd;rfl
@[irreducible] def QWd(X:Cx) (e:K4) (t:TTd):Prop:=PWd X e t
theorem QWd.eq{X:Cx}{e:K4}{t:TTd}:QWd X e t=(PWd X e t):=by unfold QWd;rfl
@[irreducible] def QSd(X:Cx) (e:Z7) (t:TSd):Prop:=PSd X e t
theorem QSd.eq{X:Cx}{e:Z7}{t:TSd}:QSd X e t=(PSd X e t):=by unfold QSd;rfl
@[irreducible] def QSs(X:Cx) (e:List Z7) (t:TSd):Prop:=yj X e t
theorem QSs.eq{X:Cx}{e:List Z7}{t:TSd}:QSs X e t=(yj X e t):=by unfold QSs;rfl
@[irreducible] def QId(X:Cx) (tg e:K4) (t:TId):Prop:=PId X tg e t
theorem QId.eq{X:Cx}{tg e:K4}{t:TId}:QId X tg e t=(PId X tg e t):=by unfold QId;rfl
@[irreducible] def QIf(X:Cx) (e:List K4) (t:TTd):Prop:=Cb X e t
theorem QIf.eq{X:Cx}{e:List K4}{t:TTd}:QIf X e t=(Cb X e t):=by unfold QIf;rfl
@[irreducible] def QOd(X:Cx) (e:Option K4) (t:TOd):Prop:=POd X e t
theorem QOd.eq{X:Cx}{e:Option K4}{t:TOd}:QOd X e t=(POd X e t):=by unfold QOd;rfl
theorem af{X:Cx}(i:Nat) {x:Str}{pos:Pos}(hN:X.N[i]?=some x:=by rfl) (hv:Vis X.env.scope x:=by first|exact N4 rfl|exact am2 (N4 rfl)|exact am2 (am2 rfl)) (hd:(x==("__debug__":Str))=false:=by decide)
  (hcd:(x==("__classdict__":Str))=false:=by decide):QEd X (.Name x pos) (nF i):=by
 simp only[QEd.eq]at *
 exact(uX hN hv hd hcd).conv fun σ H Q ⟨Δ,M,R,sr,hr,⟨d,e,q⟩,k⟩=>let⟨v,ev,rv⟩:=sr.2 i d e;⟨v,ev,k d M v H q (Ext.refl _ _) hr rv⟩
theorem aj{X:Cx}{i j pos}:QEd X (.Constant (.int i) j pos) (dC (.int i)):=by
 simp only[QEd.eq]at *
 exact zW.conv fun σ H Q hup=>hup.el fun Δ M R sr hr q k=>k _ M _ H q (Ext.refl _ _) hr (by simp[Rep])
theorem oR{X:Cx}{i j pos}:QEd X (.Constant (.bool i) j pos) (dC (.bl i)):=by
 simp only[QEd.eq]at *
 exact Cc.conv fun σ H Q hup=>hup.el fun Δ M R sr hr q k=>k _ M _ H q (Ext.refl _ _) hr (by simp[Rep])
theorem gX{X:Cx}{i j pos}:QEd X (.Constant (.str i) j pos) (dC (.str i)):=by
 simp only[QEd.eq]at *
 exact vB.conv fun σ H Q hup=>hup.el fun Δ M R sr hr q k=>k _ M _ H q (Ext.refl _ _) hr (by simp[Rep])
theorem zk{X:Cx}{j pos}:QEd X (.Constant .none j pos) (dC .non):=by
 simp only[QEd.eq]at *
 exact Bk.conv fun σ H Q hup=>hup.el fun Δ M R sr hr q k=>k _ M _ H q (Ext.refl _ _) hr (by simp[Rep])
theorem vU{X:Cx}{x:Str}{i:Int}{pos:Pos}(hg:Gl X x) (hm:∃tk,X.mg x=some (.int i tk)) (hd:(x==("__debug__":Str))=false:=by decide):QEd X (.Name x pos) (dC (.int i)):=by
 simp only[QEd.eq]at *
 obtain⟨t,ht⟩:=hm;exact yC hg ht hd
theorem vi{X:Cx}{x y:Str}{pos:Pos}(hg:Gl X x) (hm:∃tk,X.mg x=some (.str y tk)) (hd:(x==("__debug__":Str))=false:=by decide):QEd X (.Name x pos) (dC (.str y)):=by
 simp only[QEd.eq]at *
 obtain⟨t,ht⟩:=hm;exact xm hg ht hd
theorem ah{X:Cx}:QAd X [] uE:=by
 simp only[QAd.eq]at *
 exact dw.conv fun σ H Q hup=>hup.el fun Δ M R sr hr q k=>k _ M _ H q (Ext.refl _ _) hr am.nil
theorem ae{X:Cx}{a:K4}{es:List K4}{ta:TEd}{tr:TAd}(ha:QEd X a ta) (hr:QAd X es tr) (hs:E8 (a::es) X.env=(false,Z4 a X.env)::E8 es X.env:=by rfl):QAd X (a::es) (lD ta tr):=by
 simp only[QEd.eq,QAd.eq]at *
 exact(bf ha hr hs).conv fun σ H Q hup=>hup.el fun Δ M R sr hr q k=>⟨Δ,M,_,sr,hr,q,fun d M1 v H1 q1 e1 hr1 rv=>⟨Δ,M1,_,sr.ext e1,hr1,q1,fun ds M2 vs H2 q2 e2 hr2 rvs =>
   k _ M2 _ H2 q2 (e1.trans e2) hr2 (am.cons (rv.ext e2) rvs)⟩⟩
theorem cR{X:Cx}{es:List K4}{pos:Pos}{x1}{t:TAd}(h:QAd X es t):QEd X (.Tuple es x1 pos) (BL t):=by
 simp only[QEd.eq,QAd.eq]at *
 exact(mQ h).conv fun σ H Q hup=>hup.el fun Δ M R sr hr q k=>⟨Δ,M,_,sr,hr,q,fun ds M1 vs H1 ⟨z,q1⟩ e1 hr1 rv=>⟨by rw[<-rv.length];exact z,fun p hp=>k _ M1 _ _ q1 (e1.trans (Ext.new hr1 hp)) (hr1.new hp) (by
   simp only[Rep];exact⟨p,vs,rfl,.inl ⟨.inl az,hr1.fresh hp⟩,rv.ext (Ext.new hr1 hp)⟩)⟩⟩
theorem gb{X:Cx}{es:List K4}{pos:Pos}{t:TAd}(h:QAd X es t):QEd X (.List es pos) (Cd t):=by
 simp only[QEd.eq,QAd.eq]at *
 exact(vW h).conv fun σ H Q hup=>hup.el fun Δ M R sr hr q k=>⟨Δ,M,_,sr,hr,q,fun ds M1 vs H1 ⟨z,q1⟩ e1 hr1 rv=>⟨by rw[<-rv.length];exact z,fun p hp=>k _ M1 _ _ q1 (e1.trans (Ext.new hr1 hp)) (hr1.new hp) (by
   simp only[Rep];exact⟨p,vs,rfl,⟨az,hr1.fresh hp⟩,rv.ext (Ext.new hr1 hp)⟩)⟩⟩
theorem gy{X:Cx}{es:List K4}{pos:Pos}{t:TAd}(h:QAd X es t):QEd X (.List es pos) (yS t):=by
 simp only[QEd.eq,QAd.eq]at *
 exact(vW h).conv fun σ H Q hup=>hup.el fun Δ M R sr hr q k=>⟨Δ,M,_,sr,hr,q,fun ds M1 vs H1 ⟨z,q1⟩ e1 hr1 rv=>⟨by rw[<-rv.length];exact z,fun p hp=>k _ _ _ _ (q1 p (hr1.fresh hp)) (e1.trans (Ext.own hp)) (hr1.own hp rv) (by
   simp only[Rep])⟩⟩
theorem aK{X:Cx}{a:K4}{b:K4}{ta:TEd}{tb:TEd}{pos:Pos}{op:Operator}{r:D->D->Option D}(ho:bW X (U8 op) r) (ha:QEd X a ta) (hb:QEd X b tb):QEd X (.BinOp a op b pos) (dOp r ta tb):=by
 simp only[QEd.eq]at *
 exact(yZ ho.v ha hb).conv tZ
theorem qP{X:Cx}{a:K4}{b:K4}{ta:TEd}{tb:TEd}{pos:Pos}{op:am9}{r:D->D->Option D}(ho:bW X (Q9 op) r) (ha:QEd X a ta) (hb:QEd X b tb) (hm:T6 op b=false):QEd X (.Compare a [op] [b] pos) (dOp r ta tb):=by
 simp only[QEd.eq]at *
 exact(xQ ho.v ha hb hm).conv tZ
theorem aV{X:Cx}{a:K4}{b:K4}{ta:TEd}{tb:TEd}{pos:Pos}{r:D->D->Option D}(ho:IxR X (opV X.K r)) (ha:QEd X a ta) (hb:QEd X b tb) (hs:rA b):QEd X (.Subscript a b pos) (dOp r ta tb):=by
 simp only[QEd.eq]at *
 exact(BH ho ha hb hs).conv tZ
theorem Br{X:Cx}{a:K4}{ta:TEd}{pos:Pos}{op:UnaryOp}{r:D->Option D}(ho:Cf X (unaryOp op) r) (ha:QEd X a ta):QEd X (.UnaryOp op a pos) (dUn r ta):=by
 simp only[QEd.eq]at *
 have h:UnR X (unaryOp op) (fun x H Q=>∃dx dz M,HR X.K M H/\aN X.K M H dx x/\r dx=some dz/\∀w H',Ext M H M H'->HR X.K M H'->Rep X.K M H' dz w->Q w H'):=fun aa s σ H x v Q I rx ⟨dx,dz,M,hr,r1,e,k⟩=>ho aa s σ H M x v dx dz Q I hr rx r1 e k;exact(B9 h ha).conv fun σ H Q hup=>hup.el fun Δ M R sr hr q k=>⟨Δ,M,_,sr,hr,q,fun x M1 v H1 ⟨z,ez,q1⟩ e1 hr1 rv=>⟨_,z,M1,hr1,rv.rd hr1,ez,fun w H' e2 hr2 rw_=>k z M1 w H' q1 (e1.trans e2) hr2 rw_⟩⟩
theorem bb{X:Cx}{a:K4}{b:K4}{ta:TEd}{tb:TEd}{pos:Pos}{op:am9}{r:D->D->Option D}(ho:bW X (Q9 op) r) (ha:QEd X a ta) (hb:QEd X b tb) (hm:T6 op b=false):QTd X (.Compare a [op] [b] pos) (pI (dOp r ta tb)):=by
 simp only[QEd.eq,QTd.eq]at *
 refine(yd ho.v ha hb hm).conv fun σ H Q h=>?_;obtain⟨Δ,M,R,sr,hr,q,k⟩:=h;exact⟨Δ,M,_,sr,hr,q,fun x M1 v H1 q1 e1 hr1 rv=>⟨Δ,M1,_,sr.ext e1,hr1,q1,fun y M2 u H2 ⟨z,ez,b,eb,q2⟩ e2 hr2 ru=>⟨_,_,z,M2,hr2,(rv.ext e2).rd hr2,ru.rd hr2,ez,fun w H' e3 hr3 rw_ =>
  ⟨b,by subst eb;simpa only[Rep]using rw_,k b M2 H' q2 ((e1.trans e2).trans e3) hr3⟩⟩⟩⟩
theorem gr{X:Cx}{a:K4}{ta:TEd}(h:QEd X a ta) (he:∀whole,isTrue a X.env whole=(do let v <-whole;am0 a.pos;aj3 [v] (truthy v)):=by intro _;rfl):QTd X a (pI ta):=by
 simp only[QEd.eq,QTd.eq]at *
 exact(zG h he).conv CA
theorem iJ{X:Cx}{a:K4}{pos:Pos}{tA:TTd}(h:QTd X a tA):QTd X (.UnaryOp .Not a pos) (yM tA):=by
 simp only[QTd.eq]at *
 exact(AM h).conv fun σ H Q hup=>hup.el fun Δ M R sr hr q k=>⟨Δ,M,_,sr,hr,q,fun b M1 H1 q1 e1 hr1=>k _ M1 H1 q1 e1 hr1⟩
theorem yq{X:Cx}{a:K4}{pos:Pos}{tA:TTd}(ha:QTd X a tA):QWd X (.BoolOp .And [a] pos) tA:=by
 simp only[QTd.eq,QWd.eq]at *
 exact xk ha
theorem mj{X:Cx}{a:K4}{pos:Pos}{tA:TTd}(ha:QTd X a tA):QWd X (.BoolOp .Or [a] pos) tA:=by
 simp only[QTd.eq,QWd.eq]at *
 exact Bu ha
theorem An{X:Cx}{a:K4}{b:K4}{pos:Pos}{tA:TTd}{tB':TTd}{rest:List K4}(ha:QTd X a tA) (hb:QWd X (.BoolOp .And (b::rest) pos) tB'):QWd X (.BoolOp .And (a::b::rest) pos) (yP tA tB'):=by
 simp only[QTd.eq,QWd.eq]at *
 exact(AL ha hb).conv fun σ H Q hup=>hup.el fun Δ M R sr hr q k=>⟨Δ,M,_,sr,hr,q,fun c M1 H1 q1 e1 hr1=>by
   cases c with
   |true=>simp only[if_true]at q1 ⊢;exact⟨Δ,M1,R,sr.ext e1,hr1,q1,fun b M2 H2 q2 e2 hr2=>k b M2 H2 q2 (e1.trans e2) hr2⟩
   |false=>simp only[K8,if_false]at q1 ⊢;exact k _ M1 H1 q1 e1 hr1⟩
theorem qK{X:Cx}{a:K4}{b:K4}{pos:Pos}{tA:TTd}{tB':TTd}{rest:List K4}(ha:QTd X a tA) (hb:QWd X (.BoolOp .Or (b::rest) pos) tB'):QWd X (.BoolOp .Or (a::b::rest) pos) (Cw tA tB'):=by
 simp only[QTd.eq,QWd.eq]at *
 exact(CL ha hb).conv fun σ H Q hup=>hup.el fun Δ M R sr hr q k=>⟨Δ,M,_,sr,hr,q,fun c M1 H1 q1 e1 hr1=>by
   cases c with
   |false=>simp only[K8,if_false]at q1 ⊢;exact⟨Δ,M1,R,sr.ext e1,hr1,q1,fun b M2 H2 q2 e2 hr2=>k b M2 H2 q2 (e1.trans e2) hr2⟩
   |true=>simp only[if_true]at q1 ⊢;exact k _ M1 H1 q1 e1 hr1⟩
theorem zy{X:Cx}{a:K4}{ta:TEd}{pos:Pos}{op}(h:QEd X a ta):QEd X (.BoolOp op [a] pos) ta:=by
 simp only[QEd.eq]at *
 exact AS h
theorem uS{X:Cx}{a:K4}{b:K4}{ta:TEd}{tb:TEd}{pos:Pos}{rest:List K4}(ha:QEd X a ta) (hb:QEd X (.BoolOp .And (b::rest) pos) tb):QEd X (.BoolOp .And (a::b::rest) pos) (C5 ta tb):=by
 simp only[QEd.eq]at *
 exact(A8 ha hb).conv fun σ H Q hup=>hup.el fun Δ M R sr hr q k=>⟨Δ,M,_,sr,hr,q,fun d M1 v H1 ⟨c,e,q1⟩ e1 hr1 rv=>⟨c,by subst e;simpa only[Rep]using rv,by
   cases c with
   |true=>simp only[if_true]at q1 ⊢;exact⟨Δ,M1,R,sr.ext e1,hr1,q1,fun b M2 v2 H2 q2 e2 hr2 r2=>k b M2 v2 H2 q2 (e1.trans e2) hr2 r2⟩
   |false=>simp only[K8,if_false]at q1 ⊢;exact k _ M1 _ H1 q1 e1 hr1 (by simp[Rep])⟩⟩
theorem wI{X:Cx}{a:K4}{b:K4}{c:K4}{ta:TEd}{tb:TEd}{pos:Pos}{tc:TEd}{op op':am9}{r r':D->D->Option D}(ho:bW X (Q9 op) r) (ho':bW X (Q9 op') r') (ha:QEd X a ta) (hb:QEd X b tb) (hc:QEd X c tc)
  (hm:lastMarks [op,op'] [b,c]=false:=by with_unfolding_all rfl):QEd X (.Compare a [op,op'] [b,c] pos) (tN r r' ta tb tc):=by
 simp only[QEd.eq]at *
 refine(we ho.v ho'.v ha hb hc hm).conv fun σ H Q h=>?_;obtain⟨Δ,M,R,sr,hr,q,k⟩:=h;refine⟨Δ,M,_,sr,hr,q,fun x M1 v H1 q1 e1 hr1 rv=>⟨Δ,M1,_,sr.ext e1,hr1,q1,fun y M2 u H2 ⟨b,eb,q2⟩ e2 hr2 ru=>⟨_,_,.bl b,M2,hr2,(rv.ext e2).rd hr2,ru.rd hr2,eb,fun w H3 e3 hr3 rw_ =>
  ⟨b,by simpa only[Rep]using rw_,?_⟩⟩⟩⟩
 cases b with
 |true =>
  simp only[if_true]at q2 ⊢;exact⟨Δ,M2,_,(sr.ext (e1.trans e2)).ext e3,hr3,q2,fun z M4 w4 H4 ⟨d,ed,q4⟩ e4 hr4 r4=>⟨_,_,d,M4,hr4,((ru.ext e3).ext e4).rd hr4,r4.rd hr4,ed,fun w5 H5 e5 hr5 r5=>k d M4 w5 H5 q4 ((((e1.trans e2).trans e3).trans e4).trans e5) hr5 r5⟩⟩
 |false =>
  simp only[K8,if_false]at q2 ⊢;exact k _ M2 _ H3 q2 ((e1.trans e2).trans e3) hr3 (by simp[Rep])
theorem aI{X:Cx}{pos:Pos}{x:Str}{p:Pos}{e:K4}{es:List K4}{t:TAd}{id:String}{r:List D->Option D}(hc:bh X (.builtin id) r) (hg:Gl X x) (hm:X.mg x=none) (hv:V8 x=some (.builtin id)) (ha:QAd X (e::es) t) (hn:x≠"__name__":=by decide) (hdb:(x==("__debug__":Str))=false:=by decide)
  (he:E8 (e::es) X.env=(false,Z4 e X.env)::E8 es X.env:=by rfl) (hpl:(V0 pos (E8 es X.env)).any (·.1)=false:=by rfl):QEd X (.Call (.Name x p) (e::es) [] pos) (dCB r t):=by
 simp only[QEd.eq,QAd.eq]at *
 exact(gQ hc.v hg hm hv ha hn hdb he hpl).conv yR
theorem bA{X:Cx}{pos:Pos}{x:Str}{p:Pos}{e:K4}{es:List K4}{t:TAd}{id:String}{r:List D->Option D}(hc:bh X (.type id) r) (hg:Gl X x) (hm:X.mg x=none) (hv:V8 x=some (.type id)) (ha:QAd X (e::es) t) (hn:x≠"__name__":=by decide) (hdb:(x==("__debug__":Str))=false:=by decide)
  (he:E8 (e::es) X.env=(false,Z4 e X.env)::E8 es X.env:=by rfl) (hpl:(V0 pos (E8 es X.env)).any (·.1)=false:=by rfl):QEd X (.Call (.Name x p) (e::es) [] pos) (dCB r t):=by
 simp only[QEd.eq,QAd.eq]at *
 exact(sJ hc.v hg hm hv ha hn hdb he hpl).conv yR
theorem bC{X:Cx}:QSs X [] tR:=by
 simp only[QSs.eq]at *
 exact qY.conv fun D σ H hup=>hup.el fun Δ M E sr hr q u=>u.nx Δ M σ H q (Ext.refl _ _) hr sr
theorem ak{X:Cx}{st:Z7}{rest:List Z7}{t:TSd}{u:TSd}(h1:QSd X st t) (h2:QSs X rest u):QSs X (st::rest) (yi t u):=by
 simp only[QSd.eq,QSs.eq]at *
 exact(jo h1 h2).conv fun D σ H hup=>hup.el fun Δ M E sr hr q k=>⟨Δ,M,{ E with nx:=u E },sr,hr,q,⟨fun Δ' M' σ' H' q' e' hr' sr'=>⟨Δ',M',E,sr',hr',q',k.ext e'⟩,k.bk,k.ct,k.rt⟩⟩
theorem aw{X:Cx}{st:Z7}{t:TSd}(h1:QSd X st t):QSs X [st] t:=by
 simp only[QSd.eq,QSs.eq]at *
 exact mP h1
theorem bc{X:Cx}{e:K4}{te:TEd}{pos:Pos}(he:QEd X e te):QSd X (.Return (some e) pos) (CT te):=by
 simp only[QEd.eq,QSd.eq]at *
 exact(mr he).conv fun D σ H hup=>hup.el fun Δ M E sr hr q k=>⟨Δ,M,_,sr,hr,q,k.rt⟩
theorem jk{X:Cx}{e:K4}{te:TEd}{pos:Pos}(he:QEd X e te) (hs:Z0 e none pos.line X.env=ad0 false:=by rfl):QSd X (.Expr e pos) (yU te):=by
 simp only[QEd.eq,QSd.eq]at *
 exact(qG he hs).conv fun D σ H hup=>hup.el fun Δ M E sr hr q k=>⟨Δ,M,_,sr,hr,q,fun d M1 v H1 q1 e1 hr1 _=>k.nx Δ M1 σ H1 q1 e1 hr1 (sr.ext e1)⟩
theorem cz{X:Cx}{c:K4}{pos:Pos}{t:TSd}{u:TSd}{sa sb:List Z7}{tc:TTd}(hc:QTd X c tc) (ha:QSs X sa t) (hb:QSs X sb u):QSd X (.If c sa sb pos) (zQ tc t u):=by
 simp only[QTd.eq,QSd.eq,QSs.eq]at *
 exact(zf hc ha hb).conv fun D σ H hup=>hup.el fun Δ M E sr hr q k=>⟨Δ,M,_,sr,hr,q,fun b M1 H1 q1 e1 hr1=>by
   cases b with
   |true=>simp only[if_true]at q1 ⊢;exact⟨Δ,M1,E,sr.ext e1,hr1,q1,k.ext e1⟩
   |false=>simp only[K8,if_false]at q1 ⊢;exact⟨Δ,M1,E,sr.ext e1,hr1,q1,k.ext e1⟩⟩
theorem aH{X:Cx}{e:K4}{te:TEd}{pos:Pos}{i:Nat}{x:Str}{pos':Pos}(hN:X.N.Nodup) (hi:X.N[i]?=some x) (hx:Loc X.env.scope x) (he:QEd X e te) (hs:Z0 e (some (.Name x pos')) pos.line X.env=ad0 false:=by rfl) (hf:X.fn x=true∨X.env.scope.names.lookup x=some .local:=by first|exact .inl rfl|exact .inr rfl|assumption) :
  QSd X (.Assign [.Name x pos'] e pos) (ua i te):=by
 simp only[QEd.eq,QSd.eq]at *
 exact(uI hN hi hx he hs hf).conv fun D σ H hup=>hup.el fun Δ M E sr hr q k=>⟨Δ,M,_,sr,hr,q,fun d M1 v H1 q1 e1 hr1 rv=>k.nx _ M1 _ H1 q1 e1 hr1 ((sr.ext e1).set i rv)⟩
theorem rH{X:Cx}{t:TSd}{sts:List Z7}(i:Nat) (h:QSs X sts t):QSs X sts (vT i t):=by
 simp only[QSs.eq]at *
 exact PSs.conv h fun D σ H ⟨Δ,M,E,sr,hr,⟨a,ds,e1,e2,q⟩,k⟩=>by
  refine⟨_,fR M a,E,?_,hr.le LeM.del,q,k.ext (Ext.le LeM.del)⟩;obtain⟨v,ev,rv⟩:=sr.2 i _ e1;simp only[Rep]at rv;subst rv;have:=(sr.ext (Ext.le (M1:=fR M a) LeM.del)).set i (Rep.froze (M1:=fR M a) hr LeM.del e2 fG);have es:σ.set i (some (.ref a))=σ:=by
   apply List.ext_getElem?;intro j
   by_cases hj:j=i
   ·subst hj;have hl:j<σ.length:=(F4.mp ev).1;rw[R4 hl,ev]
   ·rw[U5 (M9 hj)]
  rw[es]at this;exact this
theorem zi{X:Cx}{e:K4}{te:TEd}{pos:Pos}{tg:K4}{g:GD}(he:QEd X e te) (hg:PGd X tg g) (hs:swapsWithSole [tg] e pos.line X.env=ad0 false:=by rfl) (hw:swappedStores [tg] e X.env=ad0 none:=by rfl)
  (h1:(V2 [tg] X.env).map (·.2)=[af7 tg X.env]:=by rfl):QSd X (.Assign [tg] e pos) (Du te g):=by
 simp only[QEd.eq,QSd.eq]at *
 obtain⟨gv,pg,kg⟩:=hg;exact(ub he pg hs hw h1).conv fun D σ H hup=>hup.el fun Δ M E sr hr q k=>⟨Δ,M,_,sr,hr,q,fun d M1 v H1 ⟨Δ',eg,q1⟩ e1 hr1 rv=>kg d v σ Δ Δ' M1 H1 _ (sr.ext e1) hr1 rv eg fun σ' sr'=>k.nx Δ' M1 σ' H1 q1 e1 hr1 sr'⟩
theorem bp{X:Cx}{a:K4}{pos:Pos}{tg:K4}{ta:TAd}{p:Pos}(hg:Gl X "range") (hm:X.mg "range"=none) (ha:QAd X [a] ta) (hs:E8 [a] X.env=[(false,Z4 a X.env)]:=by rfl):QId X tg (.Call (.Name "range" p) [a] [] pos) (uw ta):=by
 simp only[QAd.eq,QId.eq]at *
 exact(r8 hg hm ha hs).conv fun σ H R hup=>hup.el fun Δ M R' sr hr q k=>⟨Δ,M,_,sr,hr,q,fun ds M1 vs H1 ⟨j,ed,h1,h2,q1⟩ e1 hr1 rv=>by
   subst ed;obtain⟨v,ev,rv1⟩:=rv.one;have ev1:v=.int j:=by simpa only[Rep]using rv1
   subst ev1;subst ev;exact⟨j,rfl,h1,h2,k _ M1 _ H1 q1 e1 hr1 wX⟩⟩
theorem dI{X:Cx}{pos:Pos}{tg:K4}{iter:K4}{body:List Z7}{wi:TId}{g:GD}{tb:TSd}(hp:T3 (J9 X.prog X.w) X.A X.env X.xe) (hc:X.calm=true) (hi:QId X tg iter wi) (hg:PGd X tg g) (hb:QSs X body tb)
  (hs:∀x,O1 iter X.env x=ad0 x:=by intro _;rfl):QSd X (.For tg iter body [] pos) (AQ wi g tb):=by
 simp only[QSd.eq,QSs.eq,QId.eq]at *
 obtain⟨gv,pg,kg⟩:=hg;refine(uC hp hc hi pg hb hs).conv fun D σ H hh=>?_;obtain⟨Δ,M,E,sr,hr,q,k⟩:=hh;refine⟨Δ,M,_,sr,hr,q,fun ds M1 J H1 q1 e1 hr1 it=>?_⟩;refine⟨fun i m σ' H'=>∃ Δ' M',m=ds.length-i/\i<=ds.length/\Ext M1 H1 M' H'/\HR X.K M' H'/\SR X.K M' H' σ' Δ'/\cE g tb E (ds.drop i) Δ' M',⟨ds.length,Δ,M1,by simp,O4 _,Ext.refl _ _,hr1,sr.ext e1,q1⟩,?_⟩;rintro i m σ2 H2 ⟨Δ2,M2,rfl,hi2,e2,hr2,sr2,f2⟩;obtain⟨go,stop⟩:=it M2 H2 e2 hr2 i
 by_cases hlt:i<ds.length
 ·have hd:ds[i]?=some ds[i]:=by simp[hlt]
  obtain⟨g1,y1⟩:=go _ hd;rw[V7 hlt]at f2;simp only[cE]at f2;obtain⟨Δ3,eg,f3⟩:=f2;refine .inr ⟨g1,fun σ' H'=>∃m',m'<ds.length-i/\∃ Δ' M',m'=ds.length-(i+1)/\i+1<=ds.length/\Ext M1 H1 M' H'/\HR X.K M' H'/\SR X.K M' H' σ' Δ'/\cE g tb E (ds.drop (i+1)) Δ' M',fun σ' H' z=>z,fun x H' hy=>?_⟩;obtain⟨e3,hr3,rx⟩:=y1 x H' hy;refine kg _ x σ2 Δ2 Δ3 M2 H' _ (sr2.ext e3) hr3 rx eg fun σ3 sr3=>?_;refine⟨Δ3,M2,_,sr3,hr3,f3,⟨fun Δ' M' σ' H'' q' e' hr' sr'=>?_,fun Δ' M' σ' H'' q' e' hr' sr'=>?_,fun Δ' M' σ' H'' q' e' hr' sr'=>?_,fun d M' v H'' q' e' hr' rv'=>?_⟩⟩
  ·exact⟨_,by lia,Δ',M',rfl,hlt,(e2.trans e3).trans e',hr',sr',q'⟩
  ·exact k.nx Δ' M' σ' H'' q' (((e1.trans e2).trans e3).trans e') hr' sr'
  ·exact⟨_,by lia,Δ',M',rfl,hlt,(e2.trans e3).trans e',hr',sr',q'⟩
  ·exact k.rt d M' v H'' q' (((e1.trans e2).trans e3).trans e') hr' rv'
 ·rw[Z5 (by lia)]at f2;exact .inl ⟨stop (by lia),k.nx Δ2 M2 σ2 H2 f2 (e1.trans e2) hr2 sr2⟩
theorem xh{X:Cx}{c:K4}{pos:Pos}{body:List Z7}{tc:TTd}{tb:TSd}(hp:T3 (J9 X.prog X.w) X.A X.env X.xe) (hc:QTd X c tc) (hb:QSs X body tb):QSd X (.While c body [] pos) (wm tc tb):=by
 simp only[QTd.eq,QSd.eq,QSs.eq]at *
 refine(um hp hc hb).conv fun D σ H hh=>?_;obtain⟨Δ,M,E,sr,hr,⟨W,⟨m0,w0⟩,turn⟩,k⟩:=hh;refine⟨fun m σ' H'=>∃ Δ' M',Ext M H M' H'/\HR X.K M' H'/\SR X.K M' H' σ' Δ'/\W m Δ' M',⟨m0,Δ,M,Ext.refl _ _,hr,sr,w0⟩,?_⟩;rintro m σ1 H1 ⟨Δ1,M1,e1,hr1,sr1,w1⟩;refine⟨Δ1,M1,_,sr1,hr1,turn m Δ1 M1 w1,fun b M2 H2 q2 e2 hr2=>?_⟩;cases b with
 |true =>
  simp only[if_true]at q2 ⊢;refine⟨fun σ' H'=>∃m',m'<m/\∃ Δ' M',Ext M H M' H'/\HR X.K M' H'/\SR X.K M' H' σ' Δ'/\W m' Δ' M',fun σ' H' z=>z,Δ1,M2,_,sr1.ext e2,hr2,q2,⟨fun Δ' M' σ' H'' ⟨m',hm,w'⟩ e' hr' sr'=>?_,fun Δ' M' σ' H'' q' e' hr' sr'=>?_,fun Δ' M' σ' H'' ⟨m',hm,w'⟩ e' hr' sr'=>?_,fun d M' v H'' q' e' hr' rv'=>?_⟩⟩
  ·exact⟨m',hm,Δ',M',(e1.trans e2).trans e',hr',sr',w'⟩
  ·exact k.nx Δ' M' σ' H'' q' ((e1.trans e2).trans e') hr' sr'
  ·exact⟨m',hm,Δ',M',(e1.trans e2).trans e',hr',sr',w'⟩
  ·exact k.rt d M' v H'' q' ((e1.trans e2).trans e') hr' rv'
 |false =>
  simp only[K8,if_false]at q2 ⊢;exact k.nx Δ1 M2 σ1 H2 q2 (e1.trans e2) hr2 (sr1.ext e2)
theorem bI{X:Cx}:QIf X [] kz:=by
 simp only[QIf.eq]at *
 exact fun aa s σ H Q I ⟨Δ,M,R,sr,hr,q,k⟩=>yn aa s σ H Q I (k true M H q (Ext.refl _ _) hr)
theorem uV{X:Cx}{c:K4}{tc:TTd}(h:QTd X c tc):QIf X [c] tc:=by
 simp only[QTd.eq,QIf.eq]at *
 exact yc h
theorem ic{X:Cx}{pos:Pos}{tg:K4}{iter:K4}{elt:K4}{scope:aa5}{cl:List (Str×E5)}{ms:List Bool}{ao:List Str}{ifs:List K4}{wi:TId}{g:GD}{tc:TTd}{te:TEd}(S:cC X scope cl ms ao) (cO:X.calm=true) (hi:QId X tg iter wi) (hg:PGa X scope cl ao tg g)
  (hif:∀C s H ex,QIf (aD X scope cl (X.N++ao) C s H ex) ifs tc) (he:∀C s H ex,QEd (aD X scope cl (X.N++ao) C s H ex) elt te)
  (hs:∀x,O1 iter X.env x=ad0 x:=by intro _;rfl):QEd X (.ListComp elt [⟨tg,iter,ifs,0⟩] scope pos) (dLc ms ao.length wi g tc te):=by
 simp only[QEd.eq,QId.eq,QIf.eq]at *
 obtain⟨gv,pg,kg⟩:=hg;exact(AZ (tc:=upT X.K tc) S cO hi pg hif (uq (te:=up X.K te) he) hs).conv (qA kg)
theorem jj{X:Cx}{pos:Pos}{tg:K4}{iter:K4}{elt:K4}{scope:aa5}{cl:List (Str×E5)}{ms:List Bool}{ao:List Str}{ifs:List K4}{i:Nat}{x:Str}{spos pos':Pos}{wi:TId}{g:GD}{tc:TTd}{te:TEd}(hN:X.N.Nodup) (hix:X.N[i]?=some x) (hx:X.env.scope.names.lookup x=some .local)
  (hsw:Z0 (.ListComp elt [⟨tg,iter,ifs,0⟩] scope pos) (some (.Name x pos')) spos.line X.env=ad0 true) (S:cC X scope cl ms ao) (cO:X.calm=true) (hi:QId X tg iter wi) (hg:PGa X scope cl ao tg g)
  (hif:∀C s H ex,QIf (aD X scope cl (X.N++ao) C s H ex) ifs tc) (he:∀C s H ex,QEd (aD X scope cl (X.N++ao) C s H ex) elt te)
  (hs:∀x,O1 iter X.env x=ad0 x:=by intro _;rfl):QSd X (.Assign [.Name x pos'] (.ListComp elt [⟨tg,iter,ifs,0⟩] scope pos) spos) (ua i (dLc ms ao.length wi g tc te)):=by
 simp only[QEd.eq,QSd.eq,QId.eq,QIf.eq]at *
 obtain⟨gv,pg,kg⟩:=hg;refine(lP (tc:=upT X.K tc) hN hix hx hsw S cO hi pg hif (uq (te:=up X.K te) he) hs).conv fun D σ H hh=>?_;obtain⟨Δ,M,E,sr,hr,q,k⟩:=hh;exact qA kg σ H _ ⟨Δ,M,_,sr,hr,q,fun d M1 v H1 q1 e1 hr1 rv=>k.nx _ M1 _ H1 q1 e1 hr1 ((sr.ext e1).set i rv)⟩
theorem rC{X:Cx}{e:K4}{te:TEd}{pos:Pos}{o i:K4}{to ti:TEd}{p:Pos}(ho:QEd X o to) (hi:QEd X i ti) (he:QEd X e te)
  (ha:∀ v,af7 (.Subscript o i p) X.env v = (do
   let ov <-aj3 [v] (Z4 o X.env)
   let iv <-aj3 [v,ov] (Z4 i X.env)
   am0 p
   aj3 [v,ov,iv] (setItem ov iv v)
   release [v,ov,iv] []):=by intro _;rfl) (hs:swapsWithSole [.Subscript o i p] e pos.line X.env=ad0 false:=by rfl) (hw:swappedStores [.Subscript o i p] e X.env=ad0 none:=by rfl)
  (h1:(V2 [.Subscript o i p] X.env).map (·.2)=[af7 (.Subscript o i p) X.env]:=by rfl):QSd X (.Assign [.Subscript o i p] e pos) (Dz to ti te):=by
 simp only[QEd.eq,QSd.eq]at *
 exact(ub he (zE ho hi wu ha) hs hw h1).conv fun D σ H hup=>hup.el fun Δ M E sr hr q k=>⟨Δ,M,_,sr,hr,q,fun d M1 v H1 q1 e1 hr1 rv=>⟨Δ,M1,_,sr.ext e1,hr1,q1,fun o M2 ov H2 q2 e2 hr2 ro=>⟨Δ,M2,_,(sr.ext e1).ext e2,hr2,q2,fun i M3 iv H3 ⟨a,ds,kk,j,eo,ei,em,ej,q3⟩ e3 hr3 ri=>by
   subst eo;subst ei;simp only[Rep]at ro ri;subst ro;subst ri;obtain⟨vs,hv,rl⟩:=hr3 a _ em;refine⟨a,vs,kk,j,rfl,rfl,hv,by rw[<-rl.length];exact ej,?_⟩;exact k.nx Δ _ σ _ q3 (((e1.trans e2).trans e3).trans (Ext.write em)) (hr3.write em (rl.set j ((rv.ext e2).ext e3))) ((((sr.ext e1).ext e2).ext e3).ext (Ext.write em))⟩⟩⟩
theorem tQ{X:Cx}{e:K4}{te:TEd}{o:K4}{to:TEd}{dP bj:Pos}(ho:QEd X o to) (he:QEd X e te) (et:aa7 o "append" X.env (Z4 o X.env)=Z4 o X.env:=by rfl)
  (hse:E8 [e] X.env=(false,Z4 e X.env)::E8 [] X.env:=by rfl)
  (mG:((V0 bj (E8 [e] X.env)).all (fun x => !x.1) && (al5 bj (af2 [] X.env)).all (fun x => x.1.isSome)
  &&decide ([e].length+([]:List ah1).length+(if([]:List ah1).isEmpty then 0 else 1)<30))=true:=by rfl)
  (gF:(dP.endLine==bj.line)=true:=by rfl) (eI:(V0 bj (E8 [] X.env)).any (·.1)=false:=by rfl):QEd X (.Call (.Attribute o "append" dP) [e] [] bj) (CU to te):=by
 simp only[QEd.eq]at *
 exact(rD ac6 PySem.F.slot_list_append PySem.F.type_list_append (show MtR X "list.append" qj from sF) ho (bf he dw hse) et mG gF hse eI).conv fun σ H Q hup=>hup.el fun Δ M R sr hr q k=>⟨Δ,M,_,sr,hr,q,fun o M1 ov H1 ⟨a,l,eo,em,q1⟩ e1 hr1 ro=>by
   subst eo;simp only[Rep]at ro;subst ro;obtain⟨vs,hv,rl⟩:=hr1 a _ em;refine⟨.inl ⟨rfl,vs,SqL.of hv⟩,Δ,M1,_,sr.ext e1,hr1,q1,fun d M2 v H2 ⟨ds,em2,hz,q2⟩ e2 hr2 rv=>?_⟩;obtain⟨ws,hw,rl2⟩:=hr2 a _ em2;refine⟨a,ws,v,rfl,rfl,hw,by rw[<-rl2.length];exact hz,k _ _ _ _ q2 ((e1.trans e2).trans (Ext.write em2)) (hr2.write em2 (rl2.append (am.cons rv am.nil))) (by simp[Rep])⟩⟩
theorem yL{X:Cx}{a:K4}{ta:TEd}{pos:Pos}{T:Str}{Tn:String}{p p2:Pos}(hT:okT Tn=true) (hg:Gl X "isinstance") (hm:X.mg "isinstance"=none) (hg2:Gl X T) (hm2:X.mg T=none) (hv2:V8 T=some (.type Tn)) (ha:QEd X a ta) (hn2:T≠"__name__":=by decide) (hd2:(T==("__debug__":Str))=false:=by decide)
  (hs:E8 [a,.Name T p2] X.env=(false,Z4 a X.env)::E8 [.Name T p2] X.env:=by rfl) (hs2:E8 [.Name T p2] X.env=(false,Z4 (.Name T p2) X.env)::E8 [] X.env:=by rfl) (hpl:(V0 pos (E8 [.Name T p2] X.env)).any (·.1)=false:=by rfl) :
  QEd X (.Call (.Name "isinstance" p) [a,.Name T p2] [] pos) (Dh Tn ta):=by
 simp only[QEd.eq]at *
 have hc:cw X (.builtin "isinstance") (fun xs H Q=>∃v d k M,xs=[v,.ty Tn]/\aN X.K M H d v/\xG Tn d=some k/\Q (.bl k) H):=by
  intro aa s σ H xs us Q I rv h;obtain⟨v,d,k,M,rfl,rd,ek,q⟩:=h;obtain⟨u1,u2,rfl,r1,r2⟩:=ax.two rv;cases r2;exact so hT I r1 rd ek q
 refine(gQ hc hg hm (by kernel_rfl) (bf ha (bf (qH (v:=.ty Tn) hg2 hm2 hv2 rfl hn2 hd2) dw hs2) hs) (by decide) (by decide) hs hpl).conv fun σ H Q hh=>?_;obtain⟨Δ,M,R,sr,hr,q,k⟩:=hh;exact⟨Δ,M,_,sr,hr,q,fun d M1 v H1 ⟨kk,ek,q1⟩ e1 hr1 rv=>⟨v,_,kk,M1,rfl,rv.rd hr1,ek,k _ M1 _ H1 q1 e1 hr1 (by simp[Rep])⟩⟩
theorem cH{X:Cx}:QOd X none mD:=by
 simp only[QEd.eq,QAd.eq,QTd.eq,QWd.eq,QSd.eq,QSs.eq,QId.eq,QIf.eq,QOd.eq]at *
 exact yp 
theorem bY{X:Cx}{e:K4}{te:TEd}(h:QEd X e te):QOd X (some e) (uY te):=by
 simp only[QEd.eq,QAd.eq,QTd.eq,QWd.eq,QSd.eq,QSs.eq,QId.eq,QIf.eq,QOd.eq]at *
 exact wL (h:=h)
theorem qc{X:Cx}{e:K4}{es:List K4}{t:TAd}{pos:Pos}{p:Pos}{x:Str}{k:Nat}{n:Nat}{S:SpD}(F:FnD X.prog X.w X.K X.mg X.base x k n S) (hr:bt k X.A) (hg:Gl X x) (ha:QAd X (e::es) t) (hdb:(x==("__debug__":Str))=false:=by decide) (he:E8 (e::es) X.env=(false,Z4 e X.env)::E8 es X.env:=by rfl) (hpl:(V0 pos (E8 es X.env)).any (·.1)=false:=by rfl) :
  QEd X (.Call (.Name x p) (e::es) [] pos) (oH n S t):=by
 simp only[QEd.eq,QAd.eq,QTd.eq,QWd.eq,QSd.eq,QSs.eq,QId.eq,QIf.eq,QOd.eq]at *
 exact dc (F:=F) (hr:=hr) (hg:=hg) (ha:=ha) (hdb:=hdb) (he:=he) (hpl:=hpl)
theorem AJ{X:Cx}{e:K4}{te:TEd}{pos:Pos}(he:QEd X e te):QSd X (.Return (some e) pos) (yY te):=by
 simp only[QEd.eq,QSd.eq]at *
 exact(mr he).conv fun D σ H hup=>hup.el fun Δ M E sr hr q k=>⟨Δ,M,_,sr,hr,q,fun d M1 v H1 ⟨a,ds,ed,em,q1⟩ e1 hr1 rv=>by
  subst ed;simp only[Rep]at rv;subst rv;exact k.rt _ _ _ H1 q1 (e1.trans (Ext.le LeM.del)) (hr1.le LeM.del) (Rep.froze hr1 LeM.del em fG)⟩
theorem cb{X:Cx}{te:TEd}{tg:K4}{iter:K4}(h:QEd X iter te):QId X tg iter (vy te):=by
 simp only[QEd.eq,QId.eq]at *
 intro aa s σ H R I hh;obtain⟨Δ,M,R',sr,hr,q,k⟩:=hh;refine thn (h aa s σ H (fun v H1=>∃d ds M1,gh d=some ds/\(ds.length<=E4->R' ds M1)/\Ext M H M1 H1/\HR X.K M1 H1/\Rep X.K M1 H1 d v) I ⟨Δ,M,_,sr,hr,q,fun d M1 v H1 ⟨ds,ed,q1⟩ e1 hr1 rv=>⟨d,ds,M1,ed,q1,e1,hr1,rv⟩⟩) fun u s1 ⟨v,H1,I1,r1,d,ds,M1,ed,q1,e1,hr1,rv⟩=>?_;have lo:=aN.len (K:=X.K) I1 rv;cases d with
 |tup es =>
  cases ed;simp only[Rep]at rv;obtain⟨a,vs,rfl,ta,rl⟩:=rv;cases r1;obtain⟨its,rvv,p,hz⟩:=I1.tuple ta.sq;refine U0 (show s1.heap.IsTuple a its.toArray from p) ?_;refine⟨s1.heap.objs.size,[s1.heap.objs.size],_,_,H1,rfl,I1.kept (t':=s1.toks) fun b o e=>E1 _ e,pD a _,⟨_,F0 _ rfl,rfl,rfl⟩,pT (o:=ap6) I1,?_⟩;refine k _ M1 _ H1 (q1 lo) e1 hr1 fun M2 H2 e2 hr2 i=>⟨fun d hd=>?_,fun hl=>⟨vs,(ta.ext e2).sq,by rw[<-rl.length];exact hl⟩⟩;obtain⟨v,gv,r⟩:=rl.get hd;refine⟨⟨vs,v,(ta.ext e2).sq,gv⟩,fun x H' ⟨eH,y⟩=>?_⟩;subst eH;have:=y vs (ta.ext e2).sq;rw[gv]at this;cases this;exact⟨Ext.refl _ _,hr2,r.ext e2⟩
 |lst es =>
  cases ed;simp only[Rep]at rv;obtain⟨a,vs,rfl,ta,rl⟩:=rv;cases r1;obtain⟨its,rvv,p,hz⟩:=I1.list (SqL.of ta.1);refine X6 p.isList ?_;refine⟨s1.heap.objs.size,[s1.heap.objs.size],_,_,H1,rfl,I1.kept (t':=s1.toks) fun b o e=>E1 _ e,lr a _,⟨_,F0 _ rfl,rfl,rfl⟩,pT (o:=ap6) I1,?_⟩;refine k _ M1 _ H1 (q1 lo) e1 hr1 fun M2 H2 e2 hr2 i=>⟨fun d hd=>?_,fun hl=>⟨vs,SqL.of (ta.ext e2).1,by rw[<-rl.length];exact hl⟩⟩;obtain⟨v,gv,r⟩:=rl.get hd;refine⟨⟨vs,v,SqL.of (ta.ext e2).1,gv⟩,fun x H' ⟨eH,y⟩=>?_⟩;subst eH;have:=y vs (SqL.of (ta.ext e2).1);rw[gv]at this;cases this;exact⟨Ext.refl _ _,hr2,r.ext e2⟩
 |scr es =>
  cases ed;simp only[Rep]at rv;obtain⟨a,vs,rfl,ta,rl⟩:=rv;cases r1;obtain⟨its,rvv,p,hz⟩:=I1.list ta.sq;refine X6 p.isList ?_;refine⟨s1.heap.objs.size,[s1.heap.objs.size],_,_,H1,rfl,I1.kept (t':=s1.toks) fun b o e=>E1 _ e,lr a _,⟨_,F0 _ rfl,rfl,rfl⟩,pT (o:=ap6) I1,?_⟩;refine k _ M1 _ H1 (q1 lo) e1 hr1 fun M2 H2 e2 hr2 i=>⟨fun d hd=>?_,fun hl=>⟨vs,(ta.ext e2).sq,by rw[<-rl.length];exact hl⟩⟩;obtain⟨v,gv,r⟩:=rl.get hd;refine⟨⟨vs,v,(ta.ext e2).sq,gv⟩,fun x H' ⟨eH,y⟩=>?_⟩;subst eH;have:=y vs (ta.ext e2).sq;rw[gv]at this;cases this;exact⟨Ext.refl _ _,hr2,r.ext e2⟩
 |str x =>
  simp only[gh]at ed
  by_cases hz:x.length<=E4
  ·rw[if_pos hz]at ed;cases ed;simp only[Rep]at rv;subst rv;obtain⟨t,rfl⟩:=r1;have hq:=k _ M1 _ H1 (q1 (by have hz2:x.cps.size<=E4:=hz;simpa[fC]using hz2)) e1 hr1 Aq;cases ha:x.cps.all (·<128)
   ·exact wpAny_pyIter_wide ha (qL I1 "str_iterator" (by decide) (fun A hA=>Walks.strWide hA _ x t) (fun A i s' Q E st q=>wpAny_pyIter_striter_wide st q) hq)
   ·exact wpAny_pyIter_ascii ha (qL I1 "str_ascii_iterator" (by decide) (fun A hA=>Walks.strAscii hA _ x t) (fun A i s' Q E st q=>wpAny_pyIter_striter_ascii st q) hq)
  ·rw[if_neg hz]at ed;cases ed
 |_=>cases ed
theorem iG{X:Cx}{e:K4}{te:TEd}{pos:Pos}(he:QEd X e te):QSd X (.Return (some e) pos) (zu te):=by
 simp only[QEd.eq,QSd.eq]at *
 exact(mr he).conv fun D σ H hup=>hup.el fun Δ M E sr hr q k=>⟨Δ,M,_,sr,hr,q,fun d M1 v H1 ⟨M2,hle,q1⟩ e1 hr1 rv =>
  k.rt _ _ _ H1 q1 (e1.trans (Ext.le hle)) (hr1.le hle) (rv.ext (Ext.le hle))⟩
theorem bX{X:Cx}{e:K4}{te:TEd}{pos:Pos}{lo hi:Option K4}{tl th:TOd}{p2:Pos}(he:QEd X e te) (hl:QOd X lo tl) (hu:QOd X hi th):QEd X (.Subscript e (.Slice lo hi none p2) pos) (BQ te tl th):=by
 simp only[QEd.eq,QOd.eq]at *
 refine(nr (SlR.or qM (SlR.or vf (SlR.or uc nB))) he hl hu).conv fun σ H Q hh=>?_;obtain⟨Δ,M,R,sr,hr,q,k⟩:=hh;refine⟨Δ,M,_,sr,hr,q,fun x M1 v H1 q1 e1 hr1 rv=>⟨Δ,M1,_,sr.ext e1,hr1,q1,fun l M2 H2 q2 e2 hr2=>⟨Δ,M2,_,(sr.ext e1).ext e2,hr2,q2,fun u M3 H3 ⟨z,ez,q3⟩ e3 hr3=>?_⟩⟩⟩;have rr:=((rv.ext e2).ext e3).rd hr3;have ee:=(e1.trans e2).trans e3;have kk:∀w H',Ext M3 H3 M3 H'->HR X.K M3 H'->Rep X.K M3 H' z w->Q w H':=fun w H' e4 hr4 r4=>k z M3 w H' q3 (ee.trans e4) hr4 r4;generalize rdM M3 x=d at rr ez;cases d with
 |lst ds =>
  cases ez;obtain⟨a,vs,rfl,sq,rl⟩:=rr;refine .inl ⟨a,vs,rfl,SqL.of sq,fun p hp=>mV hr3 hp ?_ kk⟩;unfold b7 kE;rw[<-rl.length];exact(rl.drop _).take _
 |scr ds =>
  cases ez;obtain⟨a,vs,rfl,sq,rl⟩:=rr;refine .inl ⟨a,vs,rfl,sq,fun p hp=>mV hr3 hp ?_ kk⟩;unfold b7 kE;rw[<-rl.length];exact(rl.drop _).take _
 |str s =>
  simp only[slE,slD]at ez
  by_cases hz:s.length<=E4
  ·rw[if_pos hz]at ez;cases ez;exact .inr (.inr (.inl ⟨s,oS rr,hz,kk _ H3 (Ext.refl _ _) hr3 (by simp[Rep])⟩))
  ·rw[if_neg hz]at ez;cases ez
 |tup ds =>
  cases ez;have rt:=aN.tup hr3 rr;obtain⟨a,vs,rfl,sq,rl⟩:=rr
  by_cases hw:HT.sIx ds.length 0 l=0/\HT.sIx ds.length ds.length u=ds.length
  ·refine .inr (.inr (.inr ⟨a,vs,rfl,sq,by rw[<-rl.length];exact hw,kk _ H3 (Ext.refl _ _) hr3 ?_⟩));rw[pZ hw];exact rt
  ·refine .inr (.inl ⟨a,vs,rfl,sq,by rw[<-rl.length];exact hw,fun p hp=>iz hr3 hp ?_ kk⟩);unfold b7 kE;rw[<-rl.length];exact(rl.drop _).take _
 |_=>cases ez
theorem uG{X:Cx}{e:K4}{te:TEd}{ts:TEd}{pos:Pos}{st:K4}{p2:Pos}(he:QEd X e te) (hs:QEd X st ts):QEd X (.Subscript e (.Slice none none (some st) p2) pos) (vS te ts):=by
 simp only[QEd.eq]at *
 intro aa s σ H Q I hh;obtain⟨Δ,M,R,sr,hr,q,k⟩:=hh;refine ao6 (thn (he aa s σ H (fun v H1=>∃x M1,Rep X.K M1 H1 x v/\Ext M H M1 H1/\HR X.K M1 H1/\ts Δ M1 fun st M2=>st=.int (-1)/\∃ds,x=.tup ds/\R (.tup ds.reverse) M2) I
  ⟨Δ,M,_,sr,hr,q,fun x M1 v H1 q1 e1 hr1 rv=>⟨x,M1,rv,e1,hr1,q1⟩⟩) fun v s1 ⟨vx,H1,I1,r1,x,M1,rv,e1,hr1,q1⟩=>?_)
 refine wpAny_Slice ?_;rw[evalPart_none];refine E3 (E3 ?_);rw[evalPart_some];refine thn (hs aa s1 σ H1 (fun u H2=>∃M2 ds,u=.int (-1)/\x=.tup ds/\R (.tup ds.reverse) M2/\Ext M1 H1 M2 H2/\HR X.K M2 H2) I1 ⟨Δ,M1,_,sr.ext e1,hr1,q1,fun d M2 u H2 ⟨ed,ds,ex,q2⟩ e2 hr2 ru=>⟨M2,ds,by subst ed;simpa only[Rep]using ru,ex,q2,e2,hr2⟩⟩) fun u s2 ⟨vu,H2,I2,r2,M2,ds,eu,ex,q2,e2,hr2⟩=>?_;subst eu;subst ex;obtain⟨tk,rfl⟩:=r2;have rv2:=rv.ext e2;simp only[Rep]at rv2;obtain⟨ad,vs,rfl,ta,rl⟩:=rv2;cases r1;have I4:Inv X aa σ H2 { s2 with heap:=s2.heap.push { cls:=.type "slice",data:=.fields #[.none,.none,.int (-1) tk] } }:=I2.kept (t':=s2.toks) fun b ob q=>E1 _ q;obtain⟨its,r,ht,hz⟩:=I4.tuple ta.sq;have hl:=r.length;refine tail_any (ops:=[.ref ad,.ref s2.heap.objs.size]) ht.typeIs M0.lookup (HT.getItem_tuple_rev ht (I0.IsSliceOf.new ..) ?_ (by rw[F1,<-hl];exact hz)) (by with_unfolding_all rfl);have rr:ax vs.reverse its.reverse:=ax.reverse r;refine⟨.ref _,_,I4.laid (t':=s2.toks) (o:=.tup vs.reverse) (fun b ob q=>E1 _ q) (F5 _) ?_,rfl,?_⟩
 ·exact⟨by simpa using hz,_,rr,gf.new _ _⟩
 ·exact iz (ds:=ds.reverse) hr2 (I4.hok.fresh (F5 _)) rl.reverse fun w H' e4 hr4 r4=>k _ M2 w H' q2 ((e1.trans e2).trans e4) hr4 r4
theorem xj{X:Cx}{st:Z7}:QSd X st vJ:=by
 simp only[QSd.eq]at *
 exact fun aa s σ H D I ⟨_,_,_,_,_,q,_⟩=>Q6 q
section
variable{X:Cx}{rest:List Z7}{t:TSd}{e:K4}{tt:TTd}
theorem wO(h:QSs X rest t):yj X rest t:=by
 rw[QSs.eq]at h;exact h
theorem wy(h:QWd X e tt):QTd X e tt:=by
 simp only[QWd.eq,QTd.eq]at *
 exact PWd.pt h
end
end L2
namespace L2
open PySem PySem.Spec PyProof.Rows PySem.Builtin.Str
end L2
namespace L2
open PySem PySem.Spec PyProof.Rows
def Few(n:Int):Prop:=J7.Int.intBits n<=2 ^ 20
end L2
namespace Att
open PySem PySem.W PySem.Calls PyProof.Rows
end Att
namespace L2
open PySem PySem.Spec PyProof.Rows
section
variable{X:Cx}{pos:Pos}
def yW(i j:Int):Prop:=fA i j∨(Few i/\Few j)
theorem yW.ok{i j:Int}(h:yW i j):IntMulOk i j:=by
 rcases h with h|⟨a,b⟩
 ·exact h.ok
 ·exact .of_bits a b
theorem ut{K:u8}{M:DH}{H:Hp}{a b:D}{xs:List V}(h:Z8 (aN K M H) [a,b] xs):∃v w,xs=[v,w]/\aN K M H a v/\aN K M H b w:=by
 cases h with
 |cons r t =>
  cases t with
  |cons r2 t2=>cases t2;exact⟨_,_,rfl,r,r2⟩
def dmD:List D->Option D
 |[.int i,.int j]=>if jq i j then some (.tup [.int (i / j),.int (i % j)])else none
 |_=>none
theorem vw:bh X (.builtin "divmod") dmD:=bh.of nu fun H M xs ds dz Q hr rp e q=>by
 unfold dmD at e
 split at e
 ·rename_i i j
  by_cases hc:jq i j
  ·rw[if_pos hc]at e;cases e;obtain⟨v,w,rfl,r1,r2⟩:=ut rp;rw[dq r1,dq r2];refine⟨i,j,rfl,hc,fun p hp=>?_⟩;exact iz hr hp (am.cons (by simp[Rep]) (am.cons (by simp[Rep]) am.nil)) q
  ·rw[if_neg hc]at e;cases e
 ·cases e
noncomputable def Ba:List D->Option D
 |[.int i,.int j]=>some (.int (if j > i then j else i))
 |_=>none
theorem BJ(hc:X.calm=true):bh X (.builtin "max") Ba:=bh.of (rT hc) fun H M xs ds dz Q hr rp e q=>by
 unfold Ba at e
 split at e
 ·rename_i i j;cases e;obtain⟨v,w,rfl,r1,r2⟩:=ut rp;rw[dq r1,dq r2];exact⟨i,j,rfl,q _ H (Ext.refl _ _) hr (by simp[Rep])⟩
 ·cases e
end
open AutoSeq1 (wpAny_loadPart')
section
variable{prog:J4}{w:O3}{A:L8}{E:s0->E2->Prop}{s:E2}
theorem iZ(l:E5) (its:Array s0) (n:Nat) (dct:Option E5) (sl:Array (Option s0)) :
  Meets (J7.«enumerate.__new__» ⟨[.type "enumerate",.ref l],[]⟩) (fun _ R s=>s.heap.get? l=some { cls:=.type "tuple",dict:=dct,data:=.seq its n,slots:=sl } /\
   R (.ok (.ret (.ref (s.heap.push { cls:=.type "tuple_iterator",data:=.fields #[.ref l,.int 0 0] }).objs.size)))
    { s with heap:=(s.heap.push { cls:=.type "tuple_iterator",data:=.fields #[.ref l,.int 0 0] }).push { cls:=.type "enumerate",data:=.fields #[.none,.bool false,.ref s.heap.objs.size,af8 0,.none,.none] } }) :=
 .of_wp fun prog w A R s h=>by
  obtain⟨hp,g,d,tk,os⟩:=s;have hl:=h.1;have hR:=h.2;have hsb:=sub_enumerate;have hT:am6 (ah5 ⟨hp,g,d,tk,os⟩) l its:=⟨_,hl,rfl,n,rfl⟩
  wp_walk using S6 hl
  refine wpAny_stack_any fun st=>E3 ?_
  split
  ·rename_i c _ _ _ _ _;cases(c==O0 "enumerate")<;>(wp_walk using S6 hl,U0 hT;exact⟨_,rfl,hR⟩)
  ·wp_walk using S6 hl,U0 hT
   exact⟨_,rfl,hR⟩
theorem iQ{l:E5}{its:Array s0}{Q:s0->E2->Prop}(hL:s.heap.IsTuple l its)
  (h:∀ h',IsEnum h' (s.heap.objs.size + 1) s.heap.objs.size 0 .none → h'.IsTupleIter s.heap.objs.size l 0 → h'.objs.size = s.heap.objs.size + 2 →
   (∀b o,s.heap.get? b=some o->h'.get? b=some o)->Q (.ref (s.heap.objs.size+1)) { s with heap:=h' }) :
  F6 (J9 prog w) A (ap2 (.type "enumerate") [.ref l]) Q E s:=by
 obtain⟨⟨c,dct,dt,sl⟩,hl,hc,n,hd⟩:=hL;obtain rfl:c=.type "tuple":=hc;obtain rfl:dt=.seq its n:=hd;refine callType_new F.called_enumerate (by decide) (F.typeCall_enumerate_1 _) (F.newCall_enumerate_1 _) (fun ob=>F.args_object_init_2 ob _) F.entry_enumerate_new (iZ l its n dct sl) ⟨hl,?_⟩;have hz:(s.heap.push { cls:=.type "tuple_iterator",data:=.fields #[.ref l,.int 0 0] }).objs.size=s.heap.objs.size+1:=R8 ..;show _/\_;rw[hz];have he:IsEnum ((s.heap.push { cls:=.type "tuple_iterator",data:=.fields #[.ref l,.int 0 0] }).push { cls:=.type "enumerate",data:=.fields #[.none,.bool false,.ref s.heap.objs.size,af8 0,.none,.none] }) (s.heap.objs.size+1) s.heap.objs.size 0 .none:=by
  have q:=F0 (s.heap.push { cls:=.type "tuple_iterator",data:=.fields #[.ref l,.int 0 0] }) (o:={ cls:=.type "enumerate",data:=.fields #[.none,.bool false,.ref s.heap.objs.size,af8 0,.none,.none] }) rfl
  rwa [hz]at q
 exact⟨⟨_,he,rfl⟩,h _ he ⟨_,E1 _ (F0 _ rfl),rfl,rfl⟩ (by rw[R8,hz]) fun b o x=>E1 _ (E1 _ x)⟩
theorem eS{it t:E5}{i:Nat}{its}{x:s0}{Q:s0->E2->Prop}(hit:s.heap.IsTupleIter it t i) (ht:s.heap.IsTuple t its) (hx:its[i]?=some x)
  (hQ:∀h',h'.IsTupleIter it t (i+1)->U6 it s.heap h'->Q x { s with heap:=h' }):F6 (J9 prog w) A (N9 (.ref it)) Q E s:=by
 obtain⟨o,ho,hc,hd⟩:=id hit;obtain⟨ol,hol,_,nl,hdl⟩:=ht;unfold N9;refine o0 (S0 (name:=L4 "__next__") hit.typeIs aa1 (aa2 aa1 hit.typeIs F.entry_tuple_iterator_next ?_ (F.args_tuple_iterator_next_1 _)));show F6 _ _ (field (.ref it) 0 >>= _) _ _ s;refine o0 (O7 ho hd (x:=.ref t) rfl ?_);show F6 _ _ (if(F3 t==K0)=true then _ else _) _ _ s;rw[if_neg (show ¬ ((F3 t==K0)=true)from P1)];show F6 _ _ (field (.ref it) 1 >>= _) _ _ s;refine o0 (O7 ho hd (x:=.int i 0) rfl ?_);show F6 _ _ (seqItems? (.ref t) >>= _) _ _ s;refine o0 (X5 hol hdl ?_);simp only[Q7,hx];refine o0 (ae7 ho hd (by simp) (E3 ⟨x,rfl,E3 (hQ _ ?_ (U6.update ..))⟩));exact⟨_,P5 _ ho (ad8 (U1 hd _)),(Obj.cls_mapFields ..).trans hc,by rw[U1 hd];simp[af8]⟩
theorem eW{it t:E5}{i:Nat}{its}{Q:s0->E2->Prop}(hh:A.handled=none) (hit:s.heap.IsTupleIter it t i) (ht:s.heap.IsTuple t its) (hx:its[i]?=none)
  (hE:∀h' e,I0.ExtBut it s.heap h'->(∃o,h'.get? e=some o/\o.cls=.type "StopIteration")->E (.ref e) { s with heap:=h' }):F6 (J9 prog w) A (N9 (.ref it)) Q E s:=by
 obtain⟨o,ho,hc,hd⟩:=id hit;obtain⟨ol,hol,_,nl,hdl⟩:=ht;unfold N9;refine o0 (S0 (name:=L4 "__next__") hit.typeIs aa1 (aa2 aa1 hit.typeIs F.entry_tuple_iterator_next ?_ (F.args_tuple_iterator_next_1 _)));show F6 _ _ (field (.ref it) 0 >>= _) _ _ s;refine o0 (O7 ho hd (x:=.ref t) rfl ?_);show F6 _ _ (if(F3 t==K0)=true then _ else _) _ _ s;rw[if_neg (show ¬ ((F3 t==K0)=true)from P1)];show F6 _ _ (field (.ref it) 1 >>= _) _ _ s;refine o0 (O7 ho hd (x:=.int i 0) rfl ?_);show F6 _ _ (seqItems? (.ref t) >>= _) _ _ s;refine o0 (X5 hol hdl ?_);simp only[Q7,hx];refine o0 (al2 (o0 (ae7 ho hd (by simp) ?_)));show F6 _ _ (newExc (.type "StopIteration") [] >>= _) _ _ _;refine o0 ?_;simp only[newExc,newTuple];refine o0 (O8 ?_ (by size_fits));refine o0 (m:=firstArgMember _ _) (al6 (a:=K0) (by first|rfl|(simp only[firstArgMember];rfl)) ?_);refine O8 ?_ (by size_fits);simp only[raiseNew];refine o0 (wpAny_handled ?_)
 first|rw[show A.in1.handled=none from hh]|rw[hh]
 refine o0 (E3 (wpAny_throw ?_));exact hE _ _ (((U6.update ..).extBut.push _).push _) ⟨_,F0 _ rfl,rfl⟩
theorem si{prog:J4}{w:O3}{A:L8}(hh:A.handled=none) (it l:E5) (hne:l≠it) (its:Array s0) :
  Draws prog w A it [it,l] its.size (fun i v=>its[i]?=some v) (fun i h=>h.IsTupleIter it l i/\h.IsTuple l its) where
 live:=fun _ _ st=>let⟨o,ho,_⟩:=st.1;⟨o,ho⟩
 frame:=fun _ _ _ st hk=>⟨let⟨o,ho,r⟩:=st.1;⟨o,hk it (by simp) o ho,r⟩,let⟨o,ho,r⟩:=st.2;⟨o,hk l (by simp) o ho,r⟩⟩
 item:=fun i s Q E hi st hQ=>eS st.1 st.2 (x:=its[i]) (by simp[hi]) fun h' hit' hs'=>hQ _ h' s.toks (by simp[hi]) ⟨hit',st.2.extBut hs'.extBut hne⟩ hs'
 done:=fun s Q E st hE=>eW hh st.1 st.2 (by simp) hE
end
section
variable{X:Cx}{aa:List (E5×Obj)}{σ:St}{H:Hp}{s:E2}{h':I0}
theorem Inv.turned2{t':Nat}{e it:E5}(I:Inv X aa σ H s) (k:∀b o,b≠e->b≠it->s.heap.get? b=some o->h'.get? b=some o) (f1:cA X aa H e) (f2:cA X aa H it):Inv X aa σ H { s with heap:=h',toks:=t' }:=by
 obtain⟨a0,a1,a2,a3,a4,a5⟩:=f1;obtain⟨b0,b1,b2,b3,b4,b5⟩:=f2;have nit:∀b u,H b=some u->b≠e/\b≠it:=fun b u q=>⟨fun z=>(by rw[z,a0]at q;cases q),fun z=>(by rw[z,b0]at q;cases q)⟩;have kk:∀b o,b∉[e,it]->s.heap.get? b=some o->h'.get? b=some o:=fun b o hc q=>k b o (fun z=>hc (by simp[z])) (fun z=>hc (by simp[z])) q;refine I.step (g':=s.gens) (d':=s.drawn) (ch:=[e,it]) (fun b hb=>?_) (fun b o _ _ hc q _=>kk b o hc q) (fun b o _ _ hc q _=>⟨o.slots,kk b o hc q⟩) (fun _ _ _ _ n=>n)
  (fun b o hc q=>⟨o,kk b o hc q⟩) (fun _ _ q=>q) (fun _ _ _ q=>q) (fun b ps q=>⟨#[],by rw[q];simp⟩) (fun m hm=>?_) (fun b u q=>?_) I.bare
 ·rcases E9.mp hb with z|z
  ·subst z;exact⟨a3,a1,a4,a5⟩
  ·have z:=J0.mp z;subst z;exact⟨b3,b1,b4,b5⟩
 ·obtain⟨o,es,ep,ho,r⟩:=hm;exact⟨o,es,ep,k _ o (M9 a1) (M9 b1) ho,r⟩
 ·refine(I.hok b u q).stay (fun c v hc q'=>?_) (fun _ q=>q) fun _ _ q=>q;rcases hc with z|z
  ·rw[z]at q' ⊢;exact k _ _ (nit b u q).1 (nit b u q).2 q'
  ·exact k c v (nit c _ z).1 (nit c _ z).2 q'
end
def ko(b:Bool) (K:u8) (H:Hp) (a:E5) (xs:List V):Prop:=match b with|true=>SqT K H a xs|false=>SqL K H a xs
def oN(b:Bool) (h:I0) (it a:E5) (i:Nat):Prop:=match b with|true=>h.IsTupleIter it a i|false=>h.IsListIter it a i
def CG(b:Bool):String:=match b with|true=>"tuple_iterator" |false=>"list_iterator"
theorem oN.obj{b:Bool}{h:I0}{it a:E5}{i:Nat}(st:oN b h it a i):∃o,h.get? it=some o/\o.cls=.type (CG b)/\o.data=.fields #[.ref a,.int i 0]:=by
 cases b<;>exact st
theorem oN.of{b:Bool}{h:I0}{it a:E5}{i:Nat}(st:∃o,h.get? it=some o/\o.cls=.type (CG b)/\o.data=.fields #[.ref a,.int i 0]):oN b h it a i:=by
 cases b<;>exact st
theorem oq{X:Cx}{aa:List (E5×Obj)}{σ:St}{H:Hp}{s:E2}{b:Bool}{a it:E5}{i:Nat}{xs:List V}(hc:X.calm=true) (I:Inv X aa σ H s) (hq:ko b X.K H a xs) (hit:oN b s.heap it a i) :
  ∃(its:List s0) (St:Nat->I0->Prop),ax xs its/\Draws X.prog X.w X.A.in1 it [it,a] its.toArray.size (fun i v=>its.toArray[i]?=some v) St/\St i s.heap/\(∀j h,St j h->oN b h it a j)/\∃o,s.heap.get? a=some o/\o.cls≠.type "enumerate":=by
 cases b with
 |true =>
  obtain⟨its,rv,p,hz⟩:=I.tuple hq;have hT:s.heap.IsTuple a its.toArray:=p;have hal:a≠it:=fun z=>by
   obtain⟨o,q,c,_⟩:=hT;obtain⟨o',q',c',_⟩:=hit;rw[z,q']at q;cases q;rw[c']at c;exact absurd c (by decide)
  obtain⟨o,q,c,_⟩:=id hT;exact⟨its,_,rv,si (A:=X.A.in1) (I.ok.hd hc) it a hal its.toArray,⟨hit,hT⟩,fun j h st=>st.1,o,q,by rw[c];decide⟩
 |false =>
  obtain⟨its,rv,p,hz⟩:=I.list hq;have hT:s.heap.IsList a its.toArray:=p.isList;have hal:a≠it:=fun z=>by
   obtain⟨o,q,c,_⟩:=hT;obtain⟨o',q',c',_⟩:=hit;rw[z,q']at q;cases q;rw[c']at c;exact absurd c (by decide)
  obtain⟨o,q,c,_⟩:=id hT;exact⟨its,_,rv,Draws.list (A:=X.A.in1) (I.ok.hd hc) it a hal its.toArray,⟨hit,hT⟩,fun j h st=>st.1,o,q,by rw[c];decide⟩
theorem ko.inj{X:Cx}{aa:List (E5×Obj)}{σ:St}{H:Hp}{s:E2}{b:Bool}{a:E5}{xs ys:List V}(I:Inv X aa σ H s) (h:ko b X.K H a xs) (h':ko b X.K H a ys):xs=ys:=by
 cases b with
 |true=>exact I.tuple_inj h h'
 |false=>exact I.list_inj h h'
def Ite(b:Bool) (K:u8) (a:E5) (n:Nat):It :=
 ⟨fun i H=>(∃xs,ko b K H a xs/\xs.length=n)/\i<n,fun i H x H'=>∃T y,x=.ref T/\H T=none/\H'=upd H T (.tup [.int i,y])/\∀xs,ko b K H a xs->xs[i]?=some y,fun i H=>(∃xs,ko b K H a xs/\xs.length=n)/\n<=i⟩
theorem cA.upd{X:Cx}{aa:List (E5×Obj)}{H:Hp}{b T:E5}{o:HO}(f:cA X aa H b) (h:b≠T):cA X aa (upd H T o) b:=by
 obtain⟨f0,r⟩:=f;exact⟨by rw[aB h];exact f0,r⟩
theorem sk{P:J4}{w:O3}{K:u8}{elts:List K4}{x1:Nat}{pt:Pos}(b:Bool) (a e it:E5) (n:Nat):iB P w K (.Tuple elts x1 pt) (Ite b K a n) [e,it] e (fun i h=>(∃old,IsEnum h e it i old)/\oN b h it a i/\e≠it/\i<=n) where
 mem:=by simp
 obj:=fun i h st c hb=>by
  rcases E9.mp hb with z|z
  ·subst z;obtain⟨⟨old,q⟩,_⟩:=st;exact⟨_,q,fun v z=>by cases z⟩
  ·have z:=J0.mp z;subst z;obtain⟨_,st,_⟩:=st;obtain⟨o,q,_,d⟩:=st.obj;exact⟨o,q,fun v z=>by rw[d]at z;cases z⟩
 keep:=fun i h h' st k=>by
  obtain⟨⟨old,q⟩,st,ne,le⟩:=st;obtain⟨o,q2,r⟩:=st.obj;exact⟨⟨old,k e (by simp) _ q⟩,.of ⟨o,k it (by simp) o q2,r⟩,ne,le⟩
 item:=by
  intro X hP hw hK hc i aa s σ H E I hf st hg;subst hP hw hK;obtain⟨⟨xs,hq,hxl⟩,hin⟩:=hg;have hx:xs[i]?=some (xs[i]'(by lia)):=by simp[hxl,hin]
  generalize xs[i]'(by lia)=x at hx;obtain⟨⟨old,he⟩,hit,hne,hle⟩:=st;obtain⟨its,St,rv,dr,hst0,hback,ob,hob,hcl⟩:=oq hc I hq hit;obtain⟨u,hu,ru⟩:=rv.get hx;have hea:e≠a:=fun z=>by
   rw[<-z,he]at hob;cases hob;exact hcl rfl
  have fe:=hf e (by simp);have fi:=hf it (by simp);have hlt:i<its.toArray.size:=by
   have h1:=(F4.mp hu).1;simpa using h1
  have eT:e<s.heap.objs.size:=F2 he;have iT:it<s.heap.objs.size:=by obtain⟨o,q,_⟩:=hit.obj;exact F2 q
  refine wpAny_pyNext_enum_itemD dr he hst0 hlt hne (by simp[hne,hea]) fun y h1 tk hy hout hst hTn hsz hk=>?_;have ey:y=u:=by
   have h2:its[i]?=some y:=by simpa using hy
   rw[hu]at h2;cases h2;rfl
  subst ey;refine⟨_,rfl,?_⟩;have In:H s.heap.objs.size=none:=I.hok.fresh (F5 _);have I1:Inv X aa σ (upd H s.heap.objs.size (.tup [.int i,x])) { s with heap:=s.heap.push { cls:=.type "tuple",data:=.seq #[.int i tk,y] },toks:=tk+1 } :=
   I.laid (fun b o q=>E1 _ q) (F5 _) ⟨by simp only[N6,T7];rw[R6];decide,[.int i tk,y],.cons ⟨_,rfl⟩ (.cons ru .nil),⟨_,F0 s.heap rfl,rfl,⟨0,rfl⟩,rfl⟩⟩
  have fe1:cA X aa (upd H s.heap.objs.size (.tup [.int i,x])) e:=fe.upd (F8 eT);have fi1:cA X aa (upd H s.heap.objs.size (.tup [.int i,x])) it:=fi.upd (F8 iT);have I2:Inv X aa σ (upd H s.heap.objs.size (.tup [.int i,x])) { s with heap:=h1,toks:=tk+1 }:=I1.turned2 (t':=tk+1) (fun b o hb1 hb2 q=>by
   by_cases hbs:b=s.heap.objs.size
   ·subst hbs;rw[F0 s.heap rfl]at q;cases q;exact hTn
   ·refine hk b o hb1 hb2 ?_;rcases I0.get?_push_cases q with z|z
    ·exact absurd z.1 hbs
    ·exact z) fe1 fi1
  refine wpAny_letOwnedTupleGo_enum hout fun h2 he2 hs2=>?_;obtain⟨g0,g1,g2,g3,g4,g5⟩:=fe1;have I3:=I2.turned (t':=tk+1) (h':=h2) (it:=e) (fun b o hb q=>(hs2.2 b hb).trans q) g0 g1 g3 g4 g5;refine⟨.ref s.heap.objs.size,_,I3,rfl,⟨_,x,rfl,In,rfl,fun ys hys=>by rw[ko.inj I hys hq];exact hx⟩,⟨⟨y,by simpa using he2⟩,?_,hne,hin⟩,fun b hb=>?_⟩
  ·obtain⟨o,q,r⟩:=(hback _ _ hst).obj;exact .of ⟨o,(hs2.2 it (M9 hne)).trans q,r⟩
  ·rcases E9.mp hb with z|z
   ·subst z;exact g0
   ·rw[J0.mp z];exact fi1.1
 done:=by
  intro X hP hw hK hc i aa s σ H E I hf st hg;subst hP hw hK;obtain⟨⟨xs,hq,hxl⟩,hx⟩:=hg;obtain⟨⟨old,he⟩,hit,hne,hle⟩:=st;obtain⟨its,St,rv,dr,hst0,_⟩:=oq hc I hq hit;obtain⟨f0,f1,f2,f3,f4,f5⟩:=hf it (by simp);have hl:=rv.length;have hi:i=its.toArray.size:=by simp;lia
  rw[hi]at hst0;exact wpAny_pyNext_enum_endD dr he hst0 fun h' eb=>⟨rfl,I.turned (t':=s.toks) (fun b o hb q=>eb b o hb q) f0 f1 f3 f4 f5⟩
 self:=fun _ _ _ _ _ st h=>by
  obtain⟨⟨old,he⟩,_⟩:=st;exact wpAny_pyIter_enum he h
section
variable{X:Cx}{a:K4}{t:TAd}{pos:Pos}
def kj(n:Nat):List D->List D
 |[]=>[]
 |d::r=>.tup [.int n,d]::kj (n+1) r
theorem nA:∀(ds:List D) (n i:Nat),(kj n ds)[i]?=(ds[i]?).map fun d=>.tup [.int ((n+i:Nat):Int),d]
 |[],n,i=>by simp[kj]
 |d::r,n,0=>by simp[kj]
 |d::r,n,i+1=>by
  simp only[kj,S1];rw[nA r (n+1) i];have:n+1+i=n+(i+1):=by lia
  rw[this]
theorem oa:∀(ds:List D) (n:Nat),(kj n ds).length=ds.length
 |[],_=>rfl
 |d::r,n=>by simp[kj,oa r (n+1)]
def sqD(b:Bool) (es:List D):D:=match b with|true=>.tup es|false=>.lst es
def xS(b:Bool) (ta:TAd):TId:=fun Δ M R=>ta Δ M fun ds M1=>∃es,ds=[sqD b es]/\(es.length<=E4->R (kj 0 es) M1)
def vE(ta:TAd):TId:=fun Δ M R=>ta Δ M fun ds M1=>∃es,ds=[.tup es]/\(es.length<=E4->R (kj 0 es) M1)
theorem zY{K:u8}{M:DH}{H:Hp}{b:Bool}{es:List D}{v:V}(h:Rep K M H (sqD b es) v):∃a vs,v=.ref a/\am K M H es vs/\∀M2 H2,Ext M H M2 H2->ko b K H2 a vs:=by
 cases b with
 |true =>
  simp only[sqD,Rep]at h;obtain⟨a,vs,e,ta,rl⟩:=h;exact⟨a,vs,e,rl,fun M2 H2 x=>(ta.ext x).sq⟩
 |false =>
  simp only[sqD,Rep]at h;obtain⟨a,vs,e,ta,rl⟩:=h;exact⟨a,vs,e,rl,fun M2 H2 x=>SqL.of (x _ _ ta.1 ta.2).1⟩
theorem qh{prog:J4}{w:O3}{A:L8}{E:s0->E2->Prop}{X:Cx}{aa:List (E5×Obj)}{σ:St}{H:Hp}{s:E2}{b:Bool}{l:E5}{xs:List V}{Q:s0->E2->Prop}(I:Inv X aa σ H s) (hq:ko b X.K H l xs)
  (h:∀ h',IsEnum h' (s.heap.objs.size + 1) s.heap.objs.size 0 .none → oN b h' s.heap.objs.size l 0 → h'.objs.size = s.heap.objs.size + 2 →
   (∀b o,s.heap.get? b=some o->h'.get? b=some o)->Q (.ref (s.heap.objs.size+1)) { s with heap:=h' }):F6 (J9 prog w) A (ap2 (.type "enumerate") [.ref l]) Q E s:=by
 cases b with
 |true =>
  obtain⟨its,rv,p,hz⟩:=I.tuple hq;exact iQ (show s.heap.IsTuple l its.toArray from p) h
 |false =>
  obtain⟨its,rv,p,hz⟩:=I.list hq;exact call_enumerate_list p.isList h
theorem jt:V8 "enumerate"=some (.type "enumerate"):=by kernel_rfl
theorem xN{b:Bool}{elts:List K4}{x1:Nat}{pt p:Pos}(hg:Gl X "enumerate") (hm:X.mg "enumerate"=none) (ha:PAd X [a] t) (hs:E8 [a] X.env=[(false,Z4 a X.env)]:=by rfl):PId X (.Tuple elts x1 pt) (.Call (.Name "enumerate" p) [a] [] pos) (xS b t):=by
 intro aa s σ H R I hh;obtain⟨Δ,M,R',sr,hr,q,k⟩:=hh;refine Call_ (ij I hg hm jt (Z1 (thn (ha pos aa s σ H (fun vs H1=>∃es M1,am X.K M1 H1 [sqD b es] vs/\(es.length<=E4->R' (kj 0 es) M1)/\Ext M H M1 H1/\HR X.K M1 H1) I ⟨Δ,M,_,sr,hr,q,fun ds M1 vs H1 ⟨es,ed,q1⟩ e1 hr1 rv=>⟨es,M1,by rw[<-ed];exact rv,q1,e1,hr1⟩⟩) fun us s1 ⟨vs,H1,I1,r1,es,M1,rv,q1,e1,hr1⟩=>?_) hs rfl));obtain⟨v,rfl,rt⟩:=rv.one;cases r1 with
 |cons r rr =>
  cases rr;obtain⟨ad,vs,rfl,rl,ta⟩:=zY rt;cases r;have lo:es.length<=E4:=by
   have hq:=ta _ _ (Ext.refl _ _);rw[rl.length];cases b with
   |true=>exact(I1.tuple hq).choose_spec.2.2
   |false=>exact(I1.list hq).choose_spec.2.2
  have hl2:=rl.length;refine qh I1 (ta _ _ (Ext.refl _ _)) fun h' he hit hsz hk=>?_;refine wpAny_pyIter_enum he ?_;refine⟨s1.heap.objs.size+1,[s1.heap.objs.size+1,s1.heap.objs.size],_,_,H1,rfl,I1.kept (t':=s1.toks) hk,sk b ad _ _ es.length,⟨⟨_,he⟩,hit,Nat.succ_ne_self _,O4 _⟩,fun b' hb=>?_,?_⟩
  ·rcases E9.mp hb with z|z
   ·subst z;exact I1.fpOk (by lia) (I1.hok.fresh (by lia))
   ·rw[J0.mp z];exact I1.fpOk (F5 _) (I1.hok.fresh (F5 _))
  ·refine k _ M1 _ H1 (q1 lo) e1 hr1 fun M2 H2 e2 hr2 i=>⟨fun d hd=>?_,fun hl=>⟨⟨vs,(ta _ _ e2),by lia⟩,by rw[oa]at hl;exact hl⟩⟩;rw[nA]at hd;cases hdi:es[i]? with
   |none=>rw[hdi]at hd;cases hd
   |some d0 =>
    rw[hdi]at hd;have hd':D.tup [.int ((0+i:Nat):Int),d0]=d:=by simpa using hd
    subst hd';have hi:i<es.length:=(F4.mp hdi).1;obtain⟨v0,gv,r0⟩:=rl.get hdi;refine⟨⟨⟨vs,(ta _ _ e2),by lia⟩,hi⟩,fun x H' ⟨T,y,ex,hT,eH,hy⟩=>?_⟩;subst ex;subst eH;have hh:=hy vs (ta _ _ e2);rw[gv]at hh;cases hh;refine⟨Ext.new hr2 hT,hr2.new hT,?_⟩;simp only[Rep];refine⟨T,[.int i,v0],rfl,.inl ⟨.inl az,hr2.fresh hT⟩,?_⟩;exact am.cons (by simp[Rep]) (am.cons ((r0.ext e2).ext (Ext.new hr2 hT)) am.nil)
theorem xD{elts:List K4}{x1:Nat}{pt p:Pos}(hg:Gl X "enumerate") (hm:X.mg "enumerate"=none) (ha:QAd X [a] t) (hs:E8 [a] X.env=[(false,Z4 a X.env)]:=by rfl):QId X (.Tuple elts x1 pt) (.Call (.Name "enumerate" p) [a] [] pos) (vE t):=by
 simp only[QAd.eq,QId.eq]at *
 exact xN (b:=true) hg hm ha hs
end
section
variable{X:Cx}{pos:Pos}
theorem AG{i j:Int}:dmD [.int i,.int j]=if jq i j then some (.tup [.int (i / j),.int (i % j)])else none:=rfl
theorem wJ{i j:Int}:Ba [.int i,.int j]=some (.int (if j > i then j else i)):=rfl
theorem tV:nh 10 60=True:=by simp[nh]
end
section
variable{X:Cx}{e:K4}{te ts:TEd}{pos:Pos}
end
section
variable{κ:Type} [DecidableEq κ]
noncomputable def cM(kvs:List (κ×D)) (k:κ):Option D:=(kvs.find? fun kv=>decide (kv.1=k)).map (·.2)
noncomputable def fO(kvs:List (κ×D)) (k:κ) (v:D):List (κ×D) :=
 if(kvs.any fun kv=>decide (kv.1=k))=true then kvs.map (fun kv=>if kv.1=k then(kv.1,v)else kv)else kvs++[(k,v)]
theorem wk{k:κ}:cM ([]:List (κ×D)) k=none:=rfl
theorem bB{p:κ×D}{r:List (κ×D)}{k:κ}(e:p.1=k):cM (p::r) k=some p.2:=by simp[cM,T8,e]
theorem bz{p:κ×D}{r:List (κ×D)}{k:κ}(e:¬ p.1=k):cM (p::r) k=cM r k:=by simp[cM,T8,e]
theorem hJ(k:κ):∀kvs:List (κ×D),(kvs.any fun kv=>decide (kv.1=k))=(cM kvs k).isSome
 |[]=>rfl
 |p::r=>by
  rw[X1]
  by_cases e:p.1=k
  ·simp only[bB e,decide_eq_true e,Bool.true_or,Option.isSome_some]
  ·rw[bz e,decide_eq_false e,Bool.false_or];exact hJ k r
theorem nZ(k j:κ) (y:D):∀kvs:List (κ×D),cM (kvs.map fun kv=>if kv.1=k then(kv.1,y)else kv) j=(cM kvs j).map fun x=>if j=k then y else x
 |[]=>rfl
 |p::r=>by
  have ih:=nZ k j y r;rw[J5]
  by_cases h:p.1=k
  ·rw[if_pos h]
   by_cases e:p.1=j
   ·rw[bB (p:=(p.1,y)) e,bB e,ac1,if_pos (e.symm.trans h)]
   ·rw[bz (p:=(p.1,y)) e,bz e,ih]
  ·rw[if_neg h]
   by_cases e:p.1=j
   ·rw[bB (p:=p) e,bB e,ac1,if_neg (fun z=>h (e.trans z))]
   ·rw[bz (p:=p) e,bz e,ih]
theorem kZ(k j:κ) (y:D):∀kvs:List (κ×D),cM kvs k=none->cM (kvs++[(k,y)]) j=if j=k then some y else cM kvs j
 |[],_=>by
  by_cases e:k=j
  ·rw[if_pos e.symm];exact bB (p:=(k,y)) e
  ·rw[if_neg (fun z=>e z.symm)];exact bz (p:=(k,y)) e
 |p::r,hn=>by
  rw[List.cons_append];have hk:¬ p.1=k:=fun z=>by rw[bB z]at hn;cases hn
  rw[bz hk]at hn;have ih:=kZ k j y r hn
  by_cases e:p.1=j
  ·rw[bB e,bB e,if_neg (fun z=>hk (e.trans z))]
  ·rw[bz e,bz e,ih]
theorem vz(kvs:List (κ×D)) (k j:κ) (y:D):cM (fO kvs k y) j=if j=k then some y else cM kvs j:=by
 unfold fO
 by_cases a:(kvs.any fun kv=>decide (kv.1=k))=true
 ·rw[if_pos a,nZ];rw[hJ]at a
  by_cases e:j=k
  ·obtain⟨x,hx⟩:=T5.mp a;rw[if_pos e,e,hx,ac1,if_pos rfl]
  ·rw[if_neg e];cases cM kvs j with
   |none=>rfl
   |some x=>rw[ac1,if_neg e]
 ·rw[if_neg a];refine kZ k j y kvs ?_;rw[hJ]at a;cases q:cM kvs k with
  |none=>rfl
  |some x=>rw[q]at a;exact(a rfl).elim
theorem og(kvs:List (κ×D)) (k:κ) (v:D):(fO kvs k v).length<=kvs.length+1:=by
 unfold fO
 split
 ·rw[E7];lia
 ·rw[K7,N6,T7];lia
variable{K:u8}{M:DH}{H:Hp}
theorem KR.val{kvs:List (κ×D)}{ks:List (κ×V)}(h:KR K M H kvs ks) (k:κ):(∀d,cM kvs k=some d->∃v,fP ks k=some v/\Rep K M H d v)/\(fP ks k).isSome=(cM kvs k).isSome:=by
 unfold KR at h
 induction h with
 |nil=>exact⟨fun d e=>(nomatch e),rfl⟩
 |@cons p q ps qs r t ih =>
  by_cases e:p.1=k
  ·rw[bB e,gP (r.1.symm.trans e)];exact⟨fun d z=>(by cases z;exact⟨_,rfl,r.2⟩),rfl⟩
  ·rw[bz e,gR (fun z=>e (r.1.trans z))];exact ih
theorem KR.any{kvs:List (κ×D)}{ks:List (κ×V)}(h:KR K M H kvs ks) (k:κ):(ks.any fun kv=>decide (kv.1=k))=kvs.any fun kv=>decide (kv.1=k):=by
 unfold KR at h
 induction h with
 |nil=>rfl
 |cons r _ ih=>rw[X1,X1,ih,r.1]
theorem KR.length{kvs:List (κ×D)}{ks:List (κ×V)}(h:KR K M H kvs ks):kvs.length=ks.length:=al3 h
theorem KR.put{kvs:List (κ×D)}{ks:List (κ×V)}(h:KR K M H kvs ks) (k:κ) {d:D}{v:V}(r:Rep K M H d v):KR K M H (fO kvs k d) (dD ks k v):=by
 unfold fO dD;rw[h.any k]
 by_cases e:(kvs.any fun kv=>decide (kv.1=k))=true
 ·rw[if_pos e,if_pos e];clear e;unfold KR at h ⊢
  induction h with
  |nil=>exact .nil
  |@cons p q ps qs r1 t ih =>
   rw[J5,J5];refine .cons ?_ ih
   by_cases e:p.1=k
   ·rw[if_pos e,if_pos (r1.1.symm.trans e)];exact⟨r1.1,r⟩
   ·rw[if_neg e,if_neg (fun z=>e (r1.1.trans z))];exact r1
 ·rw[if_neg e,if_neg e];exact Z8.snoc h ⟨rfl,r⟩
end
def kD:Key->D
 |.inl i=>.int i
 |.inr x=>.str x
theorem iD{K:u8}{M:DH}{H:Hp}{k:Key}{v:V}(h:Rep K M H (kD k) v):v=kV k:=by
 cases k<;>simpa[kD,Rep,kV]using h
theorem mS{K:u8}{M:DH}{H:Hp}:∀{ks:List Key}{vs:List V},am K M H (ks.map kD) vs->vs=ks.map kV
 |[],_,h=>by simpa[am]using h
 |k::ks,_,h=>by
  simp only[J5,am]at h;obtain⟨v,ws,rfl,h1,h2⟩:=h;rw[iD h1,mS h2];rfl
section
variable{X:Cx}{a b c e o i:K4}{es:List K4}{te to ti ta tb:TEd}{t:TAd}{pos:Pos}
def dDT:TEd:=fun _ M Q=>∀p,M p=none->Q (.ref p) (ar M p (.dT []))
def tS(tk tv:TEd):TEd:=fun Δ M Q=>∀p,M p=none->tk Δ (ar M p (.dK [])) fun x M1=>tv Δ M1 fun y M2=>∃k,x=kD k/\M2 p=some (.dK [])/\Q (.ref p) (ar M2 p (.dK [(k,y)]))
def Ah(neg:Bool) (ti to:TEd):TEd:=fun Δ M Q=>ti Δ M fun y M1=>to Δ M1 fun x M2=>∃a kvs k,x=.ref a/\M2 a=some (.dK kvs)/\y=kD k/\Q (.bl (xor neg (cM kvs k).isSome)) M2
def vd(neg:Bool) (ty td:TE):TE:=fun σ H Q=>ty σ H fun y H1=>td σ H1 fun x H2=>∃a o,x=.ref a/\gN H2 a y o/\Q (.bl (xor neg o.isSome)) H2
theorem pf{ty td:TE}{op:am9}{neg:Bool}(hop:op=(if neg then .NotIn else .In)) (hu:X.A.units+1<ae6) (hi:PE X i ty) (ho:PE X o td):PC X op i o (vd neg ty td):=by
 subst hop;cases neg with
 |false =>
  intro aa s σ H Q I h;exact Au hu hi ho aa s σ H Q I (by simpa[vd,Cu]using h)
 |true =>
  intro aa s σ H Q I h;exact sY hu hi ho aa s σ H Q I (by simpa[vd,qD]using h)
theorem wb{K:u8}{neg:Bool}:∀ σ H Q,up K (Ah neg ti to) σ H Q->vd neg (up K ti) (up K to) σ H Q:=fun σ H Q hup=>hup.el fun Δ M R sr hr q k=>⟨Δ,M,_,sr,hr,q,fun y M1 v H1 q1 e1 hr1 rv=>⟨Δ,M1,_,sr.ext e1,hr1,q1,fun x M2 u H2 ⟨a,kvs,ky,ex,em,ey,q2⟩ e2 hr2 ru=>by
  subst ex;subst ey;simp only[Rep]at ru;subst ru;obtain⟨ks,h2,kr⟩:=hr2 a _ em;refine⟨a,fP ks ky,rfl,by rw[iD rv];exact gN.k h2,?_⟩;rw[(kr.val ky).2];exact k _ M2 _ H2 q2 (e1.trans e2) hr2 (by simp only[Rep])⟩⟩
def wH(neg:Bool) (t:TAd) (to:TEd):TEd:=fun Δ M Q=>t Δ M fun ds M1=>ds.length<=E4/\to Δ M1 fun x M2=>∃a kvs ks,x=.ref a/\M2 a=some (.dT kvs)/\ds=ks.map kD/\Q (.bl (xor neg (cM kvs ks).isSome)) M2
theorem oo{K:u8}{neg:Bool}:∀ σ H Q,up K (wH neg t to) σ H Q->vd neg (Dk (upA K t)) (up K to) σ H Q:=fun σ H Q hup=>hup.el fun Δ M R sr hr q k=>⟨Δ,M,_,sr,hr,q,fun ds M1 vs H1 ⟨z,q1⟩ e1 hr1 rv=>⟨by rw[<-rv.length];exact z,fun p hp=>⟨Δ,M1,_,(sr.ext e1).ext (Ext.new hr1 hp),hr1.new hp,q1,fun x M2 u H2 ⟨a,kvs,ky,ex,em,ey,q2⟩ e2 hr2 ru=>by
  subst ex;subst ey;simp only[Rep]at ru;subst ru;obtain⟨ks,h2,kr⟩:=hr2 a _ em;have eb:=(e2 p _ az (hr1.fresh hp)).1;rw[mS rv]at eb;refine⟨a,fP ks ky,rfl,gN.t h2 eb,?_⟩;rw[(kr.val ky).2];exact k _ M2 _ H2 q2 ((e1.trans (Ext.new hr1 hp)).trans e2) hr2 (by simp only[Rep])⟩⟩⟩
theorem CM{K:u8}{te:TEd}{tv:TE}(h:∀ σ H Q,up K te σ H Q->tv σ H Q):∀ σ H Q,upT K (pI te) σ H Q->tB tv σ H Q:=fun σ H Q hup=>hup.el fun Δ M R sr hr q k =>
 h σ H _ ⟨Δ,M,_,sr,hr,q,fun d M1 v H1 ⟨b,e,q1⟩ e1 hr1 rv=>⟨b,by subst e;simpa only[Rep]using rv,k b M1 H1 q1 e1 hr1⟩⟩
def yN(to ti te:TEd):TSd:=fun E Δ M=>te Δ M fun d M1=>to Δ M1 fun x M2=>ti Δ M2 fun y M3=>∃a kvs k,x=.ref a/\M3 a=some (.dK kvs)/\y=kD k/\kvs.length<E4/\E.nx Δ (ar M3 a (.dK (fO kvs k d)))
def zv(to:TEd) (t:TAd) (te:TEd):TSd:=fun E Δ M=>te Δ M fun d M1=>to Δ M1 fun x M2=>t Δ M2 fun ds M3=>ds.length<=E4/\∃a kvs ks,x=.ref a/\M3 a=some (.dT kvs)/\ds=ks.map kD/\kvs.length<E4/\E.nx Δ (ar M3 a (.dT (fO kvs ks d)))
end
section
variable{X:Cx}{a b c e o:K4}{es:List K4}{te to:TEd}{t:TAd}{pos:Pos}{tg:K4}
noncomputable def tm:List D->Option D
 |[.int i,.int j]=>some (.int (if j<i then j else i))
 |_=>none
theorem y7(hc:X.calm=true):bh X (.builtin "min") tm:=bh.of (tq hc) fun H M xs ds dz Q hr rp e q=>by
 unfold tm at e
 split at e
 ·rename_i i j;cases e;obtain⟨v,w,rfl,r1,r2⟩:=ut rp;rw[dq r1,dq r2];exact⟨i,j,rfl,q _ H (Ext.refl _ _) hr (by simp[Rep])⟩
 ·cases e
noncomputable def eL:List D->Option (List Int)
 |[]=>some []
 |.int i::ds=>(eL ds).map (i::·)
 |_=>none
theorem j0:∀{ns:List Int},eL (ns.map D.int)=some ns
 |[]=>rfl
 |n::ns=>by simp[eL,j0 (ns:=ns)]
def xg:D->Option D
 |.lst ds=>(eL ds).map fun ns=>.int ns.sum
 |_=>none
theorem vC{ns:List Int}:xg (.lst (ns.map D.int))=some (.int ns.sum):=by simp[xg,j0]
theorem lU{K:u8}{M:DH}{H:Hp}:∀{ds:List D}{ns:List Int}{vs:List V}{us:List s0},eL ds=some ns->am K M H ds vs->ax vs us->∃xs:Array (Int×Tok),us.toArray=intItems xs/\xs.toList.map (·.1)=ns
 |[],_,_,_,e,h,r=>by
  simp only[eL,ae2]at e;subst e;simp only[am]at h;subst h;cases r;exact⟨#[],by simp[intItems],rfl⟩
 |.int i::ds,ns,vs,us,e,h,r=>by
  simp only[eL]at e;cases q:eL ds with
  |none=>rw[q]at e;cases e
  |some ms =>
   rw[q]at e;cases e;simp only[am]at h;obtain⟨v,ws,rfl,h1,h2⟩:=h;simp only[Rep]at h1;subst h1;cases r with
   |@cons x u xs' us' r1 r2 =>
    obtain⟨t,rfl⟩:=r1;obtain⟨ys,e1,e2⟩:=lU q h2 r2;refine⟨(((i,t)::ys.toList)).toArray,?_,by simp[e2]⟩;have:us'=(intItems ys).toList:=by rw[<-e1]
    rw[this];simp[intItems]
 |.non::_,_,_,_,e,_,_=>by cases e
 |.bl _::_,_,_,_,e,_,_=>by cases e
 |.str _::_,_,_,_,e,_,_=>by cases e
 |.tup _::_,_,_,_,e,_,_=>by cases e
 |.lst _::_,_,_,_,e,_,_=>by cases e
 |.scr _::_,_,_,_,e,_,_=>by cases e
 |.emp::_,_,_,_,e,_,_=>by cases e
 |.box _ _::_,_,_,_,e,_,_=>by cases e
 |.ref _::_,_,_,_,e,_,_=>by cases e
theorem zb(hc:X.calm=true):bh X (.builtin "sum") (nc xg):=by
 intro aa s σ H M xs us ds dz Q I hr rv rp e k;obtain⟨d,rfl,e0⟩:=c7 e;clear e;have e:=e0;clear e0;obtain⟨v,rfl,r⟩:=md rp;obtain⟨u,rfl,ru⟩:=ax.one rv;cases d with
 |lst ds =>
  simp only[xg]at e;cases q:eL ds with
  |none=>rw[q]at e;cases e
  |some ns =>
   rw[q]at e;cases e;obtain⟨l,vs,rfl,sq,rl⟩:=r;cases ru;obtain⟨its,rv,pl,hz⟩:=I.list (SqL.of sq);obtain⟨ys,e1,e2⟩:=lU q rl rv;refine sum_intListG (xs:=ys) (I.ok.hd hc) (by rw[<-e1];exact pl.isList) fun h' tk t' kk=>?_;have I1:Inv X aa σ H { s with heap:=h',toks:=tk }:=I.kept (t':=tk) kk;refine⟨.int _,H,I1,⟨_,rfl⟩,k _ H (Ext.refl _ _) hr ?_⟩;have e3:preSum (numAt ys) ys.size=ns.sum:=by
    rw[preSum_eq,V1 (by simp),e2]
   rw[e3];simp[Rep]
 |_=>cases e
end
section
variable{X:Cx}{tg iter elt:K4}{pos:Pos}{scope:aa5}{cl:List (Str×E5)}{ms:List Bool}{ao:List Str}{ifs:List K4}
end
def Dn(a:E5) (o:Obj) (ks:List (Key×V)):It :=
 ⟨fun i H=>H a=some (.frz o (.dK ks))/\i<ks.length,fun i H x H'=>H'=H/\∃k v,ks[i]?=some (k,v)/\x=kV k,fun i H=>H a=some (.frz o (.dK ks))/\ks.length<=i⟩
theorem w6{P:J4}{w:O3}{k:Key}{v:s0}(h:(aS P w).is k v=true):aF (kV k) v:=by
 rcases aZ (show jI k v=true from h)with⟨i,t,rfl,rfl⟩|⟨x,t,rfl,rfl⟩
 ·exact⟨t,rfl⟩
 ·exact⟨t,rfl⟩
section
variable{X:Cx}{aa:List (E5×Obj)}{σ:St}{H:Hp}{s:E2}{a:E5}{o:Obj}{ks:List (Key×V)}
theorem Inv.freeze(I:Inv X aa σ H s) (e:H a=some (.dK ks)):∃o,s.heap.get? a=some o/\Inv X aa σ (upd H a (.frz o (.dK ks))) s:=by
 obtain⟨o,he⟩:∃o,s.heap.get? a=some o:=by
  obtain⟨_,_,_,_,o,_,_,q,_⟩:=nj I.hok e;exact⟨o,q⟩
 refine⟨o,he,?_⟩;have:=I.write (x:=a) (e:=a) (o:=.frz o (.dK ks)) (h':=s.heap) (t':=s.toks) (by rw[e];exact ag9) (.inl rfl) (fun b u _ q=>q) ⟨o,he⟩ ⟨he,nj I.hok e⟩;exact this
theorem rL{ep:Nat}{es:Array am1}(I:Inv X aa σ H s) (e:H a=some (.frz o (.dK ks))) (hd:o.data=.dict es ep):∃vs,KV ks vs/\s.heap.DictAt (aS X.prog X.w) a vs ep/\(a==ac9)=false:=by
 obtain⟨q,hz,hs,vs,rel,o',es',ep',q',c,d',r⟩:=I.hok a _ e;rw[q]at q';cases q';rw[hd]at d';cases d';exact⟨vs,rel,⟨o,es,q,c,hd,r⟩,hs⟩
theorem tw{P:J4}{w:O3}{K:u8}{tg:K4}(it:E5) {ep:Nat}{es:Array am1}(hd:o.data=.dict es ep):iB P w K tg (Dn a o ks) [it] it (fun i h=>h.IsKeyIter it a i ks.length ep) where
 mem:=by simp
 obj:=fun i h st b hb=>by
  have e:b=it:=by simpa using hb
  subst e;obtain⟨o,e,c,d⟩:=st;exact⟨o,e,fun v z=>by rw[d]at z;cases z⟩
 keep:=fun i h h' st k=>st.at fun o e=>k it (by simp) o e
 item:=by
  intro X hP hw hK hc i aa s σ H E I hf st hg;subst hP hw hK;obtain⟨e,hi⟩:=hg;obtain⟨vs,rel,da,hs⟩:=rL I e hd;obtain⟨f0,f1,f2,f3,f4,f5⟩:=hf it (by simp);have hl:ks.length=vs.length:=rel.length;obtain⟨⟨k,x⟩,hx⟩:∃p,vs[i]?=some p:=⟨vs[i],by simp[show i<vs.length by lia]⟩;rw[hl]at st;refine wpAny_pyNext_dict_item st da hx fun key h' hkey hit' hs'=>?_;have I1:Inv X aa σ H { s with heap:=h' }:=I.turned (t':=s.toks) (fun b o hb e=>hs'.extBut b o hb e) f0 f1 f3 f4 f5;obtain⟨k',v',hk'⟩:∃k' v',ks[i]?=some (k',v'):=⟨ks[i].1,ks[i].2,by simp[hi]⟩;have ek:k'=k:=by
   have q:=rel.keys;have q1:=congrArg (fun l=>l[i]?) q;simp only[L7,hk',hx,ac1]at q1;exact N3 q1
  subst ek;obtain⟨ob,e1,c1,d1⟩:=id hit';rw[<-hl]at hit';exact⟨key,rfl,oy (s:={ s with heap:=h' }) e1 c1 d1 (by decide) ⟨kV k',H,I1,w6 hkey,⟨rfl,k',v',hk',rfl⟩,hit',fun b hb=>(hf b hb).1⟩⟩
 done:=by
  intro X hP hw hK hc i aa s σ H E I hf st hg;subst hP hw hK;obtain⟨e,hi⟩:=hg;obtain⟨vs,rel,da,hs⟩:=rL I e hd;obtain⟨f0,f1,f2,f3,f4,f5⟩:=hf it (by simp);have hl:ks.length=vs.length:=rel.length;rw[hl]at st;exact wpAny_pyNext_dict_end (I.ok.hd hc) st da (by simp;lia) fun h' eb=>⟨rfl,I.turned (t':=s.toks) (fun b o hb e=>eb b o hb e) f0 f1 f3 f4 f5⟩
 self:=fun _ _ _ _ _ st h=>wpAny_pyIter_keyiter st h
end
section
variable{X:Cx}{tg l:K4}{tl:TE}{te:TEd}
def iDk(tl:TE):TI:=fun σ H R=>tl σ H fun x H1=>∃a ks,x=.ref a/\H1 a=some (.dK ks)/\∀o,R (Dn a o ks) (upd H1 a (.frz o (.dK ks)))
theorem Dy(hl:PE X l tl):PI X tg l (iDk tl):=by
 intro aa s σ H R I h;refine thn (hl aa s σ H _ I h) fun v s1 hup=>hup.el fun x H1 I1 r1 q1=>?_;obtain⟨a,ks,e,ea,q⟩:=q1;subst e;cases r1;obtain⟨o,ho,I2⟩:=I1.freeze ea;obtain⟨_,hs,vs,rel,o',es,ep,q',c,hd,r⟩:=nj I1.hok ea;rw[ho]at q';cases q';have da:s1.heap.DictAt (aS X.prog X.w) a vs ep:=⟨o,es,ho,c,hd,r⟩;refine wpAny_pyIter_dict hs da ?_;have bu:vs.length=ks.length:=rel.length.symm;refine⟨s1.heap.objs.size,[s1.heap.objs.size],_,_,_,rfl,I2.kept (t':=s1.toks) fun b o e=>E1 _ e,tw _ hd,?_,fun b hb=>?_,q o⟩
 ·rw[bu];exact⟨_,F0 _ rfl,rfl,rfl⟩
 ·have e:b=s1.heap.objs.size:=by simpa using hb
  subst e;exact I2.fpOk (F5 _) (I2.hok.fresh (F5 _))
def Ds(te:TEd):TId:=fun Δ M R=>te Δ M fun d M1=>∃a kvs,d=.ref a/\M1 a=some (.dK kvs)/\R (kvs.map fun p=>kD p.1) (fR M1 a)
theorem KR.keys{K:u8}{M:DH}{H:Hp}{κ:Type}{kvs:List (κ×D)}{ks:List (κ×V)}(h:KR K M H kvs ks):kvs.map (·.1)=ks.map (·.1):=by
 unfold KR at h
 induction h with
 |nil=>rfl
 |cons r _ ih=>rw[J5,J5,ih,r.1]
theorem jP{K:u8}{M:DH}{H:Hp}{k:Key}:Rep K M H (kD k) (kV k):=by cases k<;>simp[kD,kV,Rep]
end
end L2
namespace L2
open PySem PySem.W PyProof.Rows
section
variable{α β:Type}
variable{O:KeyOrd}{key:Nat->O.α}{n:Nat}
noncomputable def kp(O:KeyOrd) (key:Nat->O.α) (p:Array Nat) (i:Nat):O.α:=key (p.getD i 0)
end
end L2
namespace L2
open PySem PySem.W PySem.Calls PyProof.Rows
end L2
namespace L2
open PySem PySem.Spec PyProof.Rows
theorem DT{X:Cx}{pos:Pos}:QEd X (.Dict [] [] pos) dDT:=by
 simp only[QEd.eq]at *
 exact PE.conv u6 fun σ H Q hup=>hup.el fun Δ M R sr hr q k=>fun p hp =>
  k _ _ _ _ (q p (hr.fresh hp)) (Ext.own hp) (hr.put (Ext.own hp) ⟨[],az,.nil⟩) (by simp only[Rep])
theorem rj{X:Cx}{a:K4}{b:K4}{ta:TEd}{tb:TEd}{pos:Pos}(ha:QEd X a ta) (hb:QEd X b tb):QEd X (.Dict [some a] [b] pos) (tS ta tb):=by
 simp only[QEd.eq]at *
 exact PE.conv (wW (uO ha hb xI) rfl rfl (by simp) (by simp)) fun σ H Q hup=>hup.el fun Δ M R sr hr q k=>fun p hp=>by
   have e0:Ext M H (ar M p (.dK [])) (upd H p (.dK [])):=Ext.own hp;refine⟨Δ,_,_,sr.ext e0,hr.put e0 ⟨[],az,.nil⟩,q p (hr.fresh hp),fun x M1 v H1 q1 e1 hr1 rv=>⟨Δ,M1,_,(sr.ext e0).ext e1,hr1,q1,fun y M2 u H2 ⟨ky,ex,em,q2⟩ e2 hr2 ru=>?_⟩⟩;obtain⟨ks,h2,kr⟩:=hr2 p _ em;cases kr;subst ex;refine⟨h2,[(ky,u)],?_,by simp,?_⟩
   ·rw[iD rv];rfl
   ·have em':gu [] [(ky,u)]=[(ky,u)]:=by simp[gu,dD]
    rw[em'];have ew:Ext M2 H2 (ar M2 p (.dK [(ky,y)])) (upd H2 p (.dK [(ky,u)])):=Ext.write em;exact k _ _ _ _ q2 ((e0.trans (e1.trans e2)).trans ew) (hr2.put ew ⟨_,az,.cons ⟨rfl,ru.ext ew⟩ .nil⟩) (by simp only[Rep])
theorem yX{X:Cx}{o:K4}{es:List K4}{to:TEd}{t:TAd}{pos:Pos}(neg:Bool) {x1}{p:Pos}{op:am9}(hop:op=(if neg then .NotIn else .In)) (hu:X.A.units+1<ae6) (ht:QAd X es t) (ho:QEd X o to) (hm:T6 op o=false):QEd X (.Compare (.Tuple es x1 p) [op] [o] pos) (wH neg t to):=by
 simp only[QEd.eq,QAd.eq]at *
 exact PE.conv (Az (pf hop hu (mQ ht) ho) hm) oo
theorem zH{X:Cx}{o:K4}{i:K4}{to:TEd}{ti:TEd}{pos:Pos}(neg:Bool) {op:am9}(hop:op=(if neg then .NotIn else .In)) (hu:X.A.units+1<ae6) (hi:QEd X i ti) (ho:QEd X o to) (hm:T6 op o=false):QTd X (.Compare i [op] [o] pos) (pI (Ah neg ti to)):=by
 simp only[QEd.eq,QTd.eq]at *
 exact PT.conv (wa (pf hop hu hi ho) hm) (CM wb)
theorem Ap{X:Cx}{o:K4}{es:List K4}{to:TEd}{t:TAd}{pos:Pos}(neg:Bool) {x1}{p:Pos}{op:am9}(hop:op=(if neg then .NotIn else .In)) (hu:X.A.units+1<ae6) (ht:QAd X es t) (ho:QEd X o to) (hm:T6 op o=false):QTd X (.Compare (.Tuple es x1 p) [op] [o] pos) (pI (wH neg t to)):=by
 simp only[QEd.eq,QAd.eq,QTd.eq]at *
 exact PT.conv (wa (pf hop hu (mQ ht) ho) hm) (CM oo)
theorem Bn{X:Cx}{e:K4}{o:K4}{i:K4}{te:TEd}{to:TEd}{ti:TEd}{pos:Pos}{p:Pos}(hu:X.A.units+1<ae6) (ho:QEd X o to) (hi:QEd X i ti) (he:QEd X e te) (hs:Z0 e (some (.Subscript o i p)) pos.line X.env=ad0 false:=by rfl):QSd X (.Assign [.Subscript o i p] e pos) (yN to ti te):=by
 simp only[QEd.eq,QSd.eq]at *
 exact PS.conv (mX hu ho hi he hs) fun D σ H hup=>hup.el fun Δ M E sr hr q k=>⟨Δ,M,_,sr,hr,q,fun d M1 v H1 q1 e1 hr1 rv=>⟨Δ,M1,_,sr.ext e1,hr1,q1,fun x M2 u H2 q2 e2 hr2 ru=>⟨Δ,M2,_,(sr.ext e1).ext e2,hr2,q2,fun y M3 w H3 ⟨a,kvs,ky,ex,em,ey,hz,q3⟩ e3 hr3 rw_=>by
   subst ex;subst ey;simp only[Rep]at ru;subst ru;obtain⟨ks,h3,kr⟩:=hr3 a _ em;have ew:Ext M3 H3 (ar M3 a (.dK (fO kvs ky d))) (upd H3 a (.dK (dD ks ky v))):=Ext.write em;refine⟨a,_,rfl,by rw[iD rw_];exact my.k h3 (by rw[<-kr.length];exact hz),?_⟩;exact k.nx Δ _ σ _ q3 (((e1.trans e2).trans e3).trans ew) (hr3.put ew ⟨_,az,(kr.put ky ((rv.ext e2).ext e3)).ext ew⟩) ((((sr.ext e1).ext e2).ext e3).ext ew)⟩⟩⟩
theorem As{X:Cx}{e:K4}{o:K4}{es:List K4}{te:TEd}{to:TEd}{t:TAd}{pos:Pos}{x1}{p p2:Pos}(hu:X.A.units+1<ae6) (ho:QEd X o to) (ht:QAd X es t) (he:QEd X e te) (hs:Z0 e (some (.Subscript o (.Tuple es x1 p2) p)) pos.line X.env=ad0 false:=by rfl):QSd X (.Assign [.Subscript o (.Tuple es x1 p2) p] e pos) (zv to t te):=by
 simp only[QEd.eq,QAd.eq,QSd.eq]at *
 exact PS.conv (mX hu ho (mQ ht) he hs) fun D σ H hup=>hup.el fun Δ M E sr hr q k=>⟨Δ,M,_,sr,hr,q,fun d M1 v H1 q1 e1 hr1 rv=>⟨Δ,M1,_,sr.ext e1,hr1,q1,fun x M2 u H2 q2 e2 hr2 ru=>⟨Δ,M2,_,(sr.ext e1).ext e2,hr2,q2,fun ds M3 ws H3 ⟨hl,a,kvs,ky,ex,em,ey,hz,q3⟩ e3 hr3 rw_=>by
   subst ex;subst ey;simp only[Rep]at ru;subst ru;refine⟨by rw[<-rw_.length];exact hl,fun p hp=>?_⟩;obtain⟨ks,h3,kr⟩:=hr3 a _ em;have hap:a≠p:=bF h3 hp;have e4:Ext M3 H3 M3 (upd H3 p (.tup ws)):=Ext.new hr3 hp;have hr4:=hr3.new (o:=.tup ws) hp;have ew:Ext M3 (upd H3 p (.tup ws)) (ar M3 a (.dT (fO kvs ky d))) (upd (upd H3 p (.tup ws)) a (.dT (dD ks ky v))):=Ext.write em;have h4:upd H3 p (.tup ws) a=some (.dT ks):=by rw[aB hap];exact h3
   refine⟨a,_,rfl,my.t h4 (by rw[az,mS rw_]) (by rw[<-kr.length];exact hz),?_⟩;exact k.nx Δ _ σ _ q3 ((((e1.trans e2).trans e3).trans e4).trans ew) (hr4.put ew ⟨_,az,((kr.ext e4).put ky (((rv.ext e2).ext e3).ext e4)).ext ew⟩) (((((sr.ext e1).ext e2).ext e3).ext e4).ext ew)⟩⟩⟩
theorem Dp{X:Cx}{tg:K4}{l:K4}{te:TEd}(he:QEd X l te):QId X tg l (Ds te):=by
 simp only[QEd.eq,QId.eq]at *
 exact fun aa s σ H R I h =>
  PI.conv (Dy he) (fun σ H R hup=>hup.el fun Δ M R' sr hr q k=>⟨Δ,M,_,sr,hr,q,fun d M1 v H1 ⟨a,kvs,ed,em,q1⟩ e1 hr1 rv=>by
   subst ed;simp only[Rep]at rv;subst rv;obtain⟨ks,h1,kr⟩:=hr1 a _ em;refine⟨a,ks,rfl,h1,fun o=>?_⟩;have e2:Ext M1 H1 (fR M1 a) (upd H1 a (.frz o (.dK ks))):=fun b u z n=>by
    have hb:b≠a:=fun w=>by rw[w,em]at n;cases n
    rw[aB hb,qC hb];exact⟨z,n⟩
   have hr2:HR X.K (fR M1 a) (upd H1 a (.frz o (.dK ks))):=fun b u z=>by
    have hb:b≠a:=fun w=>by rw[w,fG]at z;cases z
    rw[qC hb]at z;exact(hr1 b u z).keep e2 (aB hb)
   refine k _ _ _ _ q1 (e1.trans e2) hr2 ?_
   ·intro M2 H2 e3 hr3 i;have ea:=(e3 a _ az fG).1;refine⟨fun d hd=>?_,fun hl=>⟨ea,?_⟩⟩
    ·rw[L7]at hd;cases q:kvs[i]? with
     |none=>rw[q]at hd;cases hd
     |some p =>
      rw[q]at hd;cases hd;have hi:i<kvs.length:=(F4.mp q).1;refine⟨⟨ea,by rw[<-kr.length];exact hi⟩,fun x H' ⟨eH,k',v',hk,ex⟩=>?_⟩;subst eH;subst ex;have q1:=congrArg (fun l=>l[i]?) kr.keys;simp only[L7,q,hk,ac1]at q1;have q2:p.fst=k':=N3 q1;refine⟨Ext.refl _ _,hr3,?_⟩;show Rep X.K M2 _ (kD p.fst) (kV k');rw[q2];exact jP
    ·rw[<-kr.length];simpa using hl⟩) aa s σ H R I h
theorem bt.units1{k:Nat}{A:L8}(r:bt k A):A.units+1<ae6:=by have:=r.un;lia
theorem Dj{i:Int}{P:Key->Prop}:(∃k,D.int i=kD k/\P k)↔P (.inl i) :=
 ⟨fun⟨k,e,h⟩=>match k,e with|.inl _,rfl=>h,fun h=>⟨_,rfl,h⟩⟩
theorem Dm{x:Str}{P:Key->Prop}:(∃k,D.str x=kD k/\P k)↔P (.inr x) :=
 ⟨fun⟨k,e,h⟩=>match k,e with|.inr _,rfl=>h,fun h=>⟨_,rfl,h⟩⟩
theorem AD:∀{a b:Key},kD a=kD b->a=b
 |.inl _,.inl _,h=>by cases h;rfl
 |.inr _,.inr _,h=>by cases h;rfl
 |.inl _,.inr _,h=>by cases h
 |.inr _,.inl _,h=>by cases h
theorem qI:∀{a b:List Key},a.map kD=b.map kD->a=b
 |[],[],_=>rfl
 |[],_::_,h=>by cases h
 |_::_,[],h=>by cases h
 |x::xs,y::ys,h=>by
  simp only[J5,ag5]at h;rw[AD h.1,qI h.2]
theorem yJ{a b:Key}{P:List Key->Prop}:(∃ks:List Key,[kD a,kD b]=ks.map kD/\P ks)↔P [a,b] :=
 ⟨fun⟨ks,e,h⟩=>by rw[qI (a:=[a,b]) (b:=ks) (by simpa using e)];exact h,fun h=>⟨_,rfl,h⟩⟩
theorem zB{i j:Int}{P:List Key->Prop}:(∃ks:List Key,[D.int i,D.int j]=ks.map kD/\P ks)↔P [.inl i,.inl j]:=yJ (a:=.inl i) (b:=.inl j)
theorem AV{i j:Str}{P:List Key->Prop}:(∃ks:List Key,[D.str i,D.str j]=ks.map kD/\P ks)↔P [.inr i,.inr j]:=yJ (a:=.inr i) (b:=.inr j)
theorem wF{i j:Int}:tm [.int i,.int j]=some (.int (if j<i then j else i)):=rfl
abbrev BKd:=DE->DH->List D->(List D->DE->DH->Prop)->Prop
def eY(g:GD) (tc:TTd) (B:BKd):List D->DE->DH->List D->(List D->DE->DH->Prop)->Prop
 |[],Δ,M,acc,Q=>Q acc Δ M
 |d::ds,Δ,M,acc,Q=>∃ Δ',g d Δ=some Δ'/\tc Δ' M fun b M1=>if b=true then B Δ' M1 acc fun acc' Δ'' M2=>acc'.length<=E4/\eY g tc B ds Δ'' M2 acc' Q else eY g tc B ds Δ' M1 acc Q
def qf(te:TEd):BKd:=fun Δ M acc Q=>te Δ M fun y M2=>Q (acc++[y]) Δ M2
def pk(wi:TId) (g:GD) (tc:TTd) (B:BKd):BKd:=fun Δ M acc Q=>wi Δ M fun es M2=>eY g tc B es Δ M2 acc Q
def upB(K:u8) (b:BKd):BK:=fun ys σ H Z=>∃(Δ:DE) (M:DH) (acc:List D) (R:List D->DE->DH->Prop),SR K M H σ Δ/\HR K M H/\am K M H acc ys/\acc.length<=E4/\b Δ M acc R /\
 ∀acc' Δ' M' ys' σ' H',R acc' Δ' M'->Ext M H M' H'->HR K M' H'->SR K M' H' σ' Δ'->am K M' H' acc' ys'->Z ys' σ' H'
section
variable{K:u8}{g:GD}{gv:TG}{tc:TTd}{te:TEd}{wi:TId}{Bd:BKd}{B:BK}
theorem ya{ys:List V}{σ:St}{H:Hp}{Z:List V->St->Hp->Prop}(h:upB K (qf te) ys σ H Z):jn (up K te) ys σ H Z:=by
 obtain⟨Δ,M,acc,R,sr,hr,ra,_,q,k⟩:=h;exact⟨Δ,M,_,sr,hr,q,fun d M' v H' q1 e1 hr1 rv=>k _ _ _ _ _ _ q1 e1 hr1 (sr.ext e1) ((ra.ext e1).append (am.cons rv am.nil))⟩
theorem rq(kg:ki K g gv) (hB:∀{ys σ H Z},upB K Bd ys σ H Z->B ys σ H Z) {J:It}{es:List D}{M5:DH}{H5:Hp}(it5:ItD K J es M5 H5) (hr5:HR K M5 H5) {Δ:DE}{acc:List D}{R:List D->DE->DH->Prop}{ys:List V}{σ:St}{Z:List V->St->Hp->Prop}
  (sr:SR K M5 H5 σ Δ) (ra:am K M5 H5 acc ys) (la:acc.length<=E4) (q:eY g tc Bd es Δ M5 acc R)
  (k:∀acc' Δ' M' ys' σ' H',R acc' Δ' M'->Ext M5 H5 M' H'->HR K M' H'->SR K M' H' σ' Δ'->am K M' H' acc' ys'->Z ys' σ' H') :
  ∃W:Nat->Nat->List V->St->Hp->Prop,(∃m,W 0 m ys σ H5)/\iI J gv (upT K tc) B W Z:=by
 refine⟨fun j m ys' σ' H'=>∃ Δ' M' acc',m=es.length-j/\j<=es.length/\Ext M5 H5 M' H'/\HR K M' H'/\SR K M' H' σ' Δ'/\am K M' H' acc' ys'/\acc'.length<=E4/\eY g tc Bd (es.drop j) Δ' M' acc' R,
  ⟨es.length,Δ,M5,acc,by simp,O4 _,Ext.refl _ _,hr5,sr,ra,la,q⟩,?_⟩
 rintro j m ys' σ6 H6 ⟨Δ6,M6,acc6,rfl,hj,e6,hr6,sr6,ra6,la6,f6⟩;refine⟨by rw[<-ra6.length];exact la6,?_⟩;obtain⟨go2,stop2⟩:=it5 M6 H6 e6 hr6 j
 by_cases hlt2:j<es.length
 ·have hd2:es[j]?=some es[j]:=by simp[hlt2]
  obtain⟨g2,y2⟩:=go2 _ hd2;rw[V7 hlt2]at f6;simp only[eY]at f6;obtain⟨Δ7,eg7,f7⟩:=f6;refine .inr ⟨g2,fun x7 H7 hy7=>?_⟩;obtain⟨e7,hr7,rx7⟩:=y2 x7 H7 hy7;refine kg _ x7 σ6 Δ6 Δ7 M6 H7 _ (sr6.ext e7) hr7 rx7 eg7 fun σ7 sr7=>?_;refine⟨Δ7,M6,_,sr7,hr7,f7,fun b M8 H8 q8 e8 hr8=>?_⟩;cases b with
  |true =>
   simp only[if_true]at q8 ⊢;refine hB ⟨Δ7,M8,acc6,_,sr7.ext e8,hr8,(ra6.ext e7).ext e8,la6,q8,?_⟩;rintro acc' Δ' M' ys9 σ' H' ⟨hz9,q9⟩ e9 hr9 sr9 ra9;exact⟨es.length-(j+1),by lia,Δ',M',acc',rfl,hlt2,((e6.trans e7).trans e8).trans e9,hr9,sr9,ra9,hz9,q9⟩
  |false =>
   simp only[K8,if_false]at q8 ⊢;exact⟨es.length-(j+1),by lia,Δ7,M8,acc6,rfl,hlt2,(e6.trans e7).trans e8,hr8,sr7.ext e8,(ra6.ext e7).ext e8,la6,q8⟩
 ·rw[Z5 (by lia)]at f6;simp only[eY]at f6;exact .inl ⟨stop2 (by lia),k _ _ _ _ _ _ f6 e6 hr6 sr6 ra6⟩
theorem xp(kg:ki K g gv) (hB:∀{ys σ H Z},upB K Bd ys σ H Z->B ys σ H Z) {ys:List V}{σ:St}{H:Hp}{Z:List V->St->Hp->Prop}(h:upB K (pk wi g tc Bd) ys σ H Z):wj (upI K wi) gv (upT K tc) B ys σ H Z:=by
 obtain⟨Δ,M,acc,R,sr,hr,ra,la,q,k⟩:=h;exact⟨Δ,M,_,sr,hr,q,fun es M2 J H2 q2 e2 hr2 it2=>rq kg hB it2 hr2 (sr.ext e2) (ra.ext e2) la q2 fun a1 a2 a3 a4 a5 a6 b1 b2=>k a1 a2 a3 a4 a5 a6 b1 (e2.trans b2)⟩
end
def Ai(ms:List Bool) (k:Nat) (w0:TId) (g0:GD) (tc0:TTd) (B:BKd):TEd:=fun Δ M Q=>w0 Δ M fun ds M1=>eY g0 tc0 B ds (iO ms k Δ) M1 [] fun ys _ M2=>Q (.lst ys) M2
theorem wt{K:u8}{w0:TId}{g0:GD}{tc0:TTd}{gv0:TG}{Bd:BKd}{B:BK}{ms:List Bool}{kk:Nat}(kg:ki K g0 gv0) (hB:∀{ys σ H Z},upB K Bd ys σ H Z->B ys σ H Z):∀ σ H Q,up K (Ai ms kk w0 g0 tc0 Bd) σ H Q->yE ms kk (upI K w0) gv0 (upT K tc0) B σ H Q:=by
 rintro σ H Q ⟨Δ,M,R,sr,hr,q,k⟩;refine⟨Δ,M,_,sr,hr,q,fun ds M1 J H1 q1 e1 hr1 it=>?_⟩;obtain⟨W,hW,hC⟩:=rq (Z:=fun ys' _ H'=>∃M' acc,Ext M1 H1 M' H'/\HR K M' H'/\am K M' H' acc ys'/\R (.lst acc) M') kg hB it hr1 ((sr.ext e1).comp ms kk) am.nil (O4 _) q1
  (fun acc' Δ' M' ys' σ' H' q' e' hr' _ ra'=>⟨M',acc',e',hr',ra',q'⟩)
 refine⟨W,_,hW,hC,?_⟩;rintro ys σ' H' p ⟨M',acc,e',hr',ra,q'⟩ hp;refine k _ M' _ _ q' ((e1.trans e').trans (Ext.new hr' hp)) (hr'.new hp) ?_;simp only[Rep];exact⟨p,ys,rfl,⟨az,hr'.fresh hp⟩,ra.ext (Ext.new hr' hp)⟩
abbrev Eb(elt t0 i0 t1 i1:K4) (f0 f1:List K4) (scope:aa5) (pos:Pos):K4:=.ListComp elt [⟨t0,i0,f0,0⟩,⟨t1,i1,f1,0⟩] scope pos
def Bg(ms:List Bool) (k:Nat) (w0:TId) (g0:GD) (tc0:TTd) (wi:TId) (g:GD) (tc:TTd) (te:TEd):TEd:=Ai ms k w0 g0 tc0 (pk wi g tc (qf te))
section
variable{X:Cx}{scope:aa5}{cl:List (Str×E5)}{ms:List Bool}{ao:List Str}{elt t0 i0 t1 i1:K4}{f0 f1:List K4}{pos:Pos}
theorem Bs{w1:TI}{g1:TG}{tc1:TT}{te:TE}(hi1:∀C s H ex,PI (aD X scope cl (X.N++ao) C s H ex) t1 i1 w1) (hg1:∀C s H ex,PG (aD X scope cl (X.N++ao) C s H ex) t1 g1) (hif1:∀C s H ex,PIf (aD X scope cl (X.N++ao) C s H ex) f1 tc1) (he:∀C s H ex,PE (aD X scope cl (X.N++ao) C s H ex) elt te)
  (hs1:∀C x,O1 i1 (an9 scope cl C X.env) x=ad0 x):LvC X scope cl ao (lcE elt [⟨t0,i0,f0,0⟩,⟨t1,i1,f1,0⟩] scope pos) i0.pos t0 f0 (wj w1 g1 tc1 (jn te)):=fun _ _ _ _ _ c =>
 wN c (qB (k:=1) (p:=i1.pos) c (he _ _ _ _) fun _ _ _=>rfl) (fun _ _ _=>rfl) (hs1 _) (hi1 _ _ _ _) (hg1 _ _ _ _) (hif1 _ _ _ _) fun _ _ _=>rfl
end
@[irreducible] def yt(t:TSd):TSd:=t
theorem qQ{t:TSd}:yt t=t:=by unfold yt;rfl
theorem aG{t:TSd}{E:cP}{Δ:DE}{M:DH}(h:t E Δ M):yt t E Δ M:=by rw[qQ];exact h
theorem aU{X:Cx}{st:List Z7}{t:TSd}(h:QSs X st t):QSs X st (yt t):=by rw[qQ];exact h
theorem vD{K:Params->u8}{as:List E5}{n t:Nat}{q:J4}{loose:List Str}{XP:(Str->Option s0)->I0->Prop}{r:PySem.W.RowW}{d:DefRec}{kwd:List (Str×K4)}{run:s0->List s0->Sem s0}(hk:∀P,as=(K P).map (·.1))
  (h:PySem.W.WalkO q loose XP (fun w h=>(K w.params).In h) r d kwd run):PySem.W.WalkX q loose XP (PySem.W.X.obsZ as) (PySem.W.X.valZ K n t) r d kwd run:=by
 intro w s₀ s₁ mg mb G y a o pm cd doc dV kV ho hd hcd hD hmg hg args vals as' L hpre hlay hrd hwl hlo;refine h w s₀ s₁ mg mb G (fun b u hu=>L.keeps b u ?_) a o pm cd doc dV kV ho hd hcd hD hmg hg args vals as' hpre hlay hrd hwl hlo;have y1:as.map s₀.heap.get?=(K w.params).map fun p=>some p.2:=congrArg (·.1) y;rw[hk w.params,W1]at y1;have key:∀(l:u8),(l.map fun p=>s₀.heap.get? p.1)=l.map (fun p=>some p.2)->an3 b l=some u->s₀.heap.get? b=some u:=by
  intro l
  induction l with
  |nil=>intro _ z;cases z
  |cons p l ih =>
   intro e z;rw[J5,J5,ag5]at e;rw[P2]at z
   by_cases c:b=p.1
   ·subst c;rw[beq_self_eq_true]at z;cases z;exact e.1
   ·rw[beq_eq_false_iff_ne.mpr c]at z;exact ih e.2 z
 exact key _ y1 hu
end L2
namespace L2
open PySem PySem.W PySem.Calls PyProof.Rows
end L2
namespace L2
open PySem PySem.Spec PyProof.Rows
section
variable{X:Cx}{scope:aa5}{cl:List (Str×E5)}{ms:List Bool}{ao:List Str}{elt t0 i0 t1 i1:K4}{f0 f1:List K4}{pos:Pos}
theorem ui{i:Nat}{x:Str}{spos pos':Pos}{w0 wi:TId}{g0 g:GD}{tc0 tc:TTd}{te:TEd}(hN:X.N.Nodup) (hix:X.N[i]?=some x) (hx:X.env.scope.names.lookup x=some .local)
  (hsw:Z0 (.ListComp elt [⟨t0,i0,f0,0⟩,⟨t1,i1,f1,0⟩] scope pos) (some (.Name x pos')) spos.line X.env=ad0 true) (S:cC X scope cl ms ao) (cO:X.calm=true) (hi:QId X t0 i0 w0) (hg0:PGa X scope cl ao t0 g0)
  (hif0:∀C s H ex,QIf (aD X scope cl (X.N++ao) C s H ex) f0 tc0) (hi1:∀C s H ex,QId (aD X scope cl (X.N++ao) C s H ex) t1 i1 wi) (hg:PGa X scope cl ao t1 g) (hif:∀C s H ex,QIf (aD X scope cl (X.N++ao) C s H ex) f1 tc) (he:∀C s H ex,QEd (aD X scope cl (X.N++ao) C s H ex) elt te)
  (hs:∀x,O1 i0 X.env x=ad0 x:=by intro _;rfl) (hs1:∀C x,O1 i1 (an9 scope cl C X.env) x=ad0 x:=by intro _ _;rfl):QSd X (.Assign [.Name x pos'] (.ListComp elt [⟨t0,i0,f0,0⟩,⟨t1,i1,f1,0⟩] scope pos) spos) (ua i (Bg ms ao.length w0 g0 tc0 wi g tc te)):=by
 simp only[QEd.eq,QSd.eq,QId.eq,QIf.eq]at *
 obtain⟨gv0,pg0,kg0⟩:=hg0;obtain⟨gv,pg,kg⟩:=hg;refine(lP (tc:=upT X.K tc0) hN hix hx hsw S cO hi pg0 hif0 (Bs (w1:=upI X.K wi) (tc1:=upT X.K tc) (te:=up X.K te) hi1 pg hif he hs1) hs).conv fun D σ H hh=>?_;obtain⟨Δ,M,E,sr,hr,q,k⟩:=hh;unfold ua Bg at q;exact wt kg0 (fun h=>xp kg ya h) σ H _ ⟨Δ,M,_,sr,hr,q,fun d M1 v H1 q1 e1 hr1 rv=>k.nx _ M1 _ H1 q1 e1 hr1 ((sr.ext e1).set i rv)⟩
end
section
variable{X:Cx}
end
section
variable{X:Cx}{l:K4}{tl:TE}{te:TEd}{elts:List K4}{x1:Nat}{pt dP bj:Pos}
theorem qt{K:u8}{M:DH}{H:Hp}:∀ks:List Key,am K M H (ks.map kD) (ks.map kV)
 |[]=>am.nil
 |k::ks=>am.cons jP (qt ks)
end
section
variable{X:Cx}
def inF(x y:D):Option D:=match y with
 |.lst ds=>if dLe x 59=true/\bL ds 59=true then some (.bl (ds.any fun d=>eqD d x))else none
 |_=>none
theorem C9{x:D}{ds:List D}:inF x (.lst ds)=if dLe x 59=true/\bL ds 59=true then some (.bl (ds.any fun d=>eqD d x))else none:=rfl
end
section
variable{X:Cx}{a b e:K4}{ta tb te:TEd}{pos:Pos}
def zp(ta tb:TEd):TEd:=fun Δ M Q=>ta Δ M fun x M1=>tb Δ M1 fun y M2=>∃xs n,rdM M2 x=.lst xs/\y=.int n/\-(2 ^ 63)<=n/\n<2 ^ 63/\xs.length*n.toNat<=E4/\∀p,M2 p=none->Q (.ref p) (ar M2 p (.lst (E6 n.toNat xs).flatten))
theorem AH(ha:QEd X a ta) (hb:QEd X b tb):QEd X (.BinOp a .Mult b pos) (zp ta tb):=by
 simp only[QEd.eq]at *
 exact(yZ vF ha hb).conv fun σ H Q hup=>hup.el fun Δ M R sr hr q k=>⟨Δ,M,_,sr,hr,q,fun x M1 v H1 q1 e1 hr1 rv=>⟨Δ,M1,_,sr.ext e1,hr1,q1,fun y M2 u H2 ⟨xs,n,ex,ey,h0,h1,hz,q2⟩ e2 hr2 ru=>by
   have r1:=(rv.ext e2).rd hr2;rw[ex]at r1;subst ey;simp only[Rep]at ru;obtain⟨l1,vs,rfl,hl,l1r⟩:=r1;exact⟨l1,n,vs,rfl,ru,hl,h0,h1,by rw[<-l1r.length];exact hz,fun p hp=>k _ _ _ _ (q2 p (hr2.fresh hp)) ((e1.trans e2).trans (Ext.own hp)) (hr2.own hp (l1r.rep n.toNat)) (by simp only[Rep])⟩⟩⟩
def oi(ds:List D) (x:D):Option Nat:=if dLe x 59=true/\bL ds 59=true/\ds.length<2 ^ 62 then ds.findIdx? (fun d=>eqD d x)else none
theorem vp{ds:List D}{x:D}{j:Nat}(h:oi ds x=some j):dLe x 59=true/\bL ds 59=true/\ds.length<2 ^ 62/\∃hj:j<ds.length,eqD ds[j] x=true/\∀m (hm:m<ds.length),m<j->eqD ds[m] x=false:=by
 unfold oi at h
 by_cases hc:dLe x 59=true/\bL ds 59=true/\ds.length<2 ^ 62
 ·rw[if_pos hc]at h;obtain⟨hj,h1,h2⟩:=List.findIdx?_eq_some_iff_getElem.mp h;exact⟨hc.1,hc.2.1,hc.2.2,hj,h1,fun m hm hl=>by have:=h2 m hl;simpa using this⟩
 ·rw[if_neg hc]at h;cases h
section
open PySem.SeqAt PySem.MeetsSeq AutoSeq1
theorem nP(l:E5) (xs:Array s0) (n:Nat) (od:Option E5) (os:Array (Option s0)) (y:s0) (hit:Nat->Bool) (top:Int) (j:Nat) (lj:j<xs.size) (ltop:(j:Int)<top) (yes:hit j=true) :
  ∀(k i:Nat),j-i=k->i<=j->(∀m,i<=m->m<j->hit m=false)->Meets (J7.«list.index.loop» ⟨[.ref l,y,af8 i,af8 top],[]⟩)
   (fun B R t=>t.heap.get? l=some { cls:=.type "list",dict:=od,data:=.seq xs n,slots:=os }/\(∀m (h:m<xs.size),EqAt B.in1 t xs[m] y (hit m))/\R (.ok (.ret (.int j t.toks))) { t with toks:=t.toks+1 })
 |0,i,ek,hi,no,prog,w,B,R,t,q=>by
  obtain⟨th,tg,td,tt,to⟩:=t;obtain⟨ql,qe,qr⟩:=q;obtain rfl:i=j:=by lia
  wp_walk using S6 ql
  rw[show(if(i:Int)<top then xs[((i:Nat):Int).toNat]? else none)=some xs[i]by simp[ltop,lj]];refine o0 (qe i lj prog w _ _ ?_);rw[yes]
  wp_walk
  exact qr
 |k+1,i,ek,hi,no,prog,w,B,R,t,q=>by
  obtain⟨th,tg,td,tt,to⟩:=t;obtain⟨ql,qe,qr⟩:=q;have li:i<xs.size:=by lia
  have lt:(i:Int)<top:=by lia
  wp_walk using S6 ql
  rw[show(if(i:Int)<top then xs[((i:Nat):Int).toNat]? else none)=some xs[i]by simp[lt,li]];refine o0 (qe i li prog w _ _ ?_);rw[no i (F5 _) (by lia)]
  wp_walk
  rw[show((i:Int)+1)=((i+1:Nat):Int)by lia];refine⟨al7 plain_index_loop _,ag6 entry_index_loop ?_⟩;rw[ae3 plain_index_loop _];exact nP l xs n od os y hit top j lj ltop yes k (i+1) (by lia) (by lia) (fun m a b=>no m (by lia) b) prog w B R _ ⟨ql,qe,qr⟩
theorem uT(l:E5) (xs:Array s0) (n:Nat) (od:Option E5) (os:Array (Option s0)) (y:s0) (hit:Nat->Bool) (j:Nat) (lj:j<xs.size) (ls:(j:Int)<2 ^ 63-1) (yes:hit j=true) (no:∀m,m<j->hit m=false) :
  Meets (J7.«list.index» ⟨[.ref l,y],[]⟩)
   (fun B R t=>t.heap.get? l=some { cls:=.type "list",dict:=od,data:=.seq xs n,slots:=os }/\(∀m (h:m<xs.size),EqAt B.in1 t xs[m] y (hit m))/\R (.ok (.ret (.int j t.toks))) { t with toks:=t.toks+1 }):=by
 intro prog w B R t q;obtain⟨th,tg,td,tt,to⟩:=t;obtain⟨ql,qe,qr⟩:=q
 wp_walk using S6 ql
 rw[show((fun i:Int=>if i<0 then max 0 (i+(xs.size:Int))else i) ((none:Option Int).getD 0))=((0:Nat):Int)by simp,show((fun i:Int=>if i<0 then max 0 (i+(xs.size:Int))else i) ((none:Option Int).getD (2 ^ 63-1)))=2 ^ 63-1 by simp];refine⟨al7 plain_index_loop _,ag6 entry_index_loop ?_⟩;rw[ae3 plain_index_loop _];exact nP l xs n od os y hit (2 ^ 63-1) j lj ls yes _ 0 rfl (O4 _) (fun m _ b=>no m b) prog w B R _ ⟨ql,qe,qr⟩
end
end
section
variable{X:Cx}{o e:K4}{to te:TEd}{dP bj:Pos}
def oO(ds:List D) (d:D) (m:Nat):Bool:=match ds[m]? with|some x=>eqD x d|none=>false
theorem xM{aa:List (E5×Obj)}{σ:St}{H:Hp}{s:E2}{M:DH}{ds:List D}{d:D}{vs:List V}{its:List s0}{y:V}{u:s0}(I:Inv X aa σ H s) (hu:X.A.units+64<ae6) (rl:am X.K M H ds vs) (r:ax vs its) (r1:aN X.K M H d y) (ry:aF y u) (h1:dLe d 59=true) (h2:bL ds 59=true) :
  ∀m (h:m<its.toArray.size),PySem.SeqAt.EqAt X.A.in1 s its.toArray[m] u (oO ds d m):=fun m h=>by
 have hl:ds.length=its.length:=rl.length.trans r.length;have h':m<its.length:=by simpa using h
 have h3:m<ds.length:=by lia
 obtain⟨v1,g1,p1⟩:=rl.get (i:=m) (d:=ds[m]) (by simp[h3]);obtain⟨u1,k1,m1⟩:=r.get g1;have e1:its.toArray[m]=u1:=by simpa[H0 h']using k1
 rw[e1,show oO ds d m=eqD ds[m] d by simp[oO,h3]];exact(kc I 59 (by show X.A.units+1+59<ae6;lia) (eA h2 (i:=m) (by simp[h3])) h1 p1.r r1 m1 ry).1
theorem uP{ds:List D}{x:D}{j:Nat}(h:oi ds x=some j):dLe x 59=true/\bL ds 59=true/\(j:Int)<2 ^ 63-1/\j<ds.length/\oO ds x j=true/\∀m,m<j->oO ds x m=false:=by
 obtain⟨h1,h2,h3,lj,yes,no⟩:=vp h;refine⟨h1,h2,by lia,lj,by simp[oO,lj,yes],fun m hm=>?_⟩;have hm':m<ds.length:=by lia
 simp[oO,hm',no m hm' hm]
theorem xJ(hu:X.A.units+64<ae6):MtR X "list.index" (fun x xs H Q=>∃M ds d y j,xs=[y]/\aN X.K M H (.lst ds) x/\aN X.K M H d y/\oi ds d=some j/\Q (.int j) H):=by
 intro aa s σ H x xs v us Q I rx rv h;obtain⟨M,ds,d,y,j,rfl,r2,r1,hj,q⟩:=h;obtain⟨u,rfl,ry⟩:=ax.one rv;obtain⟨l,vs,rfl,sq,rl⟩:=r2;cases rx;obtain⟨its,r,pl,hz⟩:=I.list (SqL.of sq);obtain⟨h1,h2,h3,lj,yes,no⟩:=uP hj;have hl:ds.length=its.length:=rl.length.trans r.length;obtain⟨⟨c,dd,dt,sl⟩,n,ho,hc,hdd,hdt⟩:=pl;obtain rfl:c=.type "list":=hc;obtain rfl:dt=.seq its.toArray n:=hdt;exact aa3 F.slot_list_index ⟨_,ho,rfl⟩ F.entry_list_index (F.args_list_index_2 _ _) (uT l its.toArray n dd sl u (oO ds d) j (by simp;lia) h3 yes no) ⟨ho,xM I hu rl r r1 ry h1 h2,⟨.int _,H,I.tok _,⟨_,rfl⟩,q⟩⟩
def zj(to te:TEd):TEd:=fun Δ M Q=>to Δ M fun o M1=>(∃ds,rdM M1 o=.lst ds)/\te Δ M1 fun x M2=>∃ds j,rdM M2 o=.lst ds/\oi ds (rdM M2 x)=some j/\Q (.int j) M2
theorem vZ(hu:X.A.units+64<ae6) (ho:QEd X o to) (he:QEd X e te) (et:aa7 o "index" X.env (Z4 o X.env)=Z4 o X.env:=by rfl)
  (hse:E8 [e] X.env=(false,Z4 e X.env)::E8 [] X.env:=by rfl)
  (mG:((V0 bj (E8 [e] X.env)).all (fun x => !x.1) && (al5 bj (af2 [] X.env)).all (fun x => x.1.isSome)
  &&decide ([e].length+([]:List ah1).length+(if([]:List ah1).isEmpty then 0 else 1)<30))=true:=by rfl)
  (gF:(dP.endLine==bj.line)=true:=by rfl) (eI:(V0 bj (E8 [] X.env)).any (·.1)=false:=by rfl):QEd X (.Call (.Attribute o "index" dP) [e] [] bj) (zj to te):=by
 rw[QEd.eq]at *
 refine(rD ac6 PySem.F.slot_list_index PySem.F.type_list_index (xJ hu) ho (bf he dw hse) et mG gF hse eI).conv fun σ H Q hh=>?_;obtain⟨Δ,M,R,sr,hr,q,k⟩:=hh;refine⟨Δ,M,_,sr,hr,q,fun o M1 ov H1 ⟨⟨ds0,e0⟩,q1⟩ e1 hr1 ro=>?_⟩;have r0:=ro.rd hr1;rw[e0]at r0;obtain⟨l0,vs0,rfl,hl0,_⟩:=r0;refine⟨.inl ⟨rfl,vs0,SqL.of hl0⟩,Δ,M1,_,sr.ext e1,hr1,q1,fun d M2 v H2 ⟨ds,j,ed,hj,q2⟩ e2 hr2 rv=>?_⟩;have r2:=(ro.ext e2).rd hr2;rw[ed]at r2;exact⟨M2,ds,_,v,j,rfl,r2,rv.rd hr2,hj,k _ M2 _ H2 q2 (e1.trans e2) hr2 (by simp[Rep])⟩
end
noncomputable def itN:Bool->String
 |true=>"tuple_iterator"
 |false=>"list_iterator"
def sqN:Bool->String
 |true=>"tuple"
 |false=>"list"
def cU(b:Bool) (h:I0) (i l:E5) (k:Nat):Prop:=∃o,h.get? i=some o/\o.cls=.type (itN b)/\o.data=.fields #[.ref l,.int k 0]
def dA(b:Bool) (h:I0) (l:E5) (xs:Array s0):Prop:=∃o,h.get? l=some o/\o.cls=.type (sqN b)/\∃n,o.data=.seq xs n
section
variable{prog:J4}{w:O3}{A:L8}{E:s0->E2->Prop}{s:E2}{b c:Bool}
theorem cU.go{h h':I0}{i l:E5}{k:Nat}(x:cU b h i l k) (f:∀o,h.get? i=some o->h'.get? i=some o):cU b h' i l k:=let⟨o,e,r⟩:=x;⟨o,f o e,r⟩
theorem dA.go{h h':I0}{l:E5}{xs:Array s0}(x:dA b h l xs) (f:∀o,h.get? l=some o->h'.get? l=some o):dA b h' l xs:=let⟨o,e,r⟩:=x;⟨o,f o e,r⟩
theorem gz{it l:E5}{i:Nat}{xs:Array s0}{x:s0}{Q:s0->E2->Prop}(p:cU b s.heap it l i) (q:dA b s.heap l xs) (hx:xs[i]?=some x)
  (k:∀h',cU b h' it l (i+1)->U6 it s.heap h'->Q x { s with heap:=h' }):F6 (J9 prog w) A (N9 (.ref it)) Q E s:=by
 cases b with
 |true=>exact eS (show s.heap.IsTupleIter it l i from p) (show s.heap.IsTuple l xs from q) hx k
 |false=>exact wpAny_nextOf_list_item (show s.heap.IsListIter it l i from p) (show s.heap.IsList l xs from q) hx k
theorem lG{it l:E5}{i:Nat}{xs:Array s0}{Q:s0->E2->Prop}(hh:A.handled=none) (p:cU b s.heap it l i) (q:dA b s.heap l xs) (hx:xs[i]?=none)
  (k:∀h' e,I0.ExtBut it s.heap h'->(∃o,h'.get? e=some o/\o.cls=.type "StopIteration")->E (.ref e) { s with heap:=h' }):F6 (J9 prog w) A (N9 (.ref it)) Q E s:=by
 cases b with
 |true=>exact eW hh (show s.heap.IsTupleIter it l i from p) (show s.heap.IsTuple l xs from q) hx k
 |false=>exact wpAny_nextOf_list_end hh (show s.heap.IsListIter it l i from p) (show s.heap.IsList l xs from q) hx k
theorem sE{z T U i j l m:E5}{k:Nat}{xs ys:Array s0}{x y u v:s0}{Q:s0->E2->Prop}(D:ao2 z T U i j l m)
  (hz:an4 s.heap z T U .none) (hT:ae8 s.heap T (.ref i) (.ref j)) (hU:ae8 s.heap U u v) (hi:cU b s.heap i l k) (hj:cU c s.heap j m k) (hl:dA b s.heap l xs) (hm:dA c s.heap m ys) (hx:xs[k]?=some x) (hy:ys[k]?=some y)
  (q:∀ h',an4 h' z T U (af8 s.heap.objs.size) → ae8 h' U x y → cU b h' i l (k + 1) → cU c h' j m (k + 1) → ae8 h' s.heap.objs.size x y → h'.objs.size = s.heap.objs.size + 1 →
   (∀d o,d≠z->d≠U->d≠i->d≠j->s.heap.get? d=some o->h'.get? d=some o)->Q (.ref s.heap.objs.size) { s with heap:=h' }) :
  F6 (J9 prog w) A (J7.«zip.__next__» ⟨[.ref z],[]⟩) (fun fin s'=>∃v,fin=.done (.ret v)/\Q v s') E s:=by
 show F6 _ _ (field (.ref z) 2 >>= _) _ _ _;refine o0 (O7 hz rfl (x:=.bool false) rfl ?_);show F6 _ _ (field (.ref z) 3 >>= _) _ _ _;refine o0 (O7 hz rfl (x:=.ref T) rfl (o0 (X5 hT rfl ?_)));show F6 _ _ (T0 (.ref z) >>= _) _ _ _;refine o0 ?_;unfold T0;refine o0 (O7 hz rfl (x:=.none) rfl (E3 ?_));simp only[if_true];refine o0 (al2 (o0 (O7 hz rfl (x:=.ref U) rfl ?_)));refine o0 (ab0 hz (by simp) fun g1 z1 s1=>?_);replace z1:an4 g1 z T U .ellipsis:=z1;refine o0 ?_;simp only[List.zipIdx_cons,List.zipIdx_nil,List.forIn_cons,List.forIn_nil];refine o0 (o0 (ag4 ?_));show F6 _ _ (N9 (.ref i) >>= _) _ _ _;refine o0 (gz (hi.go fun o e=>s1.extBut _ _ D.i1z e) (hl.go fun o e=>s1.extBut _ _ D.l1z e) hx fun g2 i2 s2=>E3 ?_);have u2:ae8 g2 U u v:=s2.extBut _ _ D.TOi1 (s1.extBut _ _ D.TOz hU);refine o0 (X5 u2 rfl (o0 (wpAny_updateSeq_pair u2 fun g3 u3 s3=>?_)));replace u3:ae8 g3 U x v:=u3;refine o0 (an5 (E3 (o0 (o0 (ag4 ?_)))));show F6 _ _ (N9 (.ref j) >>= _) _ _ _;refine o0 (gz (hj.go fun o e=>s3.extBut _ _ D.TOi2.symm (s2.extBut _ _ D.i12.symm (s1.extBut _ _ D.i2z e))) (hm.go fun o e=>s3.extBut _ _ D.l2TO (s2.extBut _ _ D.l2i1 (s1.extBut _ _ D.l2z e))) hy fun g4 j4 s4=>E3 ?_);have u4:ae8 g4 U x v:=s4.extBut _ _ D.TOi2 u3;refine o0 (X5 u4 rfl (o0 (wpAny_updateSeq_pair u4 fun g5 u5 s5=>?_)));replace u5:ae8 g5 U x y:=u5;refine o0 (an5 (E3 (E3 (o0 (X5 u5 rfl (o0 (wpAny_newTuple ?_)))))));have sz:g5.objs.size=s.heap.objs.size:=by rw[s5.1,s4.1,s3.1,s2.1,s1.1]
 have z5:an4 g5 z T U .ellipsis:=s5.extBut _ _ D.TOz.symm (s4.extBut _ _ D.i2z.symm (s3.extBut _ _ D.TOz.symm (s2.extBut _ _ D.i1z.symm z1)));have kp:∀d o,d≠z->d≠U->d≠i->d≠j->s.heap.get? d=some o->g5.get? d=some o:=fun d o a1 a2 a3 a4 e =>
  s5.extBut _ _ a2 (s4.extBut _ _ a4 (s3.extBut _ _ a2 (s2.extBut _ _ a3 (s1.extBut _ _ a1 e))))
 have i5:cU b g5 i l (k+1):=i2.go fun o e=>s5.extBut _ _ D.TOi1.symm (s4.extBut _ _ D.i12 (s3.extBut _ _ D.TOi1.symm e));have j5:cU c g5 j m (k+1):=j4.go fun o e=>s5.extBut _ _ D.TOi2.symm e;have lz:z<g5.objs.size:=F2 z5;show F6 _ _ (J7.SmallTypes.ownedTupleHandOut (.ref z) (.ref g5.objs.size) >>= _) _ _ _;refine o0 ?_;unfold J7.SmallTypes.ownedTupleHandOut;have z6:an4 (g5.push { cls:=.type "tuple",data:=.seq #[x,y] }) z T U .ellipsis:=E1 _ z5;refine o0 (ab0 z6 (by simp) fun g7 z7 s7=>?_);replace z7:an4 g7 z T U (af8 g5.objs.size):=z7;refine ab0 z7 (by simp) fun g8 z8 s8=>?_;replace z8:an4 g8 z T U (af8 g5.objs.size):=z8;have up:∀d o,d≠z->g5.get? d=some o->g8.get? d=some o:=fun d o a1 e=>s8.extBut _ _ a1 (s7.extBut _ _ a1 (E1 _ e));have t8:ae8 g8 g5.objs.size x y:=s8.extBut _ _ (V9 lz) (s7.extBut _ _ (V9 lz) (F0 _ rfl));have n8:g8.objs.size=g5.objs.size+1:=by rw[s8.1,s7.1,R8]
 rw[sz]at z8 t8 n8;refine E3 ⟨_,rfl,?_⟩;show Q (.ref g5.objs.size) _;rw[sz];exact q g8 z8 (up _ _ D.TOz u5) (i5.go fun o e=>up _ o D.i1z e) (j5.go fun o e=>up _ o D.i2z e) t8 n8 fun d o a1 a2 a3 a4 e=>up d o a1 (kp d o a1 a2 a3 a4 e)
theorem wo{z T U i j l m:E5}{k:Nat}{xs ys:Array s0}{u v:s0}{Q:PySem.Fin->E2->Prop}(hh:A.handled=none) (D:ao2 z T U i j l m)
  (hz:an4 s.heap z T U .none) (hT:ae8 s.heap T (.ref i) (.ref j)) (hU:ae8 s.heap U u v) (hi:cU b s.heap i l k) (hj:cU c s.heap j m k) (hl:dA b s.heap l xs) (hm:dA c s.heap m ys) (no:xs[k]?=none∨ys[k]?=none)
  (q:∀h' e,(∀d o,d≠z->d≠U->d≠i->d≠j->s.heap.get? d=some o->h'.get? d=some o)->(∃o,h'.get? e=some o/\o.cls=.type "StopIteration")->E (.ref e) { s with heap:=h' }) :
  F6 (J9 prog w) A (J7.«zip.__next__» ⟨[.ref z],[]⟩) Q E s:=by
 show F6 _ _ (field (.ref z) 2 >>= _) _ _ _;refine o0 (O7 hz rfl (x:=.bool false) rfl ?_);show F6 _ _ (field (.ref z) 3 >>= _) _ _ _;refine o0 (O7 hz rfl (x:=.ref T) rfl (o0 (X5 hT rfl ?_)));show F6 _ _ (T0 (.ref z) >>= _) _ _ _;refine o0 ?_;unfold T0;refine o0 (O7 hz rfl (x:=.none) rfl (E3 ?_));simp only[if_true];refine o0 (al2 (o0 (O7 hz rfl (x:=.ref U) rfl ?_)));refine o0 (ab0 hz (by simp) fun g1 z1 s1=>?_);replace z1:an4 g1 z T U .ellipsis:=z1;refine o0 ?_;simp only[List.zipIdx_cons,List.zipIdx_nil,List.forIn_cons,List.forIn_nil];refine o0 (o0 (ag4 ?_));show F6 _ _ (N9 (.ref i) >>= _) _ _ _;cases hx:xs[k]? with
 |none =>
  refine o0 (lG hh (hi.go fun o e=>s1.extBut _ _ D.i1z e) (hl.go fun o e=>s1.extBut _ _ D.l1z e) hx fun g2 e s2 he=>?_);obtain⟨oe,e1,e2⟩:=he;have z2:an4 g2 z T U .ellipsis:=s2 _ _ D.i1z.symm z1;have ne:e≠z:=fun p=>by subst p;rw[z2]at e1;cases e1;simp at e2
  exact ab0 z2 (by simp) fun g3 _ s3=>q g3 e (fun d o a1 _ a3 _ p=>s3.extBut _ _ a1 (s2 _ _ a3 (s1.extBut _ _ a1 p))) ⟨oe,s3.extBut _ _ ne e1,e2⟩
 |some x =>
  have hy:ys[k]?=none:=no.resolve_left (by rw[hx];exact nofun);refine o0 (gz (hi.go fun o e=>s1.extBut _ _ D.i1z e) (hl.go fun o e=>s1.extBut _ _ D.l1z e) hx fun g2 i2 s2=>E3 ?_);have u2:ae8 g2 U u v:=s2.extBut _ _ D.TOi1 (s1.extBut _ _ D.TOz hU);refine o0 (X5 u2 rfl (o0 (wpAny_updateSeq_pair u2 fun g3 u3 s3=>?_)));refine o0 (an5 (E3 (o0 (o0 (ag4 ?_)))));show F6 _ _ (N9 (.ref j) >>= _) _ _ _;refine o0 (lG hh (hj.go fun o e=>s3.extBut _ _ D.TOi2.symm (s2.extBut _ _ D.i12.symm (s1.extBut _ _ D.i2z e))) (hm.go fun o e=>s3.extBut _ _ D.l2TO (s2.extBut _ _ D.l2i1 (s1.extBut _ _ D.l2z e))) hy fun g4 e s4 he=>?_);obtain⟨oe,e1,e2⟩:=he;have z4:an4 g4 z T U .ellipsis:=s4 _ _ D.i2z.symm (s3.extBut _ _ D.TOz.symm (s2.extBut _ _ D.i1z.symm z1));have ne:e≠z:=fun p=>by subst p;rw[z4]at e1;cases e1;simp at e2
  exact ab0 z4 (by simp) fun g5 _ s5=>q g5 e (fun d o a1 a2 a3 a4 p=>s5.extBut _ _ a1 (s4 _ _ a4 (s3.extBut _ _ a2 (s2.extBut _ _ a3 (s1.extBut _ _ a1 p))))) ⟨oe,s5.extBut _ _ ne e1,e2⟩
theorem mf{z T U i j l m:E5}{k:Nat}{xs ys:Array s0}{x y u v:s0}{Q:Option s0->E2->Prop}(D:ao2 z T U i j l m)
  (hz:an4 s.heap z T U .none) (hT:ae8 s.heap T (.ref i) (.ref j)) (hU:ae8 s.heap U u v) (hi:cU b s.heap i l k) (hj:cU c s.heap j m k) (hl:dA b s.heap l xs) (hm:dA c s.heap m ys) (hx:xs[k]?=some x) (hy:ys[k]?=some y)
  (q:∀ h',an4 h' z T U (af8 s.heap.objs.size) → ae8 h' U x y → cU b h' i l (k + 1) → cU c h' j m (k + 1) → ae8 h' s.heap.objs.size x y → h'.objs.size = s.heap.objs.size + 1 →
   (∀d o,d≠z->d≠U->d≠i->d≠j->s.heap.get? d=some o->h'.get? d=some o)->Q (some (.ref s.heap.objs.size)) { s with heap:=h' }) :
  F6 (J9 prog w) A (an0 (.ref z)) Q E s:=by
 have ty:s.TypeIs (.ref z) "zip":=⟨_,hz,rfl⟩;unfold an0;exact o0 (ai9 (S0 (name:=L4 "__next__") ty aj7 (aa2 aj7 ty F.entry_zip_next
  (sE D hz hT hU hi hj hl hm hx hy fun h' a1 a2 a3 a4 a5 a6 a7=>E3 (q h' a1 a2 a3 a4 a5 a6 a7)) (F.args_zip_next_1 _))))
theorem oB{z T U i j l m:E5}{k:Nat}{xs ys:Array s0}{u v:s0}{Q:Option s0->E2->Prop}(hh:A.handled=none) (D:ao2 z T U i j l m)
  (hz:an4 s.heap z T U .none) (hT:ae8 s.heap T (.ref i) (.ref j)) (hU:ae8 s.heap U u v) (hi:cU b s.heap i l k) (hj:cU c s.heap j m k) (hl:dA b s.heap l xs) (hm:dA c s.heap m ys) (no:xs[k]?=none∨ys[k]?=none)
  (q:∀h',(∀d o,d≠z->d≠U->d≠i->d≠j->s.heap.get? d=some o->h'.get? d=some o)->Q none { s with heap:=h' }):F6 (J9 prog w) A (an0 (.ref z)) Q E s:=by
 have ty:s.TypeIs (.ref z) "zip":=⟨_,hz,rfl⟩;unfold an0;refine o0 (ai9 (S0 (name:=L4 "__next__") ty aj7 (aa2 aj7 ty F.entry_zip_next (wo hh D hz hT hU hi hj hl hm no fun h' e kp he=>?_) (F.args_zip_next_1 _))));obtain⟨o,e1,e2⟩:=he;exact o0 (wpAny_isInstance (T:="StopIteration") (b:=true) ⟨o,e1,e2⟩ isSubtype_stop (E3 (q _ kp)))
end
abbrev itO(b:Bool) (l:E5):Obj:={ cls:=.type (itN b),data:=.fields #[.ref l,.int 0 0] }
abbrev zp1(h:I0) (b:Bool) (l:E5):I0:=h.push (itO b l)
abbrev zp2(h:I0) (b c:Bool) (l m:E5):I0:=(zp1 h b l).push (itO c m)
abbrev zp3(h:I0) (b c:Bool) (l m:E5):I0:=(zp2 h b c l m).push { cls:=.type "tuple",data:=.seq #[.ref h.objs.size,.ref (zp1 h b l).objs.size] }
abbrev zp4(h:I0) (b c:Bool) (l m:E5):I0:=(zp3 h b c l m).push { cls:=.type "tuple",data:=.seq #[.none,.none] }
abbrev zp5(h:I0) (b c:Bool) (l m:E5):I0:=(zp4 h b c l m).push { cls:=.type "zip",data:=.fields #[.none,.bool false,.bool false,.ref (zp2 h b c l m).objs.size,.ref (zp3 h b c l m).objs.size] }
set_option maxHeartbeats 4000000 in
theorem pz(b c:Bool) (l m:E5) (xs ys:Array s0) :
  Meets (J7.«zip.__new__» ⟨[.type "zip",.ref l,.ref m],[]⟩) (fun _ R s=>dA b s.heap l xs/\dA c s.heap m ys/\R (.ok (.ret (.ref (zp4 s.heap b c l m).objs.size))) { s with heap:=zp5 s.heap b c l m }) :=
 .of_wp fun prog w A R s h=>by
  obtain⟨hp,g,d,tk,os⟩:=s;obtain⟨h1,h2,hR⟩:=h;have hsub:=sub_zip;cases b with
  |true =>
   have p1:am6 (ah5 ⟨hp,g,d,tk,os⟩) l xs:=h1;cases c with
   |true =>
    have p2:am6 (ah5 ⟨hp.push { cls:=.type "tuple_iterator",data:=.fields #[.ref l,.int 0 0] },g,d,tk,os⟩) m ys:=dA.go (b:=true) h2 fun o e=>E1 _ e
    wp_walk using U0 p1,U0 p2
    exact⟨_,rfl,hR⟩
   |false =>
    have p2:I0.IsList (ah5 ⟨hp.push { cls:=.type "tuple_iterator",data:=.fields #[.ref l,.int 0 0] },g,d,tk,os⟩) m ys:=dA.go (b:=false) h2 fun o e=>E1 _ e
    wp_walk using U0 p1,X6 p2
    exact⟨_,rfl,hR⟩
  |false =>
   have p1:I0.IsList (ah5 ⟨hp,g,d,tk,os⟩) l xs:=h1;cases c with
   |true =>
    have p2:am6 (ah5 ⟨hp.push { cls:=.type "list_iterator",data:=.fields #[.ref l,.int 0 0] },g,d,tk,os⟩) m ys:=dA.go (b:=true) h2 fun o e=>E1 _ e
    wp_walk using X6 p1,U0 p2
    exact⟨_,rfl,hR⟩
   |false =>
    have p2:I0.IsList (ah5 ⟨hp.push { cls:=.type "list_iterator",data:=.fields #[.ref l,.int 0 0] },g,d,tk,os⟩) m ys:=dA.go (b:=false) h2 fun o e=>E1 _ e
    wp_walk using X6 p1,X6 p2
    exact⟨_,rfl,hR⟩
theorem rR{prog:J4}{w:O3}{A:L8}{E:s0->E2->Prop}{s:E2}{b c:Bool}{l m:E5}{xs ys:Array s0}{Q:s0->E2->Prop}(h1:dA b s.heap l xs) (h2:dA c s.heap m ys)
  (q:∀ h',an4 h' (s.heap.objs.size + 4) (s.heap.objs.size + 2) (s.heap.objs.size + 3) .none → ae8 h' (s.heap.objs.size + 2) (.ref s.heap.objs.size) (.ref (s.heap.objs.size + 1)) →
   ae8 h' (s.heap.objs.size+3) .none .none->cU b h' s.heap.objs.size l 0->cU c h' (s.heap.objs.size+1) m 0->h'.objs.size=s.heap.objs.size+5 ->
   (∀d o,s.heap.get? d=some o->h'.get? d=some o)->Q (.ref (s.heap.objs.size+4)) { s with heap:=h' }) :
  F6 (J9 prog w) A (ap2 (.type "zip") [.ref l,.ref m]) Q E s:=by
 refine callType_new F.called_zip (by decide) (F.typeCall_zip_2 _ _) (F.newCall_zip_2 _ _) (fun ob=>F.args_object_init_3 ob _ _) F.entry_zip_new (pz b c l m xs ys) ⟨h1,h2,?_⟩;have y1:(zp1 s.heap b l).objs.size=s.heap.objs.size+1:=R8 ..;have y2:(zp2 s.heap b c l m).objs.size=s.heap.objs.size+2:=by rw[R8,y1]
 have y3:(zp3 s.heap b c l m).objs.size=s.heap.objs.size+3:=by rw[R8,y2]
 have y4:(zp4 s.heap b c l m).objs.size=s.heap.objs.size+4:=by rw[R8,y3]
 have y5:(zp5 s.heap b c l m).objs.size=s.heap.objs.size+5:=by rw[R8,y4]
 have f5:(zp5 s.heap b c l m).get? (zp4 s.heap b c l m).objs.size=some _:=F0 _ rfl;have f4:(zp5 s.heap b c l m).get? (zp3 s.heap b c l m).objs.size=some _:=E1 _ (F0 _ rfl);have f3:(zp5 s.heap b c l m).get? (zp2 s.heap b c l m).objs.size=some _:=E1 _ (E1 _ (F0 _ rfl));have f2:(zp5 s.heap b c l m).get? (zp1 s.heap b l).objs.size=some _:=E1 _ (E1 _ (E1 _ (F0 _ rfl)));have f1:(zp5 s.heap b c l m).get? s.heap.objs.size=some _:=E1 _ (E1 _ (E1 _ (E1 _ (F0 _ rfl))));show _/\_;rw[y2,y3,y4]at f5;rw[y1,y2]at f3;rw[y3]at f4;rw[y1]at f2;rw[y4];exact⟨⟨_,f5,rfl⟩,q _ f5 f3 f4 ⟨_,f1,rfl,rfl⟩ ⟨_,f2,rfl,rfl⟩ y5 fun d o p=>E1 _ (E1 _ (E1 _ (E1 _ (E1 _ p))))⟩
section
variable{X:Cx}{aa:List (E5×Obj)}{σ:St}{H:Hp}{s:E2}{h':I0}
theorem Inv.turnedF{t':Nat}{fp:List E5}(I:Inv X aa σ H s) (k:∀b o,b∉fp->s.heap.get? b=some o->h'.get? b=some o) (f:∀b∈fp,cA X aa H b):Inv X aa σ H { s with heap:=h',toks:=t' }:=by
 have nit:∀b u,H b=some u->b∉fp:=fun b u q z=>by rw[(f b z).1]at q;cases q
 refine I.step (g':=s.gens) (d':=s.drawn) (ch:=fp) (fun b hb=>?_) (fun b o _ _ hc q _=>k b o hc q) (fun b o _ _ hc q _=>⟨o.slots,k b o hc q⟩) (fun _ _ _ _ n=>n)
  (fun b o hc q=>⟨o,k b o hc q⟩) (fun _ _ q=>q) (fun _ _ _ q=>q) (fun b ps q=>⟨#[],by rw[q];simp⟩) (fun m hm=>?_) (fun b u q=>?_) I.bare
 ·obtain⟨b0,b1,b2,b3,b4,b5⟩:=f b hb;exact⟨b3,b1,b4,b5⟩
 ·obtain⟨o,es,ep,ho,r⟩:=hm;exact⟨o,es,ep,k _ o (fun z=>(f _ z).2.1 rfl) ho,r⟩
 ·refine(I.hok b u q).stay (fun c v hc q'=>?_) (fun _ q=>q) fun _ _ q=>q;rcases hc with z|z
  ·rw[z]at q' ⊢;exact k _ _ (nit b u q) q'
  ·exact k c v (nit c _ z) q'
end
def SqB(b:Bool) (K:u8) (H:Hp) (a:E5) (xs:List V):Prop:=match b with
 |true=>SqT K H a xs
 |false=>SqL K H a xs
theorem Inv.sqB{X:Cx}{aa:List (E5×Obj)}{σ:St}{H:Hp}{s:E2}{b:Bool}{a:E5}{xs:List V}(I:Inv X aa σ H s) (h:SqB b X.K H a xs):∃its:List s0,ax xs its/\dA b s.heap a its.toArray:=by
 cases b with
 |true=>obtain⟨its,r,p,_⟩:=I.tuple h;exact⟨its,r,p⟩
 |false=>obtain⟨its,r,p,_⟩:=I.list h;exact⟨its,r,p.isList⟩
theorem Inv.sqB_inj{X:Cx}{aa:List (E5×Obj)}{σ:St}{H:Hp}{s:E2}{b:Bool}{a:E5}{xs ys:List V}(I:Inv X aa σ H s) (h:SqB b X.K H a xs) (h':SqB b X.K H a ys):xs=ys:=by
 cases b with
 |true=>exact I.tuple_inj h h'
 |false=>exact I.list_inj h h'
def Itz(K:u8) (b c:Bool) (l m:E5) (n:Nat):It :=
  ⟨fun i H=>(∃xs ys,SqB b K H l xs/\SqB c K H m ys/\min xs.length ys.length=n)/\i<n,
   fun i H x H'=>∃T u v,x=.ref T/\H T=none/\H'=upd H T (.tup [u,v])/\(∀xs,SqB b K H l xs->xs[i]?=some u)/\∀ys,SqB c K H m ys->ys[i]?=some v,
   fun i H=>(∃xs ys,SqB b K H l xs/\SqB c K H m ys/\min xs.length ys.length=n)/\n<=i⟩
theorem uk{P:J4}{w:O3}{K:u8}{elts:List K4}{x1:Nat}{pt:Pos}(b c:Bool) (l m z T U i1 i2:E5) (n:Nat):iB P w K (.Tuple elts x1 pt) (Itz K b c l m n) [z,T,U,i1,i2] z
  (fun i h=>an4 h z T U .none/\ae8 h T (.ref i1) (.ref i2)/\(∃u v,ae8 h U u v)/\cU b h i1 l i/\cU c h i2 m i/\ao2 z T U i1 i2 l m/\i<=n) where
 mem:=by simp
 obj:=fun i h st d hd=>by
  obtain⟨a1,a2,⟨u,v,a3⟩,⟨o4,a4,_,d4⟩,⟨o5,a5,_,d5⟩,_⟩:=st;simp only[E9,W7,or_false]at hd;rcases hd with rfl|rfl|rfl|rfl|rfl
  ·exact⟨_,a1,fun v y=>by cases y⟩
  ·exact⟨_,a2,fun v y=>by cases y⟩
  ·exact⟨_,a3,fun v y=>by cases y⟩
  ·exact⟨o4,a4,fun v y=>by rw[d4]at y;cases y⟩
  ·exact⟨o5,a5,fun v y=>by rw[d5]at y;cases y⟩
 keep:=fun i h h' st k=>by
  obtain⟨a1,a2,⟨u,v,a3⟩,a4,a5,a6,a7⟩:=st;exact⟨k z (by simp) _ a1,k T (by simp) _ a2,⟨u,v,k U (by simp) _ a3⟩,a4.go fun o e=>k i1 (by simp) o e,a5.go fun o e=>k i2 (by simp) o e,a6,a7⟩
 item:=by
  intro X hP hw hK hc i aa s σ H E I hf st hg;subst hP hw hK;obtain⟨⟨xs,ys,hq,hq2,hmin⟩,hin⟩:=hg;obtain⟨a1,a2,⟨u0,v0,a3⟩,a4,a5,D,le⟩:=st;obtain⟨its,rv,p⟩:=I.sqB hq;obtain⟨its2,rv2,p2⟩:=I.sqB hq2;have l1:=rv.length;have l2:=rv2.length;have hx:xs[i]?=some (xs[i]'(by lia)):=by simp
  have hy:ys[i]?=some (ys[i]'(by lia)):=by simp
  generalize xs[i]'(by lia)=x at hx;generalize ys[i]'(by lia)=y at hy;obtain⟨u,hu,ru⟩:=rv.get hx;obtain⟨v,hv,rv3⟩:=rv2.get hy;refine mf D a1 a2 a3 a4 a5 p p2 (by simpa using hu) (by simpa using hv) fun h1 b1 b2 b3 b4 b5 b6 kp=>?_;refine⟨_,rfl,?_⟩;have In:H s.heap.objs.size=none:=I.hok.fresh (F5 _);have lt:∀{d o},s.heap.get? d=some o->d≠s.heap.objs.size:=fun e=>F8 (F2 e);have n1:=lt a1;have n2:=lt a2;have n3:=lt a3;have n4:i1≠s.heap.objs.size:=by obtain⟨o,e,_⟩:=a4;exact lt e
  have n5:i2≠s.heap.objs.size:=by obtain⟨o,e,_⟩:=a5;exact lt e
  have ne:∀d∈[z,T,U,i1,i2],d≠s.heap.objs.size:=fun d hd=>by
   simp only[E9,W7,or_false]at hd;rcases hd with rfl|rfl|rfl|rfl|rfl<;>assumption
  have I1:Inv X aa σ (upd H s.heap.objs.size (.tup [x,y])) { s with heap:=s.heap.push { cls:=.type "tuple",data:=.seq #[u,v] },toks:=s.toks } :=
   I.laid (fun b o q=>E1 _ q) (F5 _) ⟨by simp only[N6,T7];rw[R6];decide,[u,v],.cons ru (.cons rv3 .nil),gf.new _ _⟩
  have f1:∀d∈[z,T,U,i1,i2],cA X aa (upd H s.heap.objs.size (.tup [x,y])) d:=fun d hd=>(hf d hd).upd (ne d hd);have I2:Inv X aa σ (upd H s.heap.objs.size (.tup [x,y])) { s with heap:=h1,toks:=s.toks }:=I1.turnedF (t':=s.toks) (fun d o hd q=>by
   simp only[E9,W7,or_false,not_or]at hd
   by_cases hs:d=s.heap.objs.size
   ·subst hs;rw[F0 s.heap rfl]at q;cases q;exact b5
   ·refine kp d o hd.1 hd.2.2.1 hd.2.2.2.1 hd.2.2.2.2 ?_;rcases I0.get?_push_cases q with y|y
    ·exact absurd y.1 hs
    ·exact y) f1
  refine wpAny_letOwnedTupleGo_zip b1 fun h2 c1 c2=>?_;have I3:=I2.turnedF (t':=s.toks) (h':=h2) (fp:=[z,T,U,i1,i2]) (fun d o hd q=>(c2.2 d (fun e=>hd (by simp[e]))).trans q) f1;refine⟨.ref s.heap.objs.size,_,I3,rfl,⟨_,x,y,rfl,In,rfl,fun zs hzs=>by rw[I.sqB_inj hzs hq];exact hx,fun zs hzs=>by rw[I.sqB_inj hzs hq2];exact hy⟩,⟨c1,?_,⟨u,v,(c2.2 U D.TOz).trans b2⟩,b3.go fun o e=>(c2.2 i1 D.i1z).trans e,b4.go fun o e=>(c2.2 i2 D.i2z).trans e,D,hin⟩,fun d hd=>(f1 d hd).1⟩;exact(c2.2 T D.TIz).trans (kp T _ D.TIz D.TITO D.TIi1 D.TIi2 a2)
 done:=by
  intro X hP hw hK hc i aa s σ H E I hf st hg;subst hP hw hK;obtain⟨⟨xs,ys,hq,hq2,hmin⟩,hin⟩:=hg;obtain⟨a1,a2,⟨u0,v0,a3⟩,a4,a5,D,le⟩:=st;obtain⟨its,rv,p⟩:=I.sqB hq;obtain⟨its2,rv2,p2⟩:=I.sqB hq2;have l1:=rv.length;have l2:=rv2.length;refine oB (I.ok.hd hc) D a1 a2 a3 a4 a5 p p2 ?_ fun h' kp=>⟨rfl,I.turnedF (t':=s.toks) (fp:=[z,T,U,i1,i2]) (fun d o hd q=>?_) hf⟩
  ·rcases Nat.le_total xs.length ys.length with h|h
   ·left;simp;lia
   ·right;simp;lia
  ·simp only[E9,W7,or_false,not_or]at hd;exact kp d o hd.1 hd.2.2.1 hd.2.2.2.1 hd.2.2.2.2 q
 self:=fun _ _ _ _ _ st h=>wpAny_pyIter_zip st.1 h
noncomputable def wC:D->Option (Bool×List D)
 |.tup es=>some (true,es)
 |.lst es=>some (false,es)
 |_=>none
noncomputable def dB:List D->List D->List D
 |a::as,b::bs=>.tup [a,b]::dB as bs
 |_,_=>[]
theorem jW:∀(as bs:List D) (i:Nat),(dB as bs)[i]?=match as[i]?,bs[i]? with|some a,some b=>some (.tup [a,b])|_,_=>none
 |[],bs,i=>by simp[dB]
 |a::as,[],i=>by
  simp only[dB,List.getElem?_nil];cases(a::as)[i]?<;>rfl
 |a::as,b::bs,0=>by simp[dB]
 |a::as,b::bs,i+1=>by simp only[dB,S1];exact jW as bs i
theorem fk:∀(as bs:List D),(dB as bs).length=min as.length bs.length
 |[],bs=>by simp[dB]
 |a::as,[]=>by simp[dB]
 |a::as,b::bs=>by simp only[dB,N6,fk as bs];lia
def zt(ta:TAd):TId:=fun Δ M R=>ta Δ M fun ds M1=>∃x y b c es fs,ds=[x,y]/\wC x=some (b,es)/\wC y=some (c,fs)/\R (dB es fs) M1
theorem uK:V8 "zip"=some (.type "zip"):=by kernel_rfl
theorem om{K:u8}{M:DH}{H:Hp}{x:D}{b:Bool}{es:List D}{v:V}(h:wC x=some (b,es)) (r:Rep K M H x v):∃a vs,v=.ref a/\am K M H es vs/\SqB b K H a vs/\∀M' H',Ext M H M' H'->SqB b K H' a vs/\am K M' H' es vs:=by
 cases x with
 |tup ds =>
  cases h;simp only[Rep]at r;obtain⟨a,vs,rfl,t,rl⟩:=r;exact⟨a,vs,rfl,rl,t.sq,fun M' H' e=>⟨(t.ext e).sq,rl.ext e⟩⟩
 |lst ds =>
  cases h;simp only[Rep]at r;obtain⟨a,vs,rfl,t,rl⟩:=r;exact⟨a,vs,rfl,rl,SqL.of t.1,fun M' H' e=>⟨SqL.of (t.ext e).1,rl.ext e⟩⟩
 |_=>cases h
section
variable{X:Cx}{a1 a2:K4}{t:TAd}{pos:Pos}
theorem vM{elts:List K4}{x1:Nat}{pt p:Pos}(hg:Gl X "zip") (hm:X.mg "zip"=none) (ha:QAd X [a1,a2] t) (hs:E8 [a1,a2] X.env=(false,Z4 a1 X.env)::E8 [a2] X.env:=by rfl) (hpl:(V0 pos (E8 [a2] X.env)).any (·.1)=false:=by rfl):QId X (.Tuple elts x1 pt) (.Call (.Name "zip" p) [a1,a2] [] pos) (zt t):=by
 simp only[QAd.eq,QId.eq]at *
 intro aa s σ H R I hh;obtain⟨Δ,M,R',sr,hr,q,k⟩:=hh;refine Call_ (ij I hg hm uK (Z1 (thn (ha pos aa s σ H (fun vs H1=>∃x y b c es fs M1,wC x=some (b,es)/\wC y=some (c,fs)/\am X.K M1 H1 [x,y] vs/\R' (dB es fs) M1/\Ext M H M1 H1/\HR X.K M1 H1) I ⟨Δ,M,_,sr,hr,q,fun ds M1 vs H1 ⟨x,y,b,c,es,fs,ed,ex,ey,q1⟩ e1 hr1 rv=>⟨x,y,b,c,es,fs,M1,ex,ey,by rw[<-ed];exact rv,q1,e1,hr1⟩⟩) fun us s1 ⟨vs,H1,I1,r1,x,y,b,c,es,fs,M1,ex,ey,rv,q1,e1,hr1⟩=>?_) hs hpl));obtain⟨v1,v2,rfl,rx,ry⟩:∃v1 v2,vs=[v1,v2]/\Rep X.K M1 H1 x v1/\Rep X.K M1 H1 y v2:=by
  simp only[am]at rv;obtain⟨v1,ws,rfl,h1,v2,ws2,rfl,h2,rfl⟩:=rv;exact⟨v1,v2,rfl,h1,h2⟩
 obtain⟨l,vs,rfl,rl,sl,kl⟩:=om ex rx;obtain⟨m,ws,rfl,rm,sm,km⟩:=om ey ry;obtain⟨u1,u2,rfl,w1,w2⟩:∃u1 u2,us=[u1,u2]/\aF (.ref l) u1/\aF (.ref m) u2:=by
  cases r1 with
  |cons p1 r1 =>
   cases r1 with
   |cons p2 r1 =>
    cases r1;exact⟨_,_,rfl,p1,p2⟩
 cases w1;cases w2;obtain⟨its,rvv,pl⟩:=I1.sqB sl;obtain⟨its2,rvv2,pm⟩:=I1.sqB sm;have ll:l<s1.heap.objs.size:=by obtain⟨o,e,_⟩:=pl;exact F2 e
 have lm:m<s1.heap.objs.size:=by obtain⟨o,e,_⟩:=pm;exact F2 e
 refine rR pl pm fun h' c1 c2 c3 c4 c5 c6 kp=>?_;refine wpAny_pyIter_zip c1 ?_;have DA:ao2 (s1.heap.objs.size+4) (s1.heap.objs.size+2) (s1.heap.objs.size+3) s1.heap.objs.size (s1.heap.objs.size+1) l m:=zipApart_new ll lm;refine⟨_,[_,_,_,_,_],_,_,H1,rfl,I1.kept (t':=s1.toks) kp,uk b c l m _ _ _ _ _ (min es.length fs.length),⟨c1,c2,⟨_,_,c3⟩,c4,c5,DA,O4 _⟩,fun d hd=>?_,?_⟩
 ·have hle:s1.heap.objs.size<=d:=by
   simp only[E9,W7,or_false]at hd;rcases hd with rfl|rfl|rfl|rfl|rfl
   ·exact ai7 _ _
   ·exact ai7 _ _
   ·exact ai7 _ _
   ·exact F5 _
   ·exact ai7 _ _
  exact I1.fpOk hle (I1.hok.fresh hle)
 ·have h1:=rl.length;have h2:=rm.length;refine k _ M1 _ H1 q1 e1 hr1 fun M2 H2 e2 hr2 i=>⟨fun d hd=>?_,fun hl=>⟨⟨vs,ws,(kl _ _ e2).1,(km _ _ e2).1,by lia⟩,by rw[fk]at hl;exact hl⟩⟩;rw[jW]at hd;cases hda:es[i]? with
  |none=>rw[hda]at hd;cases hd
  |some d1 =>
   cases hdb:fs[i]? with
   |none=>rw[hda,hdb]at hd;cases hd
   |some d2 =>
    rw[hda,hdb]at hd;have hd':D.tup [d1,d2]=d:=by simpa using hd
    subst hd';have hi:i<es.length:=(F4.mp hda).1;have hi2:i<fs.length:=(F4.mp hdb).1;obtain⟨g1,gv,g2⟩:=(kl _ _ e2).2.get hda;obtain⟨g3,gw,g4⟩:=(km _ _ e2).2.get hdb;refine⟨⟨⟨vs,ws,(kl _ _ e2).1,(km _ _ e2).1,by lia⟩,by lia⟩,fun x' H' ⟨T,u,v,ex',hT,eH,hy1,hy2⟩=>?_⟩;subst ex';subst eH;have z1:=hy1 vs (kl _ _ e2).1;have z2:=hy2 ws (km _ _ e2).1;rw[gv]at z1;cases z1;rw[gw]at z2;cases z2;refine⟨Ext.new hr2 hT,hr2.new hT,?_⟩;simp only[Rep];refine⟨T,[g1,g3],rfl,.inl ⟨.inl az,hr2.fresh hT⟩,?_⟩;exact am.cons (g2.ext (Ext.new hr2 hT)) (am.cons (g4.ext (Ext.new hr2 hT)) am.nil)
end
section
variable{X:Cx}{scope:aa5}{cl:List (Str×E5)}{ao:List Str}{tg:K4}{pos:Pos}
end
section
variable{K:u8}{M:DH}{H:Hp}
theorem uJ{κ:Type}:∀{ks:List κ}{ds:List D}{vs:List V},ks.length=vs.length->am K M H ds vs->KR K M H (ks.zip ds) (ks.zip vs)
 |[],_,_,_,_=>by simp only[List.zip_nil_left];exact .nil
 |k::ks,ds,vs,hl,h=>by
  cases vs with
  |nil=>cases hl
  |cons v vs =>
   cases ds with
   |nil=>have:=h.length;cases this
   |cons d ds =>
    simp only[am]at h;obtain⟨_,_,e,h1,h2⟩:=h;cases e;exact .cons ⟨rfl,h1⟩ (uJ (Nat.succ.inj hl) h2)
noncomputable def asK(M:DH):D->Option (List (Key×D))
 |.ref a=>match M a with|some (.dK kvs)=>some kvs|_=>none
 |.box (.dk ks) ds=>some (ks.zip ds)
 |_=>none
theorem wK{x:D}{v:V}{kvs:List (Key×D)}(hr:HR K M H) (h:Rep K M H x v) (e:asK M x=some kvs):∃a ks,v=.ref a/\Rd H a (.dK ks)/\KR K M H kvs ks:=by
 cases x with
 |ref a =>
  simp only[asK]at e;simp only[Rep]at h
  split at e
  ·rename_i q;cases e;obtain⟨ks,h1,kr⟩:=hr a _ q;exact⟨a,ks,h,.inl h1,kr⟩
  ·cases e
 |box t ds =>
  cases t with
  |dk ks =>
   cases e;simp only[Rep,nV]at h;obtain⟨a,vs,e,⟨hl,⟨o,r⟩,_⟩,h2⟩:=h;exact⟨a,_,e,.inr ⟨o,r⟩,uJ hl h2⟩
  |_=>cases e
 |_=>cases e
theorem xE{ks:List Key}{ds:List D}:asK M (.box (.dk ks) ds)=some (ks.zip ds):=rfl
end
section
variable{X:Cx}{e i o:K4}{es:List K4}{te ti to:TEd}{t:TAd}{pos:Pos}
def zz(to ti:TEd):TEd:=fun Δ M Q=>to Δ M fun x M1=>ti Δ M1 fun y M2=>∃kvs k d,asK M2 x=some kvs/\y=kD k/\cM kvs k=some d/\Q d M2
end
section
variable{X:Cx}{e o:K4}{es:List K4}{te to:TEd}{t:TAd}{pos p pos':Pos}{f x:Str}{C:E5}
structure MkD(P:J4) (w:O3) (K:u8) (mg:Str->Option s0) (base:I0) (x:Str) (C:E5) (k n:Nat) (S:SpD):Prop where
 ex:∃(f:E5) (fd:K1) (ps:List Str),Mk K C f/\aO P w K mg base CX0 k f fd ps (spD K n S)/\mg x=some (.ref C)/\bQ K fd ps []
end
section
variable{X:Cx}{e:K4}{te:TEd}
theorem kX{κ β:Type}:∀l:List (κ×β),(l.map (·.1)).zip (l.map (·.2))=l
 |[]=>rfl
 |p::l=>by rw[J5,J5,ab1,kX l]
def iA(kvs:List (Key×D)):D:=.box (.dk (kvs.map (·.1))) (kvs.map (·.2))
theorem ka{M:DH}{kvs:List (Key×D)}:asK M (iA kvs)=some kvs:=by unfold iA;rw[xE,kX]
end
section
variable{X:Cx}{e i o l:K4}{es:List K4}{te ti to:TEd}{t:TAd}{pos p pos' dP bj:Pos}{f x:Str}{C:E5}{elts:List K4}{x1:Nat}{pt:Pos}
theorem pS(hu:X.A.units+1<ae6) (ho:QEd X o to) (hi:QEd X i ti) (hs:zU i):QEd X (.Subscript o i pos) (zz to ti):=by
 simp only[QEd.eq]at *
 exact PE.conv (wY hu ho hi hs) fun σ H Q hup=>hup.el fun Δ M R sr hr q k=>⟨Δ,M,_,sr,hr,q,fun x M1 v H1 q1 e1 hr1 rv=>⟨Δ,M1,_,sr.ext e1,hr1,q1,fun y M2 u H2 ⟨kvs,ky,d,ea,ey,ed,q2⟩ e2 hr2 ru=>by
   subst ey;obtain⟨a,ks,rfl,h2,kr⟩:=wK hr2 (rv.ext e2) ea;obtain⟨w,hw,rw_⟩:=(kr.val ky).1 d ed;exact⟨a,w,rfl,.inl ⟨ks,ky,h2,iD ru,hw.symm⟩,k d M2 w H2 q2 (e1.trans e2) hr2 rw_⟩⟩⟩
end
section
variable{X:Cx}{a b c e o i:K4}{es:List K4}{te ta tb to ti:TEd}{t:TAd}{pos:Pos}{tg iter:K4}
end
def Dw:D->Option D
 |.box (.dk ks) _=>some (.lst (ks.map kD))
 |_=>none
theorem yr{kvs:List (Key×D)}:Dw (iA kvs)=some (.lst (kvs.map fun p=>kD p.1)):=by
 show some (D.lst ((kvs.map (·.1)).map kD))=_;rw[W1];rfl
noncomputable def zw(s:Z7) (i:Nat):Z7:=match s with
 |.ClassDef _ _ _ b _ _ _ _ _ _ _=>b.getD i (.Pass ⟨0,0,0,0⟩)
 |_=>.Pass ⟨0,0,0,0⟩
def zh(K:u8) (mg:Str->Option s0) (x:Str) (ks:List Key):Prop:=∃a,mg x=some (.ref a)/\SqT K (fun _=>none) a (ks.map kV)
section
variable{X:Cx}{x:Str}{ks:List Key}{pos:Pos}
theorem ym(hg:Gl X x) (hm:zh X.K X.mg x ks) (hd:(x==("__debug__":Str))=false:=by decide):QEd X (.Name x pos) (dC (.tup (ks.map kD))):=by
 simp only[QEd.eq]at *
 obtain⟨a,h1,h2⟩:=hm;refine PE.conv (jd (v:=.ref a) hg h1 rfl hd) fun σ H Q hup=>hup.el fun Δ M R sr hr q k=>?_;refine k _ M _ H q (Ext.refl _ _) hr ?_;simp only[Rep];exact⟨a,_,rfl,.inr h2,qt ks⟩
end
noncomputable def DK:D->Option D
 |.int i=>some (.int i)
 |.bl k=>some (.int (if k then 1 else 0))
 |_=>none
theorem Bt{k:Bool}:DK (.bl k)=some (.int (if k then 1 else 0)):=rfl
section
variable{X:Cx}
def mI(x y:D):Option D:=match y with
 |.lst ds=>if dLe x 59=true/\bL ds 59=true then some (.bl (!(ds.any fun d=>eqD d x)))else none
 |.tup ds=>if dLe x 59=true/\bL ds 59=true then some (.bl (!(ds.any fun d=>eqD d x)))else none
 |_=>none
theorem vt{x:D}{ds:List D}:mI x (.lst ds)=if dLe x 59=true/\bL ds 59=true then some (.bl (!(ds.any fun d=>eqD d x)))else none:=rfl
theorem o8{h:I0}{a:E5}{xs:Array s0}(p:am8 h a xs):h.IsTuple a xs:=by
 obtain⟨o,h1,h2,n,h3⟩:=p;exact⟨o,h1,h2,n,h3⟩
open Classical in
theorem wc(hu:X.A.units+64<ae6):bW X (Q9 .NotIn) mI:=by
 intro aa s σ H M x y v u dx dy dz Q I hr rx ry r1 r2 e k;cases dy with
 |lst ds =>
  simp only[mI]at e
  by_cases hc:dLe dx 59=true/\bL ds 59=true
  ·rw[if_pos hc]at e;cases e;obtain⟨l,vs,rfl,sq,rl⟩:=r2;cases ry;obtain⟨its,r,pl,hz⟩:=I.list (SqL.of sq);have hl:ds.length=its.length:=rl.length.trans r.length;have at_:∀j (h:j<ds.length) (h':j<its.length),PySem.SeqAt.EqAt X.A.in1 s its[j] v (eqD ds[j] dx):=fun j h h'=>by
    obtain⟨v1,g1,p1⟩:=rl.get (i:=j) (d:=ds[j]) (by simp[h]);obtain⟨u1,k1,m1⟩:=r.get g1;have e1:its[j]=u1:=by simpa[H0 h']using k1
    rw[e1];exact(kc I 59 (by show X.A.units+1+59<ae6;omega) (eA hc.2 (i:=j) (by simp[h])) hc.1 p1.r r1 m1 rx).1
   refine SeqAt.notIn_listAt (fun w=>decide (∃j,∃h:j<ds.length,∃h':j<its.length,its[j]=w/\eqD ds[j] dx=true)) pl.isList (fun w hw=>?_) ⟨.bl _,H,I,rfl,?_⟩
   ·obtain⟨i,hi,rfl⟩:=X0.mp (show w∈its by simpa using hw)
    by_cases q:∃j,∃h:j<ds.length,∃h':j<its.length,its[j]=its[i]/\eqD ds[j] dx=true
    ·rw[decide_eq_true q];obtain⟨j,h,h',q1,q2⟩:=q;rw[<-q1,<-q2];exact at_ j h h'
    ·rw[decide_eq_false q];have:=at_ i (by omega) hi
     rwa [show eqD ds[i] dx=false from Bool.eq_false_iff.mpr fun z=>q ⟨i,by omega,hi,rfl,z⟩]at this
   ·have ea:its.toArray.any (fun w=>decide (∃j,∃h:j<ds.length,∃h':j<its.length,its[j]=w/\eqD ds[j] dx=true))=ds.any fun d=>eqD d dx:=by
     rw[W0,List.any_toArray,ac8,ac8];constructor
     ·rintro⟨w,_,h⟩;obtain⟨j,h1,_,_,h2⟩:=of_decide_eq_true h;exact⟨ds[j],W6 _,h2⟩
     ·rintro⟨d,hd,h⟩;obtain⟨j,hj,rfl⟩:=X0.mp hd;exact⟨its[j],W6 _,decide_eq_true ⟨j,hj,by omega,rfl,h⟩⟩
    rw[ea];exact k _ H (Ext.refl _ _) hr (by simp[Rep])
  ·rw[if_neg hc]at e;cases e
 |tup ds =>
  simp only[mI]at e
  by_cases hc:dLe dx 59=true/\bL ds 59=true
  ·rw[if_pos hc]at e;cases e;obtain⟨l,vs,rfl,sq,rl⟩:=r2;cases ry;obtain⟨its,r,pl,hz⟩:=I.tuple sq;have hl:ds.length=its.length:=rl.length.trans r.length;have at_:∀j (h:j<ds.length) (h':j<its.length),PySem.SeqAt.EqAt X.A.in1 s its[j] v (eqD ds[j] dx):=fun j h h'=>by
    obtain⟨v1,g1,p1⟩:=rl.get (i:=j) (d:=ds[j]) (by simp[h]);obtain⟨u1,k1,m1⟩:=r.get g1;have e1:its[j]=u1:=by simpa[H0 h']using k1
    rw[e1];exact(kc I 59 (by show X.A.units+1+59<ae6;omega) (eA hc.2 (i:=j) (by simp[h])) hc.1 p1.r r1 m1 rx).1
   refine SeqAt.notIn_tupleAt (fun w=>decide (∃j,∃h:j<ds.length,∃h':j<its.length,its[j]=w/\eqD ds[j] dx=true)) (o8 pl) (fun w hw=>?_) ⟨.bl _,H,I,rfl,?_⟩
   ·obtain⟨i,hi,rfl⟩:=X0.mp (show w∈its by simpa using hw)
    by_cases q:∃j,∃h:j<ds.length,∃h':j<its.length,its[j]=its[i]/\eqD ds[j] dx=true
    ·rw[decide_eq_true q];obtain⟨j,h,h',q1,q2⟩:=q;rw[<-q1,<-q2];exact at_ j h h'
    ·rw[decide_eq_false q];have:=at_ i (by omega) hi
     rwa [show eqD ds[i] dx=false from Bool.eq_false_iff.mpr fun z=>q ⟨i,by omega,hi,rfl,z⟩]at this
   ·have ea:its.toArray.any (fun w=>decide (∃j,∃h:j<ds.length,∃h':j<its.length,its[j]=w/\eqD ds[j] dx=true))=ds.any fun d=>eqD d dx:=by
     rw[W0,List.any_toArray,ac8,ac8];constructor
     ·rintro⟨w,_,h⟩;obtain⟨j,h1,_,_,h2⟩:=of_decide_eq_true h;exact⟨ds[j],W6 _,h2⟩
     ·rintro⟨d,hd,h⟩;obtain⟨j,hj,rfl⟩:=X0.mp hd;exact⟨its[j],W6 _,decide_eq_true ⟨j,hj,by omega,rfl,h⟩⟩
    rw[ea];exact k _ H (Ext.refl _ _) hr (by simp[Rep])
  ·rw[if_neg hc]at e;cases e
 |_=>cases e
end
section
variable{X:Cx}{e:K4}{t:TEd}
end
section
variable{P:J4}{w:O3}{K:u8}{h base:I0}{mg:Str->Option s0}{x qual:Str}{st:Z7}{f:E5}{fd:K1}{k:Nat}{S:SpD}
structure bH(K:u8) (x:Str) (st:Z7) (f:E5) (fd:K1):Prop where
 a:K6 K F9 x=some (some (.ref f))
 F:Fun K x x st f fd
theorem Ck{oc:s0}{od an:Option E5}{osl:Array (Option s0)}{kV doc pm cdv ct:s0}(a:K6 K F9 x=some (some (.ref f))) (l:K.lookup f=some ⟨oc,od,.func (aa9 x x (dG st) (bZ st) (ai st) .none kV doc pm an cdv ct),osl⟩)
  (c:ah9 K cdv x=true) (k:S5 K (.ref f)=true):bH K x st f (aa9 x x (dG st) (bZ st) (ai st) .none kV doc pm an cdv ct):=⟨a,o9 l c k⟩
theorem usS{p:List s0->Prop}{n:Nat}(h:∀a us,us.length=n->p (a::us)):∀us:List s0,us.length=n+1->p us:=by
 intro us e;cases us with
 |nil=>cases e
 |cons a us=>exact h a us (Nat.succ.inj e)
theorem us0{p:List s0->Prop}(h:p []):∀us:List s0,us.length=0->p us:=by
 intro us e;cases us with
 |nil=>exact h
 |cons a us=>cases e
def Bd(x qual:Str) (st:Z7) (ps:List Str) (us:List s0):Prop:=∀(kV doc pm:s0) (an:Option E5) (cdv ct:s0),bindArgs (aa9 x qual (dG st) (bZ st) (ai st) .none kV doc pm an cdv ct) ⟨us,[]⟩=ad0 (ps.zip us)
theorem oM{ps:List Str}(F:Fun K x qual st f fd) (b:∀us:List s0,us.length=ps.length->Bd x qual st ps us):bQ K fd ps []:=F.binds fun kV doc pm an cdv ct us hl=>b us hl kV doc pm an cdv ct
variable{p1 p2 p3 p4 p5:Str}
theorem bd1(F:Fun K x qual st f fd) (b:∀a,Bd x qual st [p1] [a]):bQ K fd [p1] []:=oM F (usS fun a=>us0 (b a))
theorem bd2(F:Fun K x qual st f fd) (b:∀a c,Bd x qual st [p1,p2] [a,c]):bQ K fd [p1,p2] []:=oM F (usS fun a=>usS fun c=>us0 (b a c))
theorem bd3(F:Fun K x qual st f fd) (b:∀a c d,Bd x qual st [p1,p2,p3] [a,c,d]):bQ K fd [p1,p2,p3] []:=oM F (usS fun a=>usS fun c=>usS fun d=>us0 (b a c d))
theorem bd4(F:Fun K x qual st f fd) (b:∀a c d e,Bd x qual st [p1,p2,p3,p4] [a,c,d,e]):bQ K fd [p1,p2,p3,p4] []:=oM F (usS fun a=>usS fun c=>usS fun d=>usS fun e=>us0 (b a c d e))
theorem bd5(F:Fun K x qual st f fd) (b:∀a c d e g,Bd x qual st [p1,p2,p3,p4,p5] [a,c,d,e,g]):bQ K fd [p1,p2,p3,p4,p5] []:=oM F (usS fun a=>usS fun c=>usS fun d=>usS fun e=>usS fun g=>us0 (b a c d e g))
theorem fg{ps:List Str}{n:Nat}(X:K.In h) (G:h.Ns F9 mg) (i:bH K x st f fd) (o:aO P w K mg base CX0 k f fd ps (spD K n S)) (b:bQ K fd ps []):FnD P w K mg base x k n S:=⟨_,_,_,o,O2 X G i.a,i.F.kp,b⟩
theorem Bv{fa:E5}{sp:Sp}{lp:J4}(X:K.In h) (G:h.Ns F9 mg) (hfa:mg "law"=some (.ref fa)) (i:bH K "law" st f fd) (b:∀a,Bd "law" "law" st [p1] [a]) (o:∀base:I0,aO lp w K mg base CX0 k f fd [p1] sp) :
  ∃fd:K1,(∀(s:E2) (v:s0),ao4 s fd ⟨[v],[]⟩ [(p1,v)])/\∀base:I0,K.In base->base.Ns F9 mg->aO lp w K mg base CX0 k fa fd [p1] sp:=by
 have e:=hfa.symm.trans (O2 X G i.a);cases e;refine⟨fd,fun s v=>?_,fun base _ _=>o base⟩;obtain⟨oc,od,kV,doc,pm,an,cdv,ct,osl,rfl,lk,hcd⟩:=i.F.ex;exact .of_eq (b v kV doc pm an cdv ct)
end
theorem kP:typeLookup (.type "tuple") "keys"=ad0 none:=by rw[typeLookup_type,builtinLookup_eq_fast];kernel_rfl
theorem k9:entryFor table "dict.update.loop"=some J7.«dict.update.loop»:=entryFor_of_tree (by kernel_rfl)
theorem fJ:plainId "dict.update.loop"=true:=by decide +kernel
section
variable{prog:J4}{w:O3}{A:L8}{E:s0->E2->Prop}{s:E2}
theorem sT{a:E5}{o:Obj}{xs:Array s0}{k:Nat}{Q:Option s0->E2->Prop}(hx:s.heap.get? a=some o) (hc:o.cls=.type "tuple") (hdat:o.data=.seq xs k) (hd:o.dict=none) (hA:A.handled=none)
  (h:∀h' tk e,I0.NewExcOf s.heap h' e "AttributeError"->Q none { s with heap:=h',toks:=tk }):F6 (J9 prog w) A (getAttr? (.ref a) "keys") Q E s:=by
 obtain⟨c,dct,dat,sl⟩:=o;simp only at hc hdat hd;subst hc hdat hd;obtain⟨hp,g,d,tk,os⟩:=s;have hT:∀tk',(⟨hp,g,d,tk',os⟩:E2).TypeIs (.ref a) "tuple":=fun _=>⟨_,hx,rfl⟩;have f1:=sub_AttributeError;have f3:=F.slot_tuple_getattribute.lookup;have f4:=F.slot_tuple_getattribute.bind (.ref a);have f5:=am_tuple_getattr_none;unfold getAttr? getAttrBy? getAttrBy
 repeat (any_goals (first|assumption|exact hT _|((with_reducible show F6 _ _ (ap2 (ae1 "tuple.__getattribute__") _ _) _ _ _);refine aa3 F.slot_tuple_getattribute (hT _) am_entry_tuple_getattribute (F.args_tuple_getattribute_2 _ _) (meets_getattribute_miss_tuple a xs k sl "keys" _ kP (by decide) (by decide)) ⟨hx,hA,fun h' tk' e hx'=>?_⟩)|wp_step))
 obtain⟨t',u',he⟩:=hx'.there;show F6 _ _ (getattributeRaised _ _ _ _ _ _ _) _ _ _;unfold getattributeRaised
 repeat (any_goals (first|assumption|wp_step))
 exact h _ _ _ hx'.of
theorem pV{b:E5}{x y:s0}{Q:List s0->E2->Prop}(ht:am8 s.heap b #[x,y]) (h:Q [x,y] s):F6 (J9 prog w) A (J7.Dict.pairItems (.ref b)) Q E s:=by
 obtain⟨o,h1,h2,n,h3⟩:=ht;unfold J7.Dict.pairItems;refine o0 (af5 (T:="tuple") ⟨o,h1,h2⟩ ?_);rw[if_pos (by decide)];refine o0 (X5 h1 h3 ?_);exact E3 h
variable{K:Type} [DecidableEq K] {knd:KeyKind prog w K}{R:an7->E2->Prop}{I:E5}{fp wr:List E5}{G:Array al4->Array al4->Prop}{n:Nat}{P:Nat->s0->Prop}{St:Nat->E2->Prop}
def jQ(knd:KeyKind prog w K) (h:I0) (b:E5) (kv:K×s0):Prop:=∃key,am8 h b #[key,kv.2]/\knd.is kv.1 key=true
theorem xU(W:WalksS prog w A.in1 I fp wr G n P St) (d:E5) (hdf:d∉fp) (kvs:List (K×s0)) (hn:kvs.length=n) (hz:n<=E4) (hnd:(kvs.map (·.1)).Nodup) (bs:Nat->E5)
  (hP:∀i v,P i v->v=.ref (bs i)) (hbs:∀i,i<n->bs i∉d::wr) :
  ∀(k i:Nat) (s:E2) (t:Tok),n-i=k->i<=n->St i s->s.heap.DictOf knd d (kvs.take i)->(∀j (kv:K×s0),kvs[j]?=some kv->jQ knd s.heap (bs j) kv) ->
   (∀s',Moved (d::wr) G s s'->s'.heap.DictOf knd d kvs->R (.ok (.ret .none)) s') ->
   ac2 (J9 prog w) A (.builtin "dict.update.loop" ⟨[.ref d,.ref I,.int i t,.none],[]⟩) R s:=by
 have hSw:d∉wr:=fun h=>hdf (W.sub _ h);have hsub:∀b∈wr,b∈d::wr:=fun b hb=>F7 _ hb;intro k
 induction k with
 |zero =>
  intro i s t hk hi hst hS hpa hR;have hin:i=n:=by lia
  subst hin;refine ag6 k9 ?_;rw[ae3 fJ _];show F6 _ A.in1 (an0 (.ref I) >>= _) _ _ s;refine o0 (W.done s _ _ hst fun s' hm=>?_);show F6 _ A.in1 (J7.Dict.addKeywords d [] >>= _) _ _ s';refine o0 (E3 (E3 (hR s' (hm.mono hsub) ?_)));rw[V1 (by lia)]at hS;obtain⟨o,es,ep,ho,rest⟩:=hS;exact⟨o,es,ep,hm.heap d _ hSw ho,rest⟩
 |succ k ih =>
  intro i s t hk hi hst hS hpa hR;have hlt:i<n:=by lia
  refine ag6 k9 ?_;rw[ae3 fJ _];show F6 _ A.in1 (an0 (.ref I) >>= _) _ _ s;refine o0 (W.item i s _ _ hlt hst fun v s' hPi hst' hm=>?_);obtain rfl:=hP i v hPi;have hS':s'.heap.DictOf knd d (kvs.take i):=by
   obtain⟨o,es,ep,ho,rest⟩:=hS;exact⟨o,es,ep,hm.heap d _ hSw ho,rest⟩
  have hpa':∀j (kv:K×s0),kvs[j]?=some kv->jQ knd s'.heap (bs j) kv:=fun j kv hj=>by
   obtain⟨key,⟨o,h1,h2,m,h3⟩,h4⟩:=hpa j kv hj;have hjn:j<n:=by have:=(F4.mp hj).1;lia
   exact⟨key,⟨o,hm.heap _ _ (fun z=>hbs j hjn (hsub _ z)) h1,h2,m,h3⟩,h4⟩
  have hi':i<kvs.length:=by lia
  obtain⟨key,ht,hkey⟩:=hpa' i kvs[i] (H0 hi');have hstored:stored (kvs.take i) kvs[i].1 kvs[i].2=kvs.take (i+1):=by
   have hno:¬ ((kvs.take i).any fun kv=>decide (kv.1=kvs[i].1))=true:=by
    rw[ac8];rintro⟨x,hx,e⟩;have e':x.1=kvs[i].1:=by simpa using e
    obtain⟨j,hj,ej⟩:=X0.mp hx;rw[K9]at hj;rw[List.getElem_take]at ej;have hd2:=List.pairwise_iff_getElem.mp hnd j i (by rw[E7];lia) (by rw[E7];lia) (by lia);simp only[List.getElem_map]at hd2;exact hd2 (by rw[ej];exact e')
   rw[stored,if_neg hno,X7,H0 hi'];rfl
  show F6 _ A.in1 (aj3 [F3 (bs i)] _ >>= _) _ _ s';refine o0 (P4 (o0 (wpAny_tryCatch (pV ht ?_))));refine P4 (wpAny_dictSet_pairs (hsz:=by rw[K9];lia) hkey hS' fun h' hd' hs'=>?_);rw[hstored]at hd';refine E3 ⟨al7 fJ _,ih (i+1) _ _ (by lia) hlt (W.frame _ s' _ _ hst' (ad6 _) fun b hb o e=>?_) hd' (fun j kv hj=>?_) fun s'' hm'' hS''=>?_⟩
  ·rw[hs'.2 b (fun h:b=d=>hdf (by rw[<-h];exact hb))];exact e
  ·obtain⟨key,⟨o,h1,h2,m,h3⟩,h4⟩:=hpa' j kv hj;have hjn:j<n:=by have:=(F4.mp hj).1;lia
   refine⟨key,⟨o,?_,h2,m,h3⟩,h4⟩;show h'.get? (bs j)=_;rw[hs'.2 _ (fun z=>hbs j hjn (by rw[z];exact P0))];exact h1
  ·refine hR s'' (Moved.trans W.gtrans ((hm.mono hsub).then_heap (ad6 _) fun b o hb e=>?_) hm'') hS'';rw[hs'.2 b (fun h:b=d=>hb (by rw[h];exact P0))];exact e
def qb(its:Array s0) (i:Nat):E5:=match its[i]? with|some (.ref b)=>b|_=>0
theorem iY{l:E5}{its:Array s0}{kvs:List (K×s0)}{Q:s0->E2->Prop}(hh:A.handled=none) (hl:gf s.heap l its) (hn:kvs.length=its.size) (hz:its.size<=E4) (hnd:(kvs.map (·.1)).Nodup)
  (hit:∀(i:Nat) (kv:K×s0),kvs[i]?=some kv->∃b,its[i]?=some (F3 b)/\jQ knd s.heap b kv)
  (h:∀h' tk,h'.DictOf knd s.heap.objs.size kvs->(∀b o,s.heap.get? b=some o->h'.get? b=some o)->Q (.ref s.heap.objs.size) { s with heap:=h',toks:=tk }) :
  F6 (J9 prog w) A (ap2 (.type "dict") [.ref l]) Q E s:=by
 refine callType_codes (Q₁:=fun(obj:s0) (s₁:E2)=>obj=F3 s.heap.objs.size/\s₁={ s with heap:=s.heap.push { cls:=.type "dict",data:=.dict #[] } }) F.kt_called_dict (F.kt_typeCall_dict_1 _) F.entry_dict_init (kt_code_dict_new _ ⟨rfl,rfl⟩) ?_;rintro obj s₁ ⟨rfl,rfl⟩;have hnew:(s.heap.push { cls:=.type "dict",data:=.dict #[] }).DictOf knd s.heap.objs.size []:=I0.DictOf.new s.heap;have hlt:l<s.heap.objs.size:=hl.lt;obtain⟨o,ho,hc,⟨m,hd⟩,hdict⟩:=hl;have ho':(s.heap.push { cls:=.type "dict",data:=.dict #[] }).get? l=some o:=E1 _ ho;refine⟨hnew.typeIs,F.args_dict_init_2 _ _,?_⟩;unfold J7.«dict.__init__»;refine o0 ?_;unfold J7.Dict.selfAndRest;refine o0 (wpAny_notOrdered_dict hnew.typeIs ?_);show F6 _ _ (ad0 (s.heap.objs.size,[F3 l])) _ _ _;refine E3 ?_;show F6 _ _ (J7.Dict.updateFrom "dict.__init__" s.heap.objs.size (.ref l) [] .none) _ _ _;unfold J7.Dict.updateFrom;refine o0 (af5 (T:="tuple") ⟨o,ho',hc⟩ ?_);rw[if_pos (by decide)];have hh2:A.in1.in1.handled=none:=hh;refine o0 (sT ho' hc hd hdict hh2 fun h1 tk1 e1 hx=>?_);have ht1:h1.IsTuple l its:=⟨o,hx.keeps _ _ ho',hc,m,hd⟩;have hd1:h1.DictOf knd s.heap.objs.size []:=by
  obtain⟨q,es,ep,hq,rest⟩:=hnew;exact⟨q,es,ep,hx.keeps _ _ hq,rest⟩
 have hsz:s.heap.objs.size<h1.objs.size:=by
  obtain⟨q,es,ep,hq,rest⟩:=hd1;exact F2 hq
 have hold:∀b q,s.heap.get? b=some q->h1.get? b=some q:=fun b q e=>hx.keeps _ _ (E1 _ e);rw[if_pos (show(Option.isNone (none:Option s0))=true from rfl)];refine o0 (al2 (o0 (U0 ht1 ?_)));refine E3 ⟨al7 fJ _,?_⟩;have hb:∀(i:Nat) (kv:K×s0),kvs[i]?=some kv->qb its i<s.heap.objs.size/\jQ knd s.heap (qb its i) kv:=fun i kv hi=>by
  obtain⟨b,e,q⟩:=hit i kv hi;have eb:qb its i=b:=by unfold qb;rw[e]
  rw[eb];obtain⟨key,⟨ob,g1,_⟩,_⟩:=id q;exact⟨F2 g1,q⟩
 have hget:∀i,i<its.size->∃kv,kvs[i]?=some kv:=fun i hi=>⟨kvs[i]'(by lia),H0 (by lia)⟩;refine xU (n:=its.size) ((Walks.tuple (A:=A.in1.in1) hh2 h1.objs.size l (F8 (am3 hlt hsz)) its).toS) s.heap.objs.size (by
  simp only[E9,W7,or_false,not_or];exact⟨F8 hsz,V9 hlt⟩) kvs hn hz hnd (qb its) (fun i v hi=>?_) (fun i hi=>?_) _ 0 _ 0 rfl (O4 _) ⟨⟨_,F0 _ rfl,rfl,rfl⟩,ht1.push _⟩ (hd1.push _) (fun j kv hj=>?_) fun s' hm hS'=>?_
 ·have hi':i<its.size:=(N1.mp hi).1;obtain⟨kv,hkv⟩:=hget i hi';obtain⟨b,e,_⟩:=hit i kv hkv;have e':its[i]?=some v:=hi;rw[e]at e';have eb:qb its i=b:=by unfold qb;rw[e]
  rw[eb];exact(N3 e').symm
 ·obtain⟨kv,hkv⟩:=hget i hi;have:=(hb i kv hkv).1;simp only[E9,W7,or_false,not_or];exact⟨F8 this,F8 (am3 this hsz)⟩
 ·obtain⟨key,⟨ob,g1,g2,gm,g3⟩,g4⟩:=(hb j kv hj).2;exact⟨key,⟨ob,E1 _ (hold _ _ g1),g2,gm,g3⟩,g4⟩
 ·obtain⟨h',g',d',tk',os'⟩:=s';have eg:g'=s.gens:=hm.gens;have ed:d'=s.drawn:=hm.drawn;have eo:os'=s.os:=hm.os;subst eg;subst ed;subst eo;refine⟨rfl,h h' tk' hS' fun b q e=>?_⟩;have hbl:=F2 e;exact hm.heap b q (by simp only[E9,W7,or_false,not_or];exact⟨F8 hbl,F8 (am3 hbl hsz)⟩) (E1 _ (hold _ _ e))
end
noncomputable def pL:List D->Option (List (Key×D))
 |[]=>some []
 |.tup [.str k,d]::ds=>(pL ds).map fun l=>(.inr k,d)::l
 |_=>none
def oC:D->Option D
 |.tup ds=>(pL ds).bind fun kvs=>if(kvs.map (·.1)).Nodup then some (iA kvs)else none
 |_=>none
theorem yF{ds:List D}{kvs:List (Key×D)}(h:pL ds=some kvs) (n:(kvs.map (·.1)).Nodup):oC (.tup ds)=some (iA kvs):=by
 simp only[oC,h,Option.bind_some,if_pos n]
section
variable{X:Cx}{aa:List (E5×Obj)}{σ:St}{H:Hp}{s:E2}{M:DH}
theorem zq(I:Inv X aa σ H s) (hr:HR X.K M H):∀(ds:List D) (vs:List V) (its:List s0) (kvs:List (Key×D)),am X.K M H ds vs->ax vs its->pL ds=some kvs ->
  ∃(ws:List V) (us:List s0),am X.K M H (kvs.map (·.2)) ws/\ax ws us/\kvs.length=its.length/\us.length=its.length/\∀(i:Nat) (kv:Key×s0),((kvs.map (·.1)).zip us)[i]?=some kv->∃b,its[i]?=some (F3 b)/\jQ (aS X.prog X.w) s.heap b kv
 |[],vs,its,kvs,rl,rv,e=>by
  cases e;simp only[am]at rl;subst rl;cases rv;exact⟨[],[],am.nil,.nil,rfl,rfl,fun i kv h=>by simp at h⟩
 |d::ds,vs,its,kvs,rl,rv,e=>by
  simp only[am]at rl;obtain⟨v,vs',rfl,r1,rl'⟩:=rl;cases rv with
  |@cons _ u _ its' ru rv' =>
   cases d with
   |tup es =>
    cases es with
    |nil=>cases e
    |cons e1 es =>
     cases e1 with
     |str k =>
      cases es with
      |nil=>cases e
      |cons d2 es =>
       cases es with
       |cons _ _=>cases e
       |nil =>
        simp only[pL]at e;obtain⟨kvs',ek,rfl⟩:=Option.map_eq_some_iff.mp e;obtain⟨ws,us,h1,h2,h3,h4,h5⟩:=zq I hr ds vs' its' kvs' rl' rv' ek;simp only[Rep]at r1;obtain⟨b,xs,rfl,ta,rx⟩:=r1;simp only[am]at rx;obtain⟨x1,_,rfl,rx1,x2,_,rfl,rx2,rfl⟩:=rx;cases(show u=F3 b from ru);obtain⟨its2,rv2,tn,_⟩:=I.tupN ta.sq;obtain⟨u1,u2,rfl,ru1,ru2⟩:=ax.two rv2;simp only[Rep]at rx1;subst rx1;refine⟨x2::ws,u2::us,am.cons rx2 h1,.cons ru2 h2,by simp[h3],by simp[h4],fun i kv hi=>?_⟩;cases i with
        |zero =>
         simp only[J5,ab1,List.getElem?_cons_zero,ae2]at hi;subst hi;exact⟨b,rfl,u1,tn.tup,j8 (k:=.inr k) ru1⟩
        |succ i =>
         simp only[J5,ab1,S1]at hi;obtain⟨c,g1,g2⟩:=h5 i kv hi;exact⟨c,by rw[S1];exact g1,g2⟩
     |_=>cases e
   |_=>cases e
theorem qO{α β γ:Type}:∀{l:List (α×β)}{us:List γ},us.length=l.length->(((l.map (·.1)).zip us).map (·.1))=l.map (·.1)
 |[],[],_=>rfl
 |a::l,u::us,h=>by
  simp only[J5,ab1];rw[qO (by simpa using h)]
theorem uf{κ:Type}:∀{ks:List κ}{ws:List V}{us:List s0},ax ws us->ks.length=us.length->KV (ks.zip ws) (ks.zip us)
 |[],_,_,_,_=>.nil
 |k::ks,_,_,.nil,h=>by simp at h
 |k::ks,_,_,.cons r rv,h=>.cons ⟨rfl,r⟩ (uf rv (by simpa using h))
theorem wz(hc:X.calm=true):bh X (.type "dict") (nc oC):=by
 intro aa s σ H M xs us ds dz Q I hr rv rp e k;obtain⟨d,rfl,e0⟩:=c7 e;clear e;obtain⟨v,rfl,r⟩:=md rp;obtain⟨u,rfl,ru⟩:=ax.one rv;cases d with
 |tup ds =>
  simp only[oC]at e0;obtain⟨kvs,ek,e1⟩:=Option.bind_eq_some_iff.mp e0
  by_cases hn:(kvs.map (·.1)).Nodup
  ·rw[if_pos hn]at e1;cases e1;obtain⟨a,vs,rfl,sq,rl⟩:=r;cases(show u=F3 a from ru);obtain⟨its,rv',tn,hz⟩:=I.tupN sq;obtain⟨ws,us,h1,h2,h3,h4,h5⟩:=zq I hr ds vs its kvs rl rv' ek;have bu:=rv'.length;refine iY (knd:=aS X.prog X.w) (kvs:=(kvs.map (·.1)).zip us) (I.ok.hd hc) tn (by simp[h3,h4]) (by simp;lia) (by rw[qO (by lia)];exact hn) (fun i kv hi=>by
    obtain⟨b,g1,g2⟩:=h5 i kv hi;exact⟨b,by simpa using g1,g2⟩) fun h' tk hd' hk'=>?_
   obtain⟨ob,es,ep,hob,rest⟩:=id hd';have hp:=I.hok.fresh (F5 s.heap.objs.size);have hwl:ws.length=kvs.length:=by have:=h2.length;lia
   have I1:=I.laid (a:=s.heap.objs.size) (o:=.frz ob (.dK ((kvs.map (·.1)).zip ws))) (h':=h') (t':=tk) hk' (F5 _) ⟨hob,by simp[hwl];lia,by
    have:=I.big;exact beq_false_of_ne (V9 this),_,uf h2 (by simp;lia),hd'⟩
   refine⟨.ref s.heap.objs.size,_,I1,rfl,k _ _ (Ext.new hr hp) (hr.new hp) ?_⟩;unfold iA;simp only[Rep];exact⟨_,ws,rfl,⟨by simp[hwl],⟨ob,az⟩,hr.fresh hp⟩,h1.ext (Ext.new hr hp)⟩
  ·rw[if_neg hn]at e1;cases e1
 |_=>cases e0
end
section
variable{X:Cx}{o e e1 e2:K4}{to te t1 t2:TEd}
def qZ:V->List V->Hp->VK->Prop:=fun x vs H Q=>∃(l:E5) (xs:List V) (i:Nat) (y:V),x=.ref l/\vs=[.int (i:Int),y]/\H l=some (.lst xs)/\i<=xs.length/\xs.length<E4/\Q .non (upd H l (.lst (xs.take i++y::xs.drop i)))
theorem sd:MtM X "list.insert" qZ:=by
 intro aa s σ H x vs v us Q I rx rv h;obtain⟨l,xs,i,y,rfl,rfl,hH,hi,hz,q⟩:=h;cases rx;obtain⟨u1,u2,rfl,ru1,ru2⟩:=ax.two rv;obtain⟨t,rfl⟩:=ru1;obtain⟨z,its,n,r,hl,e⟩:=I.lstM hH;obtain⟨x,hx⟩:∃x:Int,x=(i:Int):=⟨_,rfl⟩;rw[<-hx];have hfit:¬ (!Builtin.List.listFitsIndex x)=true:=by
  have h2:x<2 ^ 63:=by
   have:(E4:Nat)<=(2 ^ 63-1) / 8:=by decide
   lia
  rw[fitsIndex_both (by lia) h2];exact P1
 have hs:its.toArray.size<=E4:=by rw[F1];lia
 have m:=AutoSeq1.list_insert_list_int_val_1 l its.toArray n x t u2 hfit hs;refine aa3 F.slot_list_insert ⟨_,e,rfl⟩ F.entry_list_insert (F.args_list_insert_3 _ _ _) m ⟨e,?_⟩;refine⟨.non,_,I.lset (its':=its.take i++u2::its.drop i) hH e ?_ ((r.take i).append (.cons ru2 (r.drop i))) ?_,rfl,q⟩
 ·have h1:¬ x<0:=by lia
  have h2:min x.toNat its.length=i:=by lia
  show(its.toArray.extract 0 (if x<0 then _ else min x.toNat its.toArray.size)).push u2++its.toArray.extract (if x<0 then _ else min x.toNat its.toArray.size)=_;rw[if_neg h1,F1,h2];apply Array.ext';simp;exact V1 (by simp)
 ·rw[K7,K9,N6,W5]
  lia
theorem yG(l:E5) (items:Array s0) (n:Nat) (b:E5) (items2:Array s0) (n2:Nat) (sl:Array (Option s0)) (hs0:¬(!items.isEmpty&&W4 (items.size+items2.size))=true) (hs1:items.size<=E4) (hs2:items.size+items2.size<=E4+1) :
  Meets (J7.«list.extend» ⟨[.ref l,.ref b],[]⟩) (fun _ R s=>s.heap.get? l=some { cls:=.type "list",dict:=none,data:=.seq items n,slots:=#[] }/\s.heap.get? b=some { cls:=.type "tuple",dict:=none,data:=.seq items2 n2,slots:=sl }/\R (.ok (.ret K0)) { s with heap:=s.heap.update l (ak9 fun x=>x++items2),toks:=s.toks }) :=
 .of_wp fun prog w A R s h=>by
  obtain⟨hp,g,d,tk,os⟩:=s;obtain⟨hl,hb,h⟩:=h;have f2:=AutoSeq1.sub_tuple_tuple;have f3:=AutoSeq1.sub_list_list;have f4:=AutoSeq1.sub_tuple_list;have f5:=AutoSeq1.sub_list_tuple;have hz':(items++items2).size<=E4+1:=by rw[Array.size_append];exact hs2
  wp_walk using(wpAny_updateSeq hl rfl (hz:=hs1) (_hz':=hz')),S6 hl,S6 hb
  exact⟨_,rfl,h⟩
def yT:V->List V->Hp->VK->Prop:=fun x vs H Q=>∃l b xs zs,x=.ref l/\vs=[.ref b]/\H l=some (.lst xs)/\SqT X.K H b zs/\xs.length+zs.length<=E4/\Q .non (upd H l (.lst (xs++zs)))
theorem xZ:MtM X "list.extend" (yT (X:=X)):=by
 intro aa s σ H x vs v us Q I rx rv h;obtain⟨l,b,xs,zs,rfl,rfl,hH,hB,hz,q⟩:=h;cases rx;obtain⟨u,rfl,ru⟩:=rv.one;cases ru;obtain⟨z,its,n,r,hl,e⟩:=I.lstM hH;obtain⟨its2,r2,⟨o2,g1,g2,⟨n2,g3⟩,g4⟩,z2⟩:=I.tupN hB;obtain⟨c2,dc2,dt2,sl2⟩:=o2;simp only at g2 g3 g4;subst g2;subst g3;subst g4;have hl2:=r2.length;have hsz:its.toArray.size+its2.toArray.size<=E4:=by rw[F1,F1];lia
 have hlong:¬ (!its.toArray.isEmpty&&W4 (its.toArray.size+its2.toArray.size))=true:=by
  rw[nJ hsz,ai0];exact P1
 have m:=yG l its.toArray n b its2.toArray n2 sl2 hlong (by rw[F1];lia) (by lia);refine aa3 F.slot_list_extend ⟨_,e,rfl⟩ F.entry_list_extend (F.args_list_extend_2 _ _) m ⟨e,g1,?_⟩;refine⟨.non,_,I.lset (its':=its++its2) hH e (by simp) (r.append r2) ?_,rfl,q⟩;rw[K7]
 lia
def Df(to t1 t2:TEd):TEd:=fun Δ M Q=>to Δ M fun o M1=>∃a l,o=.ref a/\M1 a=some (.lst l)/\t1 Δ M1 fun d1 M2=>t2 Δ M2 fun d2 M3=>∃(ds:List D) (i:Nat),d1=.int (i:Int)/\M3 a=some (.lst ds)/\i<=ds.length/\ds.length<E4/\Q .non (ar M3 a (.lst (ds.take i++d2::ds.drop i)))
theorem BP{dP bj:Pos}(ho:QEd X o to) (h1:QEd X e1 t1) (h2:QEd X e2 t2) (et:aa7 o "insert" X.env (Z4 o X.env)=Z4 o X.env:=by rfl)
  (hse:E8 [e1,e2] X.env=(false,Z4 e1 X.env)::E8 [e2] X.env:=by rfl) (hse2:E8 [e2] X.env=(false,Z4 e2 X.env)::E8 [] X.env:=by rfl)
  (mG:((V0 bj (E8 [e1,e2] X.env)).all (fun x => !x.1) && (al5 bj (af2 [] X.env)).all (fun x => x.1.isSome)
  &&decide ([e1,e2].length+([]:List ah1).length+(if([]:List ah1).isEmpty then 0 else 1)<30))=true:=by rfl)
  (gF:(dP.endLine==bj.line)=true:=by rfl) (eI:(V0 bj (E8 [e2] X.env)).any (·.1)=false:=by rfl):QEd X (.Call (.Attribute o "insert" dP) [e1,e2] [] bj) (Df to t1 t2):=by
 simp only[QEd.eq]at *
 exact(rD ac6 PySem.F.slot_list_insert PySem.F.type_list_insert (show MtR X "list.insert" qZ from sd) ho (bf h1 (bf h2 dw hse2) hse) et mG gF hse eI).conv fun σ H Q hup=>hup.el fun Δ M R sr hr q k=>⟨Δ,M,_,sr,hr,q,fun o M1 ov H1 ⟨a,l,eo,em,q1⟩ e1 hr1 ro=>by
   subst eo;simp only[Rep]at ro;subst ro;obtain⟨vs,hv,rl⟩:=hr1 a _ em;refine⟨.inl ⟨rfl,vs,SqL.of hv⟩,Δ,M1,_,sr.ext e1,hr1,q1,fun d1 M2 v1 H2 q2 e2 hr2 rv1=>⟨Δ,M2,_,(sr.ext e1).ext e2,hr2,q2,fun d2 M3 v2 H3 ⟨ds,i,ed,em3,hi,hz,q3⟩ e3 hr3 rv2=>?_⟩⟩;subst ed;simp only[Rep]at rv1;subst rv1;obtain⟨ws,hw,rl2⟩:=hr3 a _ em3;have hl:=rl2.length;exact⟨a,ws,i,v2,rfl,rfl,hw,by lia,by lia,k _ _ _ _ q3 (((e1.trans e2).trans e3).trans (Ext.write em3)) (hr3.write em3 ((rl2.take i).append (am.cons rv2 (rl2.drop i)))) (by simp[Rep])⟩⟩
def zo(to te:TEd):TEd:=fun Δ M Q=>to Δ M fun o M1=>∃a l,o=.ref a/\M1 a=some (.lst l)/\te Δ M1 fun d M2=>∃ds ys,d=.tup ys/\M2 a=some (.lst ds)/\ds.length+ys.length<=E4/\Q .non (ar M2 a (.lst (ds++ys)))
theorem zV{dP bj:Pos}(ho:QEd X o to) (he:QEd X e te) (et:aa7 o "extend" X.env (Z4 o X.env)=Z4 o X.env:=by rfl)
  (hse:E8 [e] X.env=(false,Z4 e X.env)::E8 [] X.env:=by rfl)
  (mG:((V0 bj (E8 [e] X.env)).all (fun x => !x.1) && (al5 bj (af2 [] X.env)).all (fun x => x.1.isSome)
  &&decide ([e].length+([]:List ah1).length+(if([]:List ah1).isEmpty then 0 else 1)<30))=true:=by rfl)
  (gF:(dP.endLine==bj.line)=true:=by rfl) (eI:(V0 bj (E8 [] X.env)).any (·.1)=false:=by rfl):QEd X (.Call (.Attribute o "extend" dP) [e] [] bj) (zo to te):=by
 simp only[QEd.eq]at *
 exact(rD ac6 PySem.F.slot_list_extend PySem.F.type_list_extend (show MtR X "list.extend" yT from xZ) ho (bf he dw hse) et mG gF hse eI).conv fun σ H Q hup=>hup.el fun Δ M R sr hr q k=>⟨Δ,M,_,sr,hr,q,fun o M1 ov H1 ⟨a,l,eo,em,q1⟩ e1 hr1 ro=>by
  subst eo;simp only[Rep]at ro;subst ro;obtain⟨vs,hv,rl⟩:=hr1 a _ em;refine⟨.inl ⟨rfl,vs,SqL.of hv⟩,Δ,M1,_,sr.ext e1,hr1,q1,fun d M2 v H2 ⟨ds,ys,ed,em2,hz,q2⟩ e2 hr2 rv=>?_⟩;subst ed;simp only[Rep]at rv;obtain⟨b,zs,rfl,hb,rz⟩:=rv;obtain⟨ws,hw,rl2⟩:=hr2 a _ em2;refine⟨a,b,ws,zs,rfl,rfl,hw,hb.sq,by rw[<-rl2.length,<-rz.length];exact hz,k _ _ _ _ q2 ((e1.trans e2).trans (Ext.write em2)) (hr2.write em2 (rl2.append rz)) (by simp[Rep])⟩⟩
end
section
variable{X:Cx}{e:K4}{te:TEd}{pos:Pos}
def C3(te:TEd) (tl th:TOd):TEd:=fun Δ M Q=>te Δ M fun x M1=>tl Δ M1 fun l M2=>th Δ M2 fun u M3=>∃ds,rdM M3 x=.lst ds/\∀p,M3 p=none->Q (.ref p) (ar M3 p (.lst (b7 ds l u)))
theorem tP{lo hi:Option K4}{tl th:TOd}{p2:Pos}(he:QEd X e te) (hl:QOd X lo tl) (hu:QOd X hi th):QEd X (.Subscript e (.Slice lo hi none p2) pos) (C3 te tl th):=by
 simp only[QEd.eq,QOd.eq]at *
 refine(nr (SlR.or qM (SlR.or vf (SlR.or uc nB))) he hl hu).conv fun σ H Q hh=>?_;obtain⟨Δ,M,R,sr,hr,q,k⟩:=hh;refine⟨Δ,M,_,sr,hr,q,fun x M1 v H1 q1 e1 hr1 rv=>⟨Δ,M1,_,sr.ext e1,hr1,q1,fun l M2 H2 q2 e2 hr2=>⟨Δ,M2,_,(sr.ext e1).ext e2,hr2,q2,fun u M3 H3 ⟨ds,ez,q3⟩ e3 hr3=>?_⟩⟩⟩;have rr:=((rv.ext e2).ext e3).rd hr3;have ee:=(e1.trans e2).trans e3;rw[ez]at rr;obtain⟨a,vs,rfl,sq,rl⟩:=rr;refine .inl ⟨a,vs,rfl,SqL.of sq,fun p hp=>?_⟩;refine k _ _ _ _ (q3 p (hr3.fresh hp)) (ee.trans (Ext.own hp)) (hr3.own hp ?_) (by simp only[Rep]);unfold b7 kE;rw[<-rl.length];exact am.take _ (am.drop _ rl)
end
theorem nbh{op:am9}{b:K4}(h:op≠.In:=by decide) (h2:op≠.NotIn:=by decide):T6 op b=false:=jO b h h2
theorem fsc{N P:List Str}{sc:aa5}(a:sc.kind=.function:=by exact rfl) (b:sc.isCoroutine=false:=by exact rfl) (c:sc.isGenerator=false:=by exact rfl) (d:N.Nodup:=by decide +kernel) (e:N.take P.length=P:=by exact rfl)
  (f:∀x∈P,sc.names.lookup x=some .local∨sc.names.lookup x=some .cell:=by decide +kernel) (g:∀y∈sc.names,y.2≠.free:=by decide +kernel):aA N P sc:=⟨a,b,c,d,e,f,g⟩
section
variable{X:Cx}{e:K4}{es:List K4}{t:TAd}{pos p:Pos}{x:Str}{j k n:Nat}{S:SpD}
theorem qd(F:FnD X.prog X.w X.K X.mg X.base x j n S) (hr:bt k X.A) (ha:QAd X (e::es) t) (h:j<=k:=by decide) (hg:Gl X x:=by exact rfl) (hdb:(x==("__debug__":Str))=false:=by decide) (he:E8 (e::es) X.env=(false,Z4 e X.env)::E8 es X.env:=by rfl) (hpl:(V0 pos (E8 es X.env)).any (·.1)=false:=by rfl) :
  QEd X (.Call (.Name x p) (e::es) [] pos) (oH n S t):=qc F (hr.mono h) hg ha hdb he hpl
end
end L2
namespace L2
open PySem
end L2
namespace L2
open PySem PySem.SetTable
def rs(mask:Nat) (h:Int):Nat->Nat×Nat
 |0=>(bits h % (mask+1),bits h)
 |n+1=>leap mask (rs mask h n).1 (rs mask h n).2
variable{mask:Nat}{h:Int}
end L2
namespace L2
open PySem PySem.Spec PyProof.Rows
section
variable{X:Cx}{o i:K4}{to ti:TEd}{pos:Pos}
end
section
variable{P:J4}{w:O3}{K:u8}{mg:Str->Option s0}{base:I0}{f:E5}{fd:K1}
theorem Fun.okR{x qual:Str}{st:Z7}{f:E5}{fd:K1}{N ps:List Str}{k n:Nat}{S:SpD}(F:Fun K x qual st f fd) (hn:ps.length=n) (Sc:aA N ps (ai st))
  (hbody:∀ (cdv:s0) (A:L8) (outer:List Env) (s:E2) (H:Hp) (E:XK),bt k (A.deeper (W9 qual (ai st) s.heap.objs.size f cdv)) →
   ∃t:TSd,QSs (fm CX0 P w K mg base N qual (ai st) f cdv A outer s H E).nox (bZ st) t/\∀ds M R (G:Prop),S ds M R->(t { nx:=fun _ M'=>R .non M',rt:=R } (eO N ds) M->G)->G):aO P w K mg base CX0 (k+1) f fd ps (spD K n S):=by
 refine F.okD hn Sc fun cdv A outer s H E hr=>?_;obtain⟨t,h1,h2⟩:=hbody cdv A outer s H E hr;exact⟨t,wO h1,fun ds M R _ hS=>h2 ds M R _ hS id⟩
theorem shr{p:Prop}(h:∀q:Prop,(p->q)->q):p:=h p id
theorem nn{M:DH}{p q:E5}{u:HD}(h1:M q=none) (h2:M p=some u):q≠p:=fun e=>by rw[e,h2]at h1;cases h1
end
end L2
namespace L2
open PySem PyProof.Rows
section
variable{prog:J4}{w:O3}{A:L8}{E:s0->E2->Prop}{s:E2}{O:KeyOrd}{key:Keyed->O.α}{a0:List Keyed}{κ:SortKind}
structure SB(a0:List Keyed) (κ:SortKind) (st:SortSt):Prop where
 perm:(arrOf st).toList.Perm a0
 kind:ak2 st=κ
 fail:failedOf st=none
theorem SB.size{st:SortSt}(h:SB a0 κ st):(arrOf st).size=a0.length:=by rw[<-X9];exact h.perm.length_eq
end
section
variable{prog:J4}{w:O3}{A:L8}{E:s0->E2->Prop}{s:E2}{O:KeyOrd}{key:Keyed->O.α}{a0:List Keyed}{κ:SortKind}
def kl(key:Keyed->O.α) (x y:Keyed):Prop:=O.kle (key x) (key y)
variable{a b out:Array Keyed}{ia ib k:Nat}
end
end L2
namespace L2
open PySem PySem.SetTable
variable{mask:Nat}{h:Int}
variable{mask:Nat}
end L2
namespace L2
open PySem PySem.SetTable PySem.SeqAt
structure TK(prog:J4) (w:O3) (τ:Type) where
 is:I0->τ->s0->Prop
 hash:τ->Int
 room:L8->Prop
 pyHash:∀{A:L8} {E:s0->E2->Prop} {s:E2} {x:τ} {v:s0} {Q:Int->E2->Prop},room A->is s.heap x v->(∀t,s.toks<=t->Q (hash x) { s with toks:=t })->F6 (J9 prog w) A (PySem.pyHash v) Q E s
 eqB:∀{A:L8} {s:E2} {x y:τ} {v u:s0},room A->is s.heap x v->is s.heap y u->∃b:Bool,(b=true↔x=y)/\EqAt A s v u b
 quiet:∀{A:L8} {E:s0->E2->Prop} {s:E2} {x:τ} {v:s0} {Q:Bool->E2->Prop},room A->is s.heap x v->Q true s->F6 (J9 prog w) A (eqIsQuiet 8 v) Q E s
 noCls:∀{A:L8} {E:s0->E2->Prop} {s:E2} {x:τ} {v:s0} {Q:Bool->E2->Prop},room A->is s.heap x v->Q false s->F6 (J9 prog w) A (ofAClassStatement 8 v) Q E s
 byV:∀{A:L8} {E:s0->E2->Prop} {s:E2} {x:τ} {v:s0} {Q:Bool->E2->Prop},room A->is s.heap x v->(∀b,Q b s)->F6 (J9 prog w) A (hashByValue 8 v) Q E s
 ref:∀{h:I0} {x:τ} {v:s0},is h x v->∃a,v=.ref a
variable{prog:J4}{w:O3}{τ:Type}{κ:TK prog w τ}{A:L8}{E:s0->E2->Prop}{s:E2}
variable{prog:J4}{w:O3}{τ:Type}{κ:TK prog w τ}{A:L8}{E:s0->E2->Prop}{s:E2}
end L2
namespace L2
open PySem PySem.Spec PyProof.Rows PySem.SeqAt
inductive KD where
 |int (i:Int)|str (x:Str)|tup (ks:List KD)
 deriving Inhabited
def hK(w:O3):Nat->KD->Int
 |_,.int i=>hashInt i
 |_,.str x=>hashStr w x
 |0,.tup _=>0
 |n+1,.tup ds=>reduceHash (J7.Tuple.tupleHashOf (ds.map (hK w n)))
end L2
namespace L2
open PySem PySem.Spec PyProof.Rows
end L2
namespace L2
open PySem PySem.Spec PyProof.Rows PySem.SeqAt
mutual
def Cm:KD->KD->Prop
 |.int _,.int _=>True
 |.str _,.str _=>True
 |.tup a,.tup b=>Cms a b
 |_,_=>False
def Cms:List KD->List KD->Prop
 |a::as,b::bs=>Cm a b/\Cms as bs
 |_,_=>True
end
end L2
namespace L2
open PySem PySem.W PySem.Calls PyProof.Rows PySem.SeqAt
end L2
namespace L2
open PySem PySem.Spec PyProof.Rows PySem.Calls PySem.SeqAt
mutual
def kd:KD->D
 |.int i=>.int i
 |.str x=>.str x
 |.tup ks=>.tup (kds ks)
def kds:List KD->List D
 |[]=>[]
 |k::ks=>kd k::kds ks
end
mutual
theorem BF:∀{a b:KD},kd a=kd b->a=b
 |.int _,.int _,h=>by simp[kd]at h;rw[h]
 |.int _,.str _,h=>by simp[kd]at h
 |.int _,.tup _,h=>by simp[kd]at h
 |.str _,.int _,h=>by simp[kd]at h
 |.str _,.str _,h=>by simp[kd]at h;rw[h]
 |.str _,.tup _,h=>by simp[kd]at h
 |.tup _,.int _,h=>by simp[kd]at h
 |.tup _,.str _,h=>by simp[kd]at h
 |.tup a,.tup b,h=>by simp only[kd,D.tup.injEq]at h;rw[rg h]
theorem rg:∀{a b:List KD},kds a=kds b->a=b
 |[],[],_=>rfl
 |[],_::_,h=>by simp[kds]at h
 |_::_,[],h=>by simp[kds]at h
 |a::as,b::bs,h=>by
  simp only[kds,ag5]at h;rw[BF h.1,rg h.2]
end
end L2
namespace L2
open PySem PySem.Spec PyProof.Rows PySem.Calls PySem.SeqAt PySem.W
open Classical in
instance decKs:DecidableEq (List KD):=fun _ _=>propDecidable _
end L2
namespace L2
open PySem PySem.Spec PyProof.Rows PySem.Calls PySem.SeqAt
end L2
namespace L2
open PySem PySem.Spec PyProof.Rows
end L2
namespace L2
open PySem PySem.Spec PyProof.Rows PySem.Calls PySem.SeqAt
end L2
namespace L2
open PySem PySem.Spec PyProof.Rows
section
open PySem.Calls PySem.SeqAt
variable{X:Cx}{aa:List (E5×Obj)}{s:E2}{σ:St}{H:Hp}{M:DH}{K:u8}
end
end L2
namespace L2
open PySem PySem.Spec PyProof.Rows PySem.Calls PySem.SeqAt
end L2
namespace L2
open PySem PySem.Spec PyProof.Rows PySem.Builtin PySem.Builtin.Str StrLaws
end L2
namespace L2
open PySem PySem.Spec PyProof.Rows
open AutoSeq1 (wpAny_loadPart')
def fb(Φ:Obj->Prop):Prop:=∀o v,Φ o->Φ (o.mapFields (·.setIfInBounds 1 v))
def sj(h base:I0) (e:E5) (Φ:Obj->Prop) (fl:s0):Prop :=
 ∃oe vs T oT ts,h.get? e=some oe/\Φ oe/\oe.data=.fields vs/\vs[1]?=some (.ref T)/\base.get? T=none/\T≠e/\h.get? T=some oT/\oT.data=.fields ts/\ts[3]?=some fl
def GoX(base:I0) (l:List Env) (e:E5) (Φ:Obj->Prop) (fl:s0) (h h':I0):Prop:=base.StaysIn h'/\h'.FunFrames base l/\sj h' base e Φ fl/\h.UpToSlots h'
section
variable{M:ao3}{A:L8}{E:s0->E2->Prop}{s:E2}{base:I0}{env:Env}{outer l:List Env}{L e:E5}{Φ:Obj->Prop}{Q:Unit->E2->Prop}
theorem pe{oe:Obj}{vs:Array s0}{head:s0}{hadNext:Bool}(st:fb Φ)
  (hfr:A.frames=some (env::outer)) (hl:s.heap.FunFrames base (env::outer)) (hf:env.frame=some L)
  (he:s.heap.get? e=some oe) (hkb:base.StaysIn s.heap) (hen:base.get? e=none) (hd:oe.data=.fields vs) (hsz:1<vs.size) (h0:Φ oe)
  (h:∀h',GoX base (env::outer) e Φ (af8 L) s.heap h'->Q () { s with heap:=h' }) :
  F6 M A (do let a <-frameOf env;let pl <-entryPlaceOf L hadNext;let b <-EntryCells.newEntry head a .none (af8 L) .none pl;setField (.ref e) 1 b) Q E s:=by
 have hene:e∉(env::outer).filterMap (·.frame):=fun hm=>by
  obtain⟨_,o,ho,hnf⟩:=hl.mem hm;rw[he]at ho;cases ho;exact hnf vs hd
 refine o0 (wpAny_frameOf_fun hfr hl hf fun h1 hs1=>?_);refine o0 (wpAny_entryPlaceOf fun pl hpl=>?_);unfold EntryCells.newEntry newFields;refine o0 (O8 ?_ (hpl.sizeOk5 _ _ _ _ _));have he1:h1.get? e=some oe:=(hs1.2.1 e hene).trans he;have kb1:base.StaysIn h1:=fun b o hbo=>(hs1.2.1 b fun hm=>by rw[(hl.mem hm).1]at hbo;cases hbo).trans (hkb b o hbo);have ts3:([head,.ref L,.none,af8 L,.none]++(if pl.isEmpty then E6 6 K0 else pl)).toArray[3]?=some (af8 L):=by simp
 generalize ([head,.ref L,.none,af8 L,.none]++(if pl.isEmpty then E6 6 K0 else pl)).toArray=ts at ts3 ⊢;have he2:=E1 (h:=h1) { cls:=.type "traceback",dict:=none,data:=.fields ts } he1;refine ae7 he2 hd hsz (h _ ?_);have hTe:h1.objs.size≠e:=V9 (F2 he1);have hd3:=U1 hd (·.setIfInBounds 1 (F3 h1.objs.size));have he3:=P5 (U2 (·.setIfInBounds 1 (F3 h1.objs.size))) he2 (ad8 hd3);have hT3:=(K2 (h1.push { cls:=.type "traceback",dict:=none,data:=.fields ts }) (U2 (·.setIfInBounds 1 (F3 h1.objs.size))) (M9 hTe)).trans (F0 h1 rfl);have keep:∀b o,b≠e->h1.get? b=some o->((h1.push { cls:=.type "traceback",dict:=none,data:=.fields ts }).update e (U2 (·.setIfInBounds 1 (F3 h1.objs.size)))).get? b=some o:=fun b o hbe hb=>by
  rw[K2 _ _ (M9 hbe)];exact E1 _ hb
 have noRec:∀b o,s.heap.get? b=some o->(∀vs,o.data≠.fields vs)->b≠e:=fun b o hb hnf q=>by
  rw[q,he]at hb;cases hb;exact hnf vs hd
 refine⟨fun b o hbo=>keep b o (fun q=>by rw[q,hen]at hbo;cases hbo) (kb1 b o hbo),hl.of_keeps fun b o hb hnf=>?_,?_,fun b o hb hnf=>?_⟩
 ·obtain⟨sl,hs⟩:=hs1.2.2 b o hb;exact⟨_,keep b _ (noRec b o hb hnf) hs,rfl⟩
 ·exact⟨_,_,h1.objs.size,_,_,he3,st _ _ h0,hd3,by simp[hsz],kb1.fresh,hTe,hT3,rfl,ts3⟩
 ·obtain⟨sl,hs⟩:=hs1.2.2 b o hb;exact⟨sl,keep b _ (noRec b o hb hnf) hs⟩
theorem jg{fl:s0}(hkb:base.StaysIn s.heap) (hl:s.heap.FunFrames base l) (ht:sj s.heap base e Φ fl) (h:∀h',GoX base l e Φ .none s.heap h'->Q () { s with heap:=h' }):F6 M A (ap7 (.ref e) none) Q E s:=by
 obtain⟨oe,vs,T,oT,ts,he,h0,hd,h1,hnT,hTe,hT,hdT,h3⟩:=ht;have hsz3:3<ts.size:=(N1.mp h3).1;have other:∀b,b≠T->(s.heap.update T (U2 fun x=>x.setIfInBounds 3 K0)).get? b=s.heap.get? b:=fun b hb=>K2 _ _ (M9 hb);have noRec:∀b o,s.heap.get? b=some o->(∀vs,o.data≠.fields vs)->b≠T:=fun b o hb hnf q=>by
  rw[q,hT]at hb;cases hb;exact hnf ts hdT
 refine wpAny_setFlight_none he hd h1 hT hdT hsz3 (h _ ⟨fun b o hbo=>(other b fun q=>by rw[q,hnT]at hbo;cases hbo).trans (hkb b o hbo),hl.of_keeps fun b o hb hnf=>⟨o,(other b (noRec b o hb hnf)).trans hb,rfl⟩,?_,fun b o hb hnf=>⟨o.slots,(other b (noRec b o hb hnf)).trans hb⟩⟩);exact⟨oe,vs,T,_,_,(other e (M9 hTe)).trans he,h0,hd,h1,hnT,hTe,P5 _ hT (ad8 (U1 hdT _)),U1 hdT _,by simp[hsz3]⟩
theorem oG{oe:Obj}{vs:Array s0}(st:fb Φ) (hfr:A.frames=some (env::outer)) (hl:s.heap.FunFrames base (env::outer)) (hf:env.frame=some L)
  (he:s.heap.get? e=some oe) (hkb:base.StaysIn s.heap) (hen:base.get? e=none) (hd:oe.data=.fields vs) (h1:vs[1]?=some .none) (h0:Φ oe)
  (h:∀h',GoX base (env::outer) e Φ .none s.heap h'->Q () { s with heap:=h' }):F6 M A (ao5 env (.ref e)) Q E s:=by
 unfold ao5 ag3;simp only[hf];refine o0 (o0 (O7 he hd h1 ?_));rw[if_neg (by decide)];exact pe st hfr hl hf he hkb hen hd (N1.mp h1).1 h0 fun h2 ⟨g1,g2,g3,g4⟩=>jg g1 g2 g3 fun h3 ⟨k1,k2,k3,k4⟩=>h h3 ⟨k1,k2,k3,g4.trans k4⟩
theorem uA(st:fb Φ) (hfr:A.frames=some (env::outer)) (hl:s.heap.FunFrames base (env::outer)) (hf:env.frame=some L) (ht:sj s.heap base e Φ .none) (hkb:base.StaysIn s.heap) (hen:base.get? e=none)
  (h:∀h',GoX base (env::outer) e Φ (af8 L) s.heap h'->Q () { s with heap:=h' }):F6 M A (ag3 (.ref e) env) Q E s:=by
 obtain⟨oe,vs,T,oT,ts,he,h0,hd,h1,hnT,hTe,hT,hdT,h3⟩:=ht;unfold ag3;simp only[hf];refine o0 (O7 he hd h1 ?_);rw[if_pos (show(F3 T != K0)=true from by simp)];refine o0 (O7 hT hdT h3 ?_);rw[if_neg (show ¬ ((K0==af8 L)=true)from by simp[af8])];refine o0 (ae7 hT hdT (N1.mp h3).1 ?_);have other:∀b,b≠T->(s.heap.update T (U2 (·.setIfInBounds 3 K0))).get? b=s.heap.get? b:=fun b hb=>K2 _ _ (M9 hb);have noRec:∀b o,s.heap.get? b=some o->(∀vs,o.data≠.fields vs)->b≠T:=fun b o hb hnf q=>by
  rw[q,hT]at hb;cases hb;exact hnf ts hdT
 refine pe st hfr (hl.of_keeps fun b o hb hnf=>⟨o,(other b (noRec b o hb hnf)).trans hb,rfl⟩) hf ((other e (M9 hTe)).trans he)
  (fun b o hbo=>(other b fun q=>by rw[q,hnT]at hbo;cases hbo).trans (hkb b o hbo)) hen hd (N1.mp h1).1 h0
  fun h' ⟨x1,x2,x3,x4⟩=>h h' ⟨x1,x2,x3,fun b o hb hnf=>x4 b o ((other b (noRec b o hb hnf)).trans hb) hnf⟩
theorem pb(st:fb Φ) (hfr:A.frames=some (env::outer)) (hl:s.heap.FunFrames base (env::outer)) (hf:env.frame=some L) (ht:sj s.heap base e Φ .none) (hkb:base.StaysIn s.heap) (hen:base.get? e=none)
  (h:∀h',GoX base (env::outer) e Φ .none s.heap h'->Q () { s with heap:=h' }):F6 M A (ao5 env (.ref e)) Q E s:=by
 unfold ao5;exact o0 (uA st hfr hl hf ht hkb hen fun h2 ⟨g1,g2,g3,g4⟩=>jg g1 g2 g3 fun h3 ⟨k1,k2,k3,k4⟩=>h h3 ⟨k1,k2,k3,g4.trans k4⟩)
end
theorem i6{prog:J4}{w:O3}{A:L8}{E:s0->E2->Prop}{h:I0}{g:Array al4}{d:Drawn}{t:Nat}{os:OsState}{nm q:Str}{C N:E5}{bs bm bmB:List s0}{hdct:Bool}
  {sn:List Str} {sub:List s0} {ab:Bool} {col:Option Bool} {dd:Option E5} {k0 k1 k2 k3 k5:Option s0} {B newId initId:String} (F:ExcBaseFacts B newId initId bmB) (T:ap8 h bmB bm)
  {K:u8} {rest:List s0} {fI:E5} {oI:Obj} {Q:PySem.Fin->E2->Prop} (hC:h.get? C=some (T1 nm q C N bs bm hdct sn sub ab col dd k0 k1 k2 k3 k5 newId)) (hn:K.In h)
  (hi:N8 K (.ref C) "__init__"=some (some (F3 fI))) (hfI:h.get? fI=some oI) (hfc:oI.cls=O0 "function")
  (hq:∀(h':I0) (e:E5),h.objs.size<=e->h.MadeExcOf h' e (F3 C) rest->F6 (J9 prog w) A (ap2 (F3 fI) (F3 e::rest)) (fun r s'=>r=K0/\Q (Fin.done (Flow.ret (F3 e))) s') E { heap:=h',gens:=g,drawn:=d,toks:=t,os:=os })
  (hrest:rest.length<=E4):F6 (J9 prog w) A (J7.«type.__call__» { pos:=F3 C::rest }) Q E { heap:=h,gens:=g,drawn:=d,toks:=t,os:=os }:=by
 unfold J7.«type.__call__»;dsimp only;refine R0 (aj8 (decide ((F3 C==O0 "type")=true))) (o0 ?_);show F6 _ _ (Q8 _ _) _ _ _;refine o0 ?_;show F6 _ _ (Q8 _ _) _ _ _;refine o0 (al8 hC (E3 (E3 ?_)));refine R0 (aj8 (decide ({ name:=nm,bases:=bs,mro:=F3 C::bm,ns:=N,qualname:=q,hasDict:=hdct,slotNames:=sn,subclasses:=sub,abstract:=ab,collection:=col:ClassData }.mro.isEmpty=true))) ?_;refine o0 (wpAny_madeBy_exc hC (o0 (E3 (o0 (P4 (ad9 ?_))))));refine codeAny_call_builtin_code (ap3.quiet_builtin { pos:=F3 C::rest } F.quiet) (wpAny_check_new_subT F T hC (codeAny_exc_new_subT F T hC ?_ hrest));have hC₁:=E1 { cls:=F3 C,data:=ab4 #[F3 h.objs.size,K0,K0,K0,ag7 false,K0] } (E1 { cls:=O0 "tuple",data:=am7 rest.toArray } hC);have hfI₁:=E1 { cls:=F3 C,data:=ab4 #[F3 h.objs.size,K0,K0,K0,ag7 false,K0] } (E1 { cls:=O0 "tuple",data:=am7 rest.toArray } hfI);have kp:∀b o,h.get? b=some o->((h.push { cls:=O0 "tuple",data:=am7 rest.toArray }).push { cls:=F3 C,data:=ab4 #[F3 h.objs.size,K0,K0,K0,ag7 false,K0] }).get? b=some o:=fun b o e=>E1 _ (E1 _ e);have hn₁:=hn.keeps kp;have hget:=I0.get?_push_at (h:=h.push { cls:=O0 "tuple",data:=am7 rest.toArray }) (a:=h.objs.size+1) (o:={ cls:=F3 C,data:=ab4 #[F3 h.objs.size,K0,K0,K0,ag7 false,K0] }) (by rw[R8]) rfl;show F6 _ _ (Q8 _ _) _ _ _;refine o0 (o0 ?_);show F6 _ _ (Q8 _ _) _ _ _;refine o0 (S2 hget (E3 (af3 hC₁ ?_)));rw[show(F3 C::bm).contains (F3 C)=true by simp];refine R0 (aj8 (decide ((!true)=true))) (o0 (P4 ?_));show F6 _ _ (Q8 _ _) _ _ _;refine o0 ?_;show F6 _ _ (Q8 _ _) _ _ _;refine o0 ?_;show F6 _ _ (Q8 _ _) _ _ _;refine o0 (S2 hget (E3 ?_));refine PySem.W.Looks.here (PySem.W.looks_findIn hn₁ hi) ?_;refine P4 (o0 ?_);show F6 _ _ (Q8 _ _) _ _ _;refine o0 (af5 ⟨oI,hfI₁,hfc⟩ ?_);refine ai1 (aj8 (decide ((O0 "function"==O0 "function" || O0 "function"==O0 "method_descriptor" || O0 "function"==O0 "wrapper_descriptor")=true))) (E3 ?_);refine o0 (L5 (hq _ (h.objs.size+1) (ad6 _) ⟨kp,?_,h.objs.size,hget,?_,?_⟩) ?_ fun _ _ z=>z)
 ·exact U3 (ad6 _)
 ·exact U3 (F5 _)
 ·exact E1 _ (F0 _ rfl)
 ·rintro r s' ⟨rfl,hQ⟩;exact E3 (R0 (aj8 (decide ((K0 != K0)=true))) (E3 hQ))
theorem pG{prog:J4}{w:O3}{A:L8}{E:s0->E2->Prop}{h:I0}{g:Array al4}{d:Drawn}{t:Nat}{os:OsState}{nm q:Str}{C N:E5}{bs bm bmB:List s0}{hdct:Bool}
  {sn:List Str} {sub:List s0} {ab:Bool} {col:Option Bool} {dd:Option E5} {k0 k1 k2 k3 k5:Option s0} {B newId initId:String} (F:ExcBaseFacts B newId initId bmB) (T:ap8 h bmB bm)
  {K:u8} {rest:List s0} {fI:E5} {oI:Obj} {Q:s0->E2->Prop} (hC:h.get? C=some (T1 nm q C N bs bm hdct sn sub ab col dd k0 k1 k2 k3 k5 newId)) (hn:K.In h)
  (hi:N8 K (.ref C) "__init__"=some (some (F3 fI))) (hfI:h.get? fI=some oI) (hfc:oI.cls=O0 "function")
  (hq:∀(h':I0) (e:E5),h.objs.size<=e->h.MadeExcOf h' e (F3 C) rest->F6 (J9 prog w) (A.under (ap3.builtin "type.__call__" { pos:=F3 C::rest })) (ap2 (F3 fI) (F3 e::rest)) (fun r s'=>r=K0/\Q (F3 e) s') E { heap:=h',gens:=g,drawn:=d,toks:=t,os:=os })
  (hrest:rest.length<=E4):F6 (J9 prog w) A (ap2 (F3 C) rest) Q E { heap:=h,gens:=g,drawn:=d,toks:=t,os:=os }:=by
 have f1:=tc_lookup;have f2:=tc_bind (F3 C);have hT:E2.TypeIs { heap:=h,gens:=g,drawn:=d,toks:=t,os:=os } (F3 C) "type":=⟨_,hC,rfl⟩;refine ad9 (codeAny_of_tree ?_);show F6 _ _ (Q8 _ _) _ _ _;refine o0 (al8 hC ?_);show F6 _ _ (Q8 _ _) _ _ _;refine o0 (wpAny_specialOf hT f1 (o0 (al6 f2 (o0 ?_))));refine E3 (ai1 (aj8 (decide (("type.__call__"=="type.__call__")=true))) ?_);refine E3 ⟨rfl,codeAny_call_builtin_at (ap3.quiet_builtin _ (by decide +kernel)) entry_typeCall (wpAny_check_type_call_sub hC (i6 F T hC hn hi hfI hfc (fun h' e hz hm=>hq h' e hz hm) hrest))⟩
theorem jA{prog:J4}{w:O3}{A:L8}{E:s0->E2->Prop}{h:I0}{g:Array al4}{d:Drawn}{t:Nat}{os:OsState}{nm q:Str}{C N e:E5}{bs bm bmB:List s0}{hdct:Bool}
  {sn:List Str} {sub:List s0} {ab:Bool} {col:Option Bool} {dd:Option E5} {k0 k1 k2 k3 k5:Option s0} {B newId initId:String} (F:ExcBaseFacts B newId initId bmB) (T:ap8 h bmB bm)
  {rest:List s0} {oe:Obj} {a0 a1 a2 a3 a4 a5:s0} {Q:s0->E2->Prop} (hC:h.get? C=some (T1 nm q C N bs bm hdct sn sub ab col dd k0 k1 k2 k3 k5 newId))
  (he:h.get? e=some oe) (hcl:oe.cls=.ref C) (hda:oe.data=.fields #[a0,a1,a2,a3,a4,a5])
  (hq:∀(h':I0) (t':E5),(∀b o,b≠e->h.get? b=some o->h'.get? b=some o)->h'.get? e=some { oe with data:=.fields #[.ref t',a1,a2,a3,a4,a5] }->Q .none { heap:=h',gens:=g,drawn:=d,toks:=t,os:=os })
  (hrest:rest.length<=E4):F6 (J9 prog w) A (ap2 (ae1 initId) (F3 e::rest)) Q E { heap:=h,gens:=g,drawn:=d,toks:=t,os:=os }:=by
 refine ad9 (ab6 F.init.plain F.initEntry (wpAny_check_init_subT F T hC he hcl ?_));unfold J7.«BaseException.__init__»;dsimp only;refine R0 (aj8 (decide ((!({ pos:=F3 e::rest }:Args).kw.isEmpty)=true))) ?_;refine o0 ?_;unfold newTuple;obtain⟨oc,od,oda,osl⟩:=oe;obtain rfl:oc=.ref C:=hcl;obtain rfl:oda=_:=hda;have he1:=E1 { cls:=O0 "tuple",data:=am7 rest.toArray } he;refine R0 (by rw[decide_eq_false_iff_not];simpa using hrest) ?_;refine o0 (wpAny_alloc' (E3 ?_));refine o0 ?_;unfold J7.BaseException.bexcPut;refine o0 ?_;show F6 _ _ (Q8 _ _) _ _ _;refine o0 ?_;show F6 _ _ (Q8 _ _) _ _ _;refine o0 (al8 he1 (E3 (E3 (o0 ?_))));show F6 _ _ (Q8 _ _) _ _ _;refine o0 (al8 he1 ?_);dsimp only;refine ai1 (aj8 (decide (0<#[a0,a1,a2,a3,a4,a5].size))) (wpAny_update' he1 ?_);have fin:Q K0 { heap:=(h.push { cls:=O0 "tuple",data:=am7 rest.toArray }).update e (U2 fun x=>x.setIfInBounds 0 (F3 h.objs.size)),gens:=g,drawn:=d,toks:=t,os:=os }:=by
  refine hq _ h.objs.size (fun b o hb hbo=>?_) ?_
  ·rw[K2 _ _ (M9 hb)];exact E1 _ hbo
  ·exact P5 _ he1 rfl
 cases a0
 all_goals first
  |exact an5 (E3 fin)
  |exact E3 (E3 fin)
theorem o6{M:ao3}{A:L8}{E:s0->E2->Prop}{env:Env}{nm q:Str}{C N:E5}{bs bm:List s0}{hdct:Bool}{sn:List Str}{sub:List s0}{ab:Bool}{col:Option Bool}{dd:Option E5}
  {k0 k1 k2 k3 k5:Option s0} {newId:String} {s:E2} {x:K4} {pos:Pos} {Q:Flow->E2->Prop} (et:bm.contains (O0 "BaseException")=true) (hh:A.handled=none)
  (h:F6 M A (Z4 x env) (fun v s₁ => ∃ e od a0 osl,v = F3 e ∧ s₁.heap.get? C = some (T1 nm q C N bs bm hdct sn sub ab col dd k0 k1 k2 k3 k5 newId) ∧
   s₁.heap.get? e=some { cls:=F3 C,dict:=od,data:=ab4 #[a0,K0,K0,K0,ag7 false,K0],slots:=osl }/\E (F3 e) s₁) E s) :
  F6 M A (exec (Z7.Raise (some x) none pos) env) Q E s:=by
 have hcB:(F3 C::bm).contains (O0 "BaseException")=true:=by
  rw[List.contains_cons,et,Bool.or_true]
 rw[arm_exec_Raise];show F6 _ _ (Q8 _ _) _ _ _;refine o0 ?_;refine aa6 ?_;show F6 _ _ (Q8 _ _) _ _ _;refine o0 (o0 (L5 h (fun v s₁ h₁=>?_) fun _ _ z=>z));obtain⟨e,od,a0,osl,rfl,hC,he,hE⟩:=h₁;obtain⟨hp,g,d,tk,os⟩:=s₁;dsimp only at hC he;refine o0 (aa6 (E3 ?_));refine o0 (E3 (o0 (P4 ?_)));show F6 _ _ (Q8 _ _) _ _ _;refine o0 ?_;show F6 _ _ (Q8 _ _) _ _ _;refine o0 ?_;show F6 _ _ (Q8 _ _) _ _ _;refine o0 ?_;refine S2 he (E3 (R0 ?_ (E3 (R0 (aj8 (decide (false=true))) ?_))))
 ·rfl
 refine o0 ?_;show F6 _ _ (Q8 _ _) _ _ _;refine o0 ?_;show F6 _ _ (Q8 _ _) _ _ _;refine o0 (S2 he (E3 (af3 hC ?_)));rw[hcB];refine ai1 (aj8 (decide (true=true))) (E3 (o0 ?_));show F6 _ _ (Q8 _ _) _ _ _;refine o0 ?_;refine S2 he (E3 (R0 ?_ (o0 ?_)))
 ·rfl
 show F6 _ _ (Q8 _ _) _ _ _;refine o0 ?_;show F6 _ _ (Q8 _ _) _ _ _;refine o0 (S2 he (E3 (o0 ?_)));show F6 _ _ (Q8 _ _) _ _ _;refine o0 (S2 hC (E3 (ai1 ?_ (E3 (o0 ?_)))))
 ·rfl
 show F6 _ _ (Q8 _ _) _ _ _;refine o0 ?_;show F6 _ _ (Q8 _ _) _ _ _;refine o0 ?_;show F6 _ _ (Q8 _ _) _ _ _;refine o0 (al8 he (E3 (E3 (R0 ?_ (E3 (wpAny_raiseNew_none hh hE))))));rfl
abbrev veM:List s0:=[.type "ValueError",.type "Exception",.type "BaseException",.type "object"]
theorem rS(self:s0) (C W:E5):refuseLoop self "__setattr__" [.ref C,.ref W,.type "ValueError",.type "Exception",.type "BaseException",.type "object"]=ad0 ():=by
 kernel_rfl
def mK(C e:E5) (h:I0):Prop:=∃a0 osl,h.get? e=some { cls:=.ref C,dict:=none,data:=.fields #[a0,.none,.none,.none,.bool false,.none],slots:=osl }
theorem qo{P:J4}{w:O3}{H:Hp}{h:I0}{C e:E5}(x:mK C e h):bg P w H h e (.ext (mK C e)):=by
 obtain⟨a0,osl,g⟩:=x;exact⟨⟨a0,osl,g⟩,⟨_,g⟩,fun h1 h2 ⟨a,b,q⟩ k=>⟨a,b,k _ q⟩⟩
structure kL(K:u8) (mg:Str->Option s0) (xC xW fld:Str) (C W fI:E5):Prop where
 gC:mg xC=some (.ref C)
 gW:mg xW=some (.ref W)
 kC:S5 K (.ref C)=true
 lC:∃nm q N bs sn sub ab col dd k0 k1 k2 k3 k5,K.lookup C=some (T1 nm q C N bs [.ref W,.type "ValueError",.type "Exception",.type "BaseException",.type "object"] true sn sub ab col dd k0 k1 k2 k3 k5 "ValueError.__new__")
 iC:N8 K (.ref C) "__init__"=some (some (.ref fI))
 lW:∃c0 dW cdW slW cN dN es ep sN,K.lookup W=some ⟨c0,dW,.cls cdW,slW⟩/\K.lookup cdW.ns=some ⟨cN,dN,.dict es ep,sN⟩/\es.toList.all (fun e=>e.key.isStr "__init__"==false&&match e.key with|.str _ _=>true|_=>false)=true
 sW:ah6 K (.ref W) "__getattribute__"=some (some (.builtin "type.__getattribute__"))
 rW:PySem.W.readsIn K W (.type "type")=true
 fW:PySem.W.findCls K (.ref W) (.type "type") "__init__"=some (.val (.builtin "ValueError.__init__"))
 sC:N8 K (.ref C) "__setattr__"=some (some (.builtin "object.__setattr__"))
 mC:aj0 K C (.type "object")=some true
 tC:N8 K (.ref C) fld=some none
theorem kL.tail{K:u8}{mg:Str->Option s0}{xC xW fld:Str}{C W fI:E5}{h:I0}(Y:kL K mg xC xW fld C W fI) (KX:K.In h):ap8 h veM (.ref W::veM):=by
 obtain⟨c0,dW,cdW,slW,cN,dN,es,ep,sN,h1,h2,h3⟩:=Y.lW;rw[S9]at h3;refine ap8.own (KX _ _ h1) (mA:=nsFind es) ⟨_,es,ep,KX _ _ h2,rfl,fun e he=>?_,fun _=>rfl⟩ ?_ ap8.base
 ·have:=h3 e (by simpa using he);rw[N7]at this;cases q:e.key with
  |str n t=>exact⟨n,t,rfl⟩
  |_=>rw[q]at this;simp at this
 ·unfold nsFind findBy;rw[Option.map_eq_none_iff,Array.find?_eq_none];intro e he;have:=h3 e (by simpa using he);rw[N7]at this;simpa using this.1
section
variable{X:Cx}{xC xW fld:Str}{C W fI:E5}
def tWI(C:E5) (i:Nat):TE:=fun σ H Q=>∃e,σ[i]?=some (some (.ref e))/\H e=some (.ext (mK C e))/\Q .non H
theorem Cq(Y:kL X.K X.mg xC xW fld C W fI) (i:Nat) {x:Str}{pl:Sem Bool}{p pa ps pos pc:Pos}{txt:Str}{j:Nat}(hg:Gl X xW) (hx:PE X (.Name x ps) (sV i)) (ht:PE X (.Constant (.str txt) j pc) (tC (.str txt)))
  (hdb:(xW==("__debug__":Str))=false:=by decide)
  (hst:E8 [.Name x ps,.Constant (.str txt) j pc] X.env=(false,Z4 (.Name x ps) X.env)::E8 [.Constant (.str txt) j pc] X.env:=by rfl) (hpl:(V0 pos (E8 [.Constant (.str txt) j pc] X.env)).any (·.1)=false:=by rfl)
  (hev:Z4 (.Call (.Attribute (.Name xW p) "__init__" pa) [.Name x ps,.Constant (.str txt) j pc] [] pos) X.env = (do
   let ov <-Z4 (.Name xW p) X.env
   am0 pa.atName
   let(f,first) <-aj3 [ov] (getMethod ov "__init__" pl)
   callWith pos f first (V0 pos (E8 [.Name x ps,.Constant (.str txt) j pc] X.env)) (al5 pos (af2 [] X.env))):=by rfl) :
  PE X (.Call (.Attribute (.Name xW p) "__init__" pa) [.Name x ps,.Constant (.str txt) j pc] [] pos) (tWI C i):=by
 intro aa s σ H Q I h;obtain⟨e,ei,he,q⟩:=h;refine PySem.W.methodCall_KW (pl:=pl) (fM I hg Y.gW ?_ hdb) hev;refine PySem.W.method_cls I.kIn Y.sW (PySem.W.cls_value I.kIn Y.rW Y.fW rfl ?_);have I1:=I.tok (s.toks+1);have ha:PA X [.Name x ps,.Constant (.str txt) j pc] (rn (sV i) (rn (tC (.str txt)) A0)):=bf hx (bf ht dw);refine PyProof.Rows.callWith_builtin1 (thn (ha pos aa _ σ H (fun vs H1=>vs=[.ref e,.str txt]/\H1=H) I1 ?_) fun us s1 hs=>?_) hst hpl
 ·exact⟨.ref e,ei,rfl,rfl⟩
 obtain⟨vs,H1,I2,rv,rfl,rfl⟩:=hs;obtain⟨u1,u2,rfl,r1,r2⟩:∃u1 u2,us=[u1,u2]/\aF (.ref e) u1/\aF (.str txt) u2:=by
  cases rv with
  |cons r1 rv =>
   cases rv with
   |cons r2 rv =>
    cases rv;exact⟨_,_,rfl,r1,r2⟩
 obtain rfl:u1=.ref e:=r1;obtain⟨⟨a0,osl,g⟩,_⟩:=I2.hok e _ he;obtain⟨nm,q',N,bs,sn,sub,ab,col,dd,k0,k1,k2,k3,k5,lC⟩:=Y.lC;obtain⟨hp,gs,d,t,os⟩:=s1;refine jA F.excBase_ValueError (Y.tail I2.kIn) (I2.kIn _ _ lC) g rfl rfl (fun h' t' kp ge=>?_) (ak1 (lA (by simp)));have I3:=I2.write (t':=t) (h':=h') (x:=e) (e:=e) (o:=.ext (mK C e)) (by rw[he];trivial) (.inl rfl) (fun b u hb hu=>kp b u hb hu) ⟨_,ge⟩ (qo ⟨_,_,ge⟩);have eu:upd H1 e (.ext (mK C e))=H1:=by
  funext b;unfold upd
  split
  ·next z=>rw[z,he]
  ·rfl
 rw[eu]at I3;exact⟨.non,H1,I3,rfl,q⟩
end
section
variable{X:Cx}{xC xW fld:Str}{C W fI:E5}{aa:List (E5×Obj)}{σ:St}{H:Hp}{s:E2}
theorem Inv.forget{e:E5}{φ:I0->Prop}(I:Inv X aa σ (upd H e (.ext φ)) s) (hn:H e=none):Inv X aa σ H s:=by
 have ne:∀{b o},upd H e (.ext φ) b=some o->(∀ ψ,o≠.ext ψ)->H b=some o:=fun {b o} q z=>by
  by_cases hb:b=e
  ·subst hb;rw[az]at q;cases q;exact absurd rfl (z φ)
  ·rw[aB hb]at q;exact q
 have nn:∀{b},upd H e (.ext φ) b=none->H b=none:=fun {b} q=>by
  by_cases hb:b=e
  ·subst hb;exact hn
  ·rw[aB hb]at q;exact q
 refine⟨I.ok,I.os,I.bare,⟨I.base.keep,I.base.slot,fun b o q n x=>nn (I.base.free b o q n x),I.base.there,fun b xs q=>ne (I.base.tups b xs q) (fun _ z=>by cases z),fun b o u q=>ne (I.base.frzs b o u q) (fun _ z=>by cases z),fun b ps q=>?_⟩,I.loc,I.cell,nn I.free,fun x c q=>nn (I.freeC x c q),fun p hp=>?_,fun a o q=>?_,I.len⟩
 ·obtain⟨more,q'⟩:=I.base.tbls b ps q;exact⟨more,ne q' (fun _ z=>by cases z)⟩
 ·obtain⟨h1,h2,h3⟩:=I.pin p hp;exact⟨h1,nn h2,h3⟩
 ·have ha:a≠e:=by rintro rfl;rw[hn]at q;cases q
  refine(I.hok a o (by rw[aB ha];exact q)).stay (fun c v _ r=>r) (fun c r=>ne r (fun _ z=>by cases z)) fun c xs r=>ne r (fun _ z=>by cases z)
end
theorem bg.is{P:J4}{w:O3}{H:Hp}{h:I0}{a:E5}{o:HO}(x:bg P w H h a o):∃u,h.get? a=some u:=by
 cases o with
 |lst xs=>obtain⟨_,_,_,_,e⟩:=x;exact⟨_,e⟩
 |tup xs=>obtain⟨_,_,_,ob,e,_⟩:=x;exact⟨_,e⟩
 |dK kvs=>obtain⟨_,_,_,_,o,_,_,e,_⟩:=x;exact⟨_,e⟩
 |dT kvs=>obtain⟨_,_,_,_,o,_,_,e,_⟩:=x;exact⟨_,e⟩
 |set S n=>obtain⟨o,_,_,_,e,_⟩:=x;exact⟨_,e⟩
 |ins C dx fs=>obtain⟨_,_,_,e,_⟩:=x;exact⟨_,e⟩
 |own y=>exact x
 |xd fs=>obtain⟨_,⟨_,_,_,e,_⟩,_⟩:=x;exact⟨_,e⟩
 |rng lo hi=>obtain⟨_,_,_,e⟩:=x;exact⟨_,e⟩
 |frz ob u=>obtain⟨e,_⟩:=x;exact⟨_,e⟩
 |tbl ps=>exact⟨_,x⟩
 |met f y=>exact⟨_,x⟩
 |ext φ=>exact x.2.1
def ExF(C:E5) (o:Obj):Prop:=o.cls=.ref C/\∃vs,o.data=.fields vs/\vs[2]?=some .none
theorem pE{C:E5}:fb (ExF C):=fun o v ⟨h1,vs,h2,h3⟩=>⟨(Obj.cls_mapFields _ _).trans h1,_,U1 h2 _,by rw[Array.getElem?_setIfInBounds_ne (by decide)];exact h3⟩
section
variable{X:Cx}{aa:List (E5×Obj)}{σ:St}{H1 H':Hp}{s1 s':E2}{C a T:E5}
theorem jz{h:I0}{Z:List E5}(I1:Inv X aa σ H1 s1) (os:s'.os=s1.os) (bare:ai4 s'.gens) (un:Un (frs X.stack) [] H1 H' s1.heap s'.heap) (hok:HOk X.prog X.w H' s'.heap)
  (kp:∀b o,s'.heap.get? b=some o->b∉Z->b∉frs X.stack->h.get? b=some o) (fr:∀b o,b∈frs X.stack->s'.heap.get? b=some o->∃sl,h.get? b=some { o with slots:=sl })
  (hz:∀b∈Z,s1.heap.get? b=none/\H' b=none):Inv X aa σ H' { s' with heap:=h }:=by
 have I':Inv X aa σ H' s':=I1.call' (ch:=[]) os un hok bare fun b z=>absurd z (by simp);have hfree:=I'.stkFree;have nz:∀{b o},s1.heap.get? b=some o->b∉Z:=fun {b o} e z=>by rw[(hz b z).1]at e;cases e
 refine I1.call' (s':={ s' with heap:=h }) (ch:=[]) os ⟨fun b o e n h1 h2=>kp b o (un.keep b o e n h1 h2) (nz e) h1,fun b o e n h1 h2=>?_,un.free,fun b o e h2=>?_,un.tups,un.frzs,un.tbls⟩ (fun b o e=>?_) bare fun b z=>absurd z (by simp)
 ·obtain⟨sl,e1⟩:=un.slot b o e n h1 h2;obtain⟨sl',e2⟩:=fr b _ h1 e1;exact⟨sl',e2⟩
 ·obtain⟨o1,e1⟩:=un.there b o e h2
  by_cases hf:b∈frs X.stack
  ·obtain⟨sl',e2⟩:=fr b _ hf e1;exact⟨_,e2⟩
  ·exact⟨o1,kp b o1 e1 (nz e) hf⟩
 ·refine(hok b o e).stay (fun c v hc r=>kp c v r (fun z=>?_) (fun z=>?_)) (fun c r=>r) fun c xs r=>r
  ·have:=(hz c z).2;rcases hc with rfl|hc
   ·rw[this]at e;cases e
   ·rw[this]at hc;cases hc
  ·have:=hfree c z;rcases hc with rfl|hc
   ·rw[this]at e;cases e
   ·rw[this]at hc;cases hc
end
theorem kL.cls{K:u8}{mg:Str->Option s0}{xC xW fld:Str}{C W fI:E5}(Y:kL K mg xC xW fld C W fI):∃nm q N bs bm hd sn sub ab col dd k0 k1 k2 k3 k5 newId,K.lookup C=some (T1 nm q C N bs bm hd sn sub ab col dd k0 k1 k2 k3 k5 newId)/\bm.contains (.type "BaseException")=true:=by
 obtain⟨nm,q,N,bs,sn,sub,ab,col,dd,k0,k1,k2,k3,k5,lC⟩:=Y.lC;exact⟨nm,q,N,bs,_,_,sn,sub,ab,col,dd,k0,k1,k2,k3,k5,_,lC,rfl⟩
def ie:SpD:=fun _ _ _=>False
theorem n9{P:J4}{w:O3}{K:u8}{mg:Str->Option s0}{base:I0}{CX:CXT}{k n:Nat}{f:E5}{fd:K1}{ps:List Str}:aO P w K mg base CX k f fd ps (spD K n ie) :=
 ⟨fun vs H Q E h=>by obtain⟨_,_,_,_,_,_,h,_⟩:=h;exact h.elim,fun A outer s H args us vs Q E _ _ _ _ h=>by obtain⟨_,_,_,_,_,_,h,_⟩:=h;exact h.elim⟩
theorem jx{α:Type}{p:α->Bool}:∀(l:List α) (i:Nat),(∀x,l[i]?=some x->p x=false)->(l.eraseIdx i).find? p=l.find? p
 |[],_,_=>rfl
 |a::l,0,h=>by simp[T8,h a rfl]
 |a::l,i+1,h=>by
  simp only[List.eraseIdx_cons_succ,T8];rw[jx l i (fun x e=>h x (by simpa using e))]
theorem oj{es:Array am1}{name x:Str}{i:Nat}(hi:es.findIdx? (·.key.isStr name)=some i) (hx:x≠name):nsFind (es.eraseIdxIfInBounds i) x=nsFind es x:=by
 unfold nsFind findBy;rw[<-Array.find?_toList,<-Array.find?_toList];obtain⟨h1,h2,h3⟩:=Array.findIdx?_eq_some_iff_getElem.mp hi;rw[Array.eraseIdxIfInBounds,dif_pos h1,Array.toList_eraseIdx,jx];intro y e;rw[Array.getElem?_toList,Array.getElem?_eq_getElem h1]at e;cases e;have h2:es[i].key.isStr name=true:=h2;show es[i].key.isStr x=false;cases q:es[i].key<;>rw[q]at h2<;>simp only[s0.isStr]at h2 ⊢<;>first|(cases h2;done)|skip
 all_goals first|(rw[beq_iff_eq]at h2;rw[beq_eq_false_iff_ne];exact fun z=>hx (z.symm.trans h2))|rfl
section
variable{M:ao3}{A:L8}{E:s0->E2->Prop}{s:E2}
theorem Bh{a:E5}{m}{name:Str}{Q:Bool->E2->Prop}(hn:s.heap.Ns a m)
  (hQ:∀h' m',h'.Ns a m'->(∀x,x≠name->m' x=m x)->U6 a s.heap h'->Q (m name).isSome { s with heap:=h' }):F6 M A (nsDel a name) Q E s:=by
 obtain⟨o,es,ep,ho,hd,hk,hm⟩:=id hn;have hany:es.any (·.refKey)=false:=by
  rw[Array.any_eq_false'];intro e he;obtain⟨n,t,h⟩:=hk e he;simp[am1.refKey,h]
 have hsome:(m name).isSome=es.any (·.key.isStr name):=by
  rw[<-hm name];simp only[nsFind,findBy,ah4];rw[W0];simp only[Array.find?_isSome,Array.any_eq_true];constructor
  ·rintro⟨x,hx,hp⟩;obtain⟨i,hi,rfl⟩:=Array.mem_iff_getElem.mp hx;exact⟨i,hi,hp⟩
  ·rintro⟨i,hi,hp⟩;exact⟨_,Array.getElem_mem hi,hp⟩
 have hhas:nsHas name o=ad0 (es.any (·.key.isStr name)):=by
  rw[nsHas_eq];unfold nsHasByArray;rw[hd];show(if(es.any fun x=>x.key.isStr name)=true then _ else _)=_;generalize (es.any fun x=>x.key.isStr name)=b;cases b<;>simp[hany]
 unfold nsDel;refine o0 (ai2 ho ?_);rw[hhas];refine o0 (E3 ?_);rw[<-hsome];cases hmn:(m name).isSome
 ·have:=hQ s.heap m hn (fun _ _=>rfl) (.refl ..);rw[hmn]at this;exact E3 this
 ·refine o0 (wpAny_updatePart ho (E3 ?_));have key:∃m',(s.heap.update a (Obj.dropName name)).Ns a m'/\∀x,x≠name->m' x=m x:=by
   obtain⟨cl,d,dt,sl⟩:=o;subst hd;cases hi:es.findIdx? (·.key.isStr name)with
   |some i=>exact⟨_,⟨_,_,ep+1,P5 _ ho (by simp only[aj9,af4,hi]<;>rfl),(by simp only[aj9,af4,hi]<;>rfl),hk.erase i,fun _=>rfl⟩,fun x hx=>by rw[oj hi hx,hm]⟩
   |none=>exact⟨_,⟨_,_,ep,P5 _ ho (by simp only[aj9,af4,hi]<;>rfl),(by simp only[aj9,af4,hi]<;>rfl),hk,fun _=>rfl⟩,fun x _=>hm x⟩
  obtain⟨m',hm',hx'⟩:=key;have:=hQ _ m' hm' hx' (U6.update ..);rw[hmn]at this;exact this
end
end L2
namespace L2
open PySem PySem.Spec PySem.Calls PyProof.Rows PySem.W PySem.Builtin PySem.Builtin.ObjectAttr PySem.Builtin.Getset_descriptor
def m8(C e:E5) (h:I0):Prop:=∃o,h.get? e=some o/\ExF C o
theorem m8.type{M:ao3}{h:I0}{C e:E5}(x:m8 C e h):Looks M h (typeOf (.ref e)) (.ref C):=by
 obtain⟨o,g,r,_⟩:=x;exact r▸(Looks.ld g).andThen .now
section
variable{prog:J4}{w:O3}{A:L8}{E:s0->E2->Prop}{s:E2}{K:Frag}{x C D:E5}{name:Str}
theorem nH{M:ao3}{nameV:s0}{Q:Unit->E2->Prop}(X:K.In s.heap) (I:m8 D x s.heap) (hb:mroIn K D (.type "BaseException")=some true) (hq:Q () s) :
  F6 M A (checkBuiltinCall "BaseException.__getattribute__" ⟨[.ref x,nameV],[]⟩) Q E s:=by
 obtain⟨hh,g,d,t,os⟩:=s;have hk:builtinKind "BaseException.__getattribute__"=some .slot:=by decide +kernel
 have hsplit:splitId "BaseException.__getattribute__"=some ("BaseException","__getattribute__"):=by decide +kernel
 have ha:=F.args_bexc_ga (.ref x) nameV;have L0:=I.type (M:=M);have L1:=looks_mroIn (M:=M) X hb;simp only[checkBuiltinCall,hk,hsplit];unfold isInstance;refine o0 (o0 (L0.at (L1.at ?_)));simp only[Bool.not_true,K8,if_false];cases hsig:Manifest.signature? "BaseException.__getattribute__" with
 |none=>exact E3 hq
 |some sig =>
  simp only[argsOk,hsig]at ha;have h2:Bind.checkArgs "BaseException.__getattribute__" sig ⟨[.ref x,nameV],[]⟩=ad0 ():=ha;show F6 M A (Bind.checkArgs "BaseException.__getattribute__" sig ⟨[.ref x,nameV],[]⟩) Q E _;rw[h2];exact E3 hq
theorem xY{M:ao3}{h:I0}{a g:s0}(X:K.In h) (ha:findIn K (.ref D) name=some (some a)) (hg:specialIn K a "__get__"=some (some g)) (ht:takesIn K a=some true) :
  Looks M h (find (.ref x) (.ref D) name) (.bind g a):=by
 have L1:=looks_findIn (M:=M) X ha;have L2:Looks M h (getOf (some a)) (some g):=looks_specialIn X hg;have L3:=looks_takesIn (M:=M) X ht;refine L1.andThen (L2.andThen ?_);exact(show Looks M h (dataDescriptor? (some a) (some g)) (some (g,a))from L3.andThen .now).andThen (Looks.tag .now)
theorem uD{g a:s0}{tk:Tok}{P:s0->E2->Prop}(X:K.In s.heap) (I:m8 D x s.heap) (ha:findIn K (.ref D) name=some (some a)) (hg:specialIn K a "__get__"=some (some g)) (ht:takesIn K a=some true)
  (h:F6 (J9 prog w) A (ap2 g [a,.ref x,.ref D]) P E s) :
  F6 (J9 prog w) A (J7.«object.__getattribute__» ⟨[.ref x,.str name tk],[]⟩) (fun fin s'=>match fin with|.done (.ret v)=>P v s'|_=>False) E s:=by
 obtain⟨hh,gg,d,t,os⟩:=s;have L0:=I.type (M:=J9 prog w);have L1:=xY (M:=J9 prog w) (x:=x) X ha hg ht;refine o0 (E3 (o0 (E3 (o0 (L0.at (o0 (L1.at ?_)))))));show F6 _ _ (aj3 [a] (ap2 g [a,.ref x,.ref D]) >>= ret) _ _ _;exact o0 (P4 (L5 h (fun v s' z=>E3 z) fun _ _ z=>z))
theorem xK{g a:s0}{Q:Option s0->E2->Prop}(X:K.In s.heap) (I:m8 D x s.heap) (hga:findIn K (.ref D) "__getattribute__"=some (some (.builtin "BaseException.__getattribute__"))) (hgk:findIn K (.ref D) "__getattr__"=some none) (hb:mroIn K D (.type "BaseException")=some true)
  (ha:findIn K (.ref D) name=some (some a)) (hg:specialIn K a "__get__"=some (some g)) (ht:takesIn K a=some true)
  (h:∀A A2,F6 (J9 prog w) A (ap2 g [a,.ref x,.ref D]) (fun v s'=>F6 (J9 prog w) A2 (handedOut v) (fun v s''=>Q (some v) s'') (fun _ _=>False) s') (fun _ _=>False) { s with toks:=s.toks+1 }) :
  F6 (J9 prog w) A (getAttr? (.ref x) name) Q E s:=by
 obtain⟨hh,gg,d,t,os⟩:=s;have L0:=I.type (M:=J9 prog w);have L1:=looks_findIn (M:=J9 prog w) X hga;have L2:=looks_findIn (M:=J9 prog w) X hgk;unfold getAttr? getAttrBy? getAttrBy;refine o0 (wpAny_mkText (o0 (ai9 (P4 (o0 (L0.at (o0 (L1.at ?_))))))));have hx2:(ae1 "BaseException.__getattribute__"==ae1 "object.__getattribute__")=false:=by decide +kernel
 simp only[hx2,ai0,K8,if_false];unfold getAttrByItsOwn hookBefore;refine o0 (L2.at (o0 (ai9 (P4 ?_))));unfold callGetattribute boundAndCalled;simp only[ak6,K8,if_false];rw[show bindSpecial (.builtin "BaseException.__getattribute__") (.ref x)=ad0 (.builtin "BaseException.__getattribute__",[.ref x])from ae4.ga.bind _];refine o0 (E3 (ad9 ?_));refine ab6 ae4.ga.plain F.entry_bexc_ga (nH X I hb ?_);refine L5 (uD (s:=⟨hh,gg,d,t+1,os⟩) X I ha hg ht (h _ A)) (fun fin s' z=>?_) (fun _ _ z=>z.elim);rcases fin with(_|_|_|_)|_<;>first|exact L5 z (fun v s'' hv=>E3 hv) (fun _ _ z=>z.elim)|exact z.elim
theorem zI{tp:s0}{R:an7->E2->Prop}(X:K.In s.heap) (I:m8 C x s.heap) (hm:mroIn K C (.type "object")=some true)
  (h:R (.ok (.ret (.ref C))) s):ac2 (J9 prog w) A (.call (.builtin "getset_descriptor.__get__") ⟨[.builtin "object.__class__",.ref x,tp],[]⟩) R s:=by
 obtain⟨hh,g,dr,t,os⟩:=s;have L0:=I.type (M:=J9 prog w);have L1:=looks_mroIn (M:=J9 prog w) X hm;refine ab6 KF.slot_gs.plain KF.entry_gs (KF.slot_gs.check _ _ _ _ _ _ _ _ KF.type_class (KF.args_gs _ _ _) ?_);unfold J7.«getset_descriptor.__get__» descrGet;rw[dga_obj];refine o0 (E3 ?_);unfold descrGetter descrCheckInstance descrNameAndClass isInstance;simp only[KF.owner_class]
 repeat lk
 refine⟨ap3.quiet_builtin _ (by decide +kernel),ag6 KF.entry_class ?_⟩;unfold J7.«object.__class__» shownTypeOf
 repeat lk
 exact h
theorem vq(hga:findIn K (.ref D) "__getattribute__"=some (some (.builtin "BaseException.__getattribute__"))) (hgk:findIn K (.ref D) "__getattr__"=some none) (hb:mroIn K D (.type "BaseException")=some true) (hdct:(clsIn K D).isSome=true) (ha:findIn K (.ref D) "__class__"=some (some (.builtin "object.__class__")))
  (hn:specialIn K (.builtin "object.__class__") "__get__"=some (some (.builtin "getset_descriptor.__get__"))) (htk:takesIn K (.builtin "object.__class__")=some true) (hm:mroIn K D (.type "object")=some true) :
  KitX K (.ref x) (.ref D) (m8 D x) where
 ty:=fun _ _ _ I=>I.type
 it:=fun _ _ X _=>by
  obtain⟨cdD,hcD⟩:=T5.mp hdct;unfold clsIn at hcD
  split at hcD
  ·rename_i c' d' cd' sl' ho;intro A' Q' E' s' k q;unfold isType loadHead;exact o0 (ai2 (k _ _ (X _ _ ho)) (E3 q))
  ·cases hcD
 ne:=fun h tp dd its n sl X htp=>by
  obtain⟨cdD,hcD⟩:=T5.mp hdct;refine Bool.eq_false_iff.mpr fun q=>?_;have e:D=tp:=F3.inj (beq_iff_eq.mp q);subst e;unfold clsIn at hcD
  split at hcD
  ·rename_i c' d' cd' sl' ho;have z:=(X _ _ ho).symm.trans htp;cases z
  ·cases hcD
 ca:=fun {_ _ _ _ _ s} X I k=>xK X I hga hgk hb ha hn htk fun _ _=>ad9 (zI (s:={ s with toks:=s.toks+1 }) X I hm (handed_on rfl k))
end
end L2
namespace L2
open PySem PySem.Spec PyProof.Rows
section
variable{X:Cx}{aa:List (E5×Obj)}{σ:St}{H:Hp}{s:E2}
theorem ji{M:ao3}{A:L8}{E:s0->E2->Prop}{i:Nat}{x:Str}{pos:Pos}{Q:Unit->E2->Prop}(I:Inv X aa σ H s) (hN:X.N.Nodup) (hi:X.N[i]?=some x) (hx:X.env.scope.names.lookup x=some .local)
  (h:∀s',Inv X aa (σ.set i none) H s'->Q () s'):F6 M A (do bindName X.env x .none;unbindBehindTheSuite X.env x pos) Q E s:=by
 refine o0 (wpAny_bindName (gD I hN hi (.inl hx) (v:=.non) (u:=.none) rfl (fun s1 I1=>?_) (.inr hx)));have hiσ:i<σ.length:=by rw[I.len];exact(F4.mp hi).1
 unfold unbindBehindTheSuite;refine ag4 ?_;unfold unbindName;refine o0 (wpAny_point (o0 ?_));unfold deleteName;have hl:X.env.kindOf x=some .local:=hx;have hcls:(X.env.scope.kind==.class || (X.env.scope.kind==.module&&X.env.locals != X.env.globals))=false:=by rw[I.ok.kind];rfl
 simp only[hl,hcls];rw[if_neg (by decide)];obtain⟨m,hn,hlk⟩:=id I1.loc;have hm:(m x).isSome=true:=by
  obtain⟨u,r,q⟩:=hlk i x .non hi (by rw[R4 hiσ]) (.inl hx);rcases q with⟨_,e⟩|⟨k,_⟩
  ·rw[e];rfl
  ·rw[hl]at k;rcases k with k|k<;>cases k
 refine o0 (Bh hn fun h2 m2 hn2 hx2 hs=>?_);rw[hm];simp only[Bool.not_true,K8,if_false];refine E3 (wpAny_point (h _ ?_));have cne:=I1.cne;obtain⟨oL,_,_,hoL,_⟩:=id hn;have tracked:HOk X.prog X.w H h2:=fun b ob e=>by
  refine(I1.hok b ob e).stay (fun c w' hc q=>(hs.2 c ?_).trans q) (fun _ q=>q) fun _ _ q=>q;rintro rfl;have hfree:=I1.free;rcases hc with rfl|hc
  ·rw[hfree]at e;cases e
  ·rw[hfree]at hc;cases hc
 refine⟨I1.ok,I1.os,I1.bare,⟨fun b o e n hb hx=>?_,fun b o e n hb hx=>?_,I1.base.free,fun b o e hx=>?_,I1.base.tups,I1.base.frzs,I1.base.tbls⟩,⟨_,hn2,fun j y v' e1 e2 e3=>?_⟩,fun y c e=>?_,I1.free,I1.freeC,fun p hp=>?_,tracked,by simpa using I.len⟩
 ·exact(hs.2 b (F8 (J6 (F2 e) I.ok.above))).trans (I1.base.keep b o e n hb hx)
 ·obtain⟨sl,e1⟩:=I1.base.slot b o e n hb hx;exact⟨sl,(hs.2 b (F8 (J6 (F2 e) I.ok.above))).trans e1⟩
 ·obtain⟨o',e1⟩:=I1.base.there b o e hx;exact⟨o',(hs.2 b (F8 (J6 (F2 e) I.ok.above))).trans e1⟩
 ·by_cases hj:j=i
  ·subst hj;rw[R4 hiσ]at e2;cases e2
  ·rw[U5 (M9 hj)]at e2;obtain⟨u',r',q⟩:=hlk j y v' e1 (by rw[U5 (M9 hj)];exact e2) e3;refine⟨u',r',?_⟩;rcases q with⟨k,e⟩|⟨k,c,e,z⟩
   ·refine .inl ⟨k,?_⟩;have:y≠x:=fun e=>hj (jv hN e1 (e▸hi));rw[hx2 y this];exact e
   ·exact .inr ⟨k,c,e,z.sameBut hs (cne y c e)⟩
 ·obtain⟨w',z⟩:=I1.cell y c e;exact⟨w',z.sameBut hs (cne y c e)⟩
 ·obtain⟨e,n,ne,nf,d⟩:=I1.pin p hp;exact⟨(hs.2 p.1 ne).trans e,n,ne,nf,d⟩
theorem Inv.track{a:E5}{φ:I0->Prop}(I:Inv X aa σ H s) (hn:H a=none) (ho:bg X.prog X.w (upd H a (.ext φ)) s.heap a (.ext φ)) (h0:X.s₀.heap.get? a=none) (hL:a≠X.env.locals) (hc:∀x c,X.env.cells.lookup x=some c->c≠a)
  (hp:∀p∈X.pn++aa,p.1≠a):Inv X aa σ (upd H a (.ext φ)) s:=by
 have ne:∀{b o},H b=some o->upd H a (.ext φ) b=some o:=fun {b o} q=>by
  by_cases z:b=a
  ·rw[z,hn]at q;cases q
  ·rw[aB z];exact q
 refine⟨I.ok,I.os,I.bare,⟨I.base.keep,I.base.slot,fun b o e n x=>?_,I.base.there,fun b xs q=>ne (I.base.tups b xs q),fun b o u q=>ne (I.base.frzs b o u q),fun b ps q=>?_⟩,I.loc,I.cell,?_,fun x c e=>?_,fun p z=>?_,fun b o e=>?_,I.len⟩
 ·have:b≠a:=fun z=>by rw[z,h0]at e;cases e
  rw[aB this];exact I.base.free b o e n x
 ·obtain⟨more,q'⟩:=I.base.tbls b ps q;exact⟨more,ne q'⟩
 ·rw[aB (M9 hL)];exact I.free
 ·rw[aB (hc x c e)];exact I.freeC x c e
 ·obtain⟨h1,h2,h3⟩:=I.pin p z;exact⟨h1,by rw[aB (hp p z)];exact h2,h3⟩
 ·by_cases hb:b=a
  ·subst hb;rw[az]at e;cases e;exact ho
  ·rw[aB hb]at e;exact(I.hok b o e).stay (fun c v _ r=>r) (fun c r=>ne r) fun c xs r=>ne r
end
theorem SR.setN{K:u8}{M:DH}{H:Hp}{σ:St}{Δ:DE}(h:SR K M H σ Δ) (i:Nat):SR K M H (σ.set i none) (Δ.set i none):=by
 refine⟨by simp[h.1],fun j e q=>?_⟩
 by_cases hj:j=i
 ·subst hj
  by_cases hl:j<Δ.length
  ·rw[R4 hl]at q;cases q
  ·rw[List.getElem?_eq_none (by simpa using hl)]at q;cases q
 ·rw[U5 (M9 hj)]at q ⊢;exact h.2 j e q
def AX(j:Nat) (E:cP):cP where
 nx:=fun Δ M=>∃M3,LeM M3 M/\E.nx (Δ.set j none) M3
 bk:=fun Δ M=>∃M3,LeM M3 M/\E.bk (Δ.set j none) M3
 ct:=fun Δ M=>∃M3,LeM M3 M/\E.ct (Δ.set j none) M3
 rt:=fun d M=>∃M3,LeM M3 M/\E.rt d M3
abbrev Cx.caught(X:Cx) (a:E5):Cx:={ X with A:=X.A.mark (some (.ref a)),calm:=false,xe:=fun _ _=>False }
structure sM(K:u8) (C:E5):Prop where
 ga:N8 K (.ref C) "__getattribute__"=some (some (.builtin "BaseException.__getattribute__"))
 gk:N8 K (.ref C) "__getattr__"=some none
 mb:aj0 K C (.type "BaseException")=some true
 cl:(PySem.W.clsIn K C).isSome=true
 ha:N8 K (.ref C) "__class__"=some (some (.builtin "object.__class__"))
 hn:ah6 K (.builtin "object.__class__") "__get__"=some (some (.builtin "getset_descriptor.__get__"))
 tk:PySem.W.takesIn K (.builtin "object.__class__")=some true
 mo:aj0 K C (.type "object")=some true
end L2
namespace L2
open PySem PySem.Spec PySem.Calls PyProof.Rows
end L2
namespace L2
open PySem PySem.Spec PyProof.Rows
end L2
namespace L2
open PySem PySem.Spec PyProof.Rows PySem.Calls PySem.SeqAt
end L2
namespace L2
open PySem PySem.Spec PyProof.Rows PySem.Calls PySem.SeqAt PySem.W
end L2
namespace L2
open PySem PySem.Spec PyProof.Rows PySem.Calls
end L2
namespace L2
open PySem PySem.Spec PyProof.Rows
end L2
namespace L2
open PySem PySem.Spec PyProof.Rows PySem.Calls PySem.SeqAt
end L2
namespace L2
open PySem PySem.Spec PyProof.Rows
end L2
namespace L2
open PySem PySem.Spec PySem.Calls PyProof.Rows PySem.W PySem.Builtin PySem.Builtin.ObjectAttr
section
variable{prog:J4}{w:O3}{A:L8}{E:s0->E2->Prop}{s:E2}{K:Frag}{x D:E5}{ox:Obj}{od:Option Obj}{name:Str}
theorem Ae{expr:Bool}{v:s0}{Q:s0->E2->Prop}(X:K.In s.heap) (I:InstAt s.heap x ox D od) (hga:findIn K (.ref D) "__getattribute__"=some (some (.builtin "BaseException.__getattribute__"))) (hgk:findIn K (.ref D) "__getattr__"=some none) (hb:mroIn K D (.type "BaseException")=some true)
  (J:m8 D x s.heap) (hf:findObj K D od name=some (.value v)) (hh:handedIn v=true) (h:Q v { s with toks:=s.toks+1 }) :
  F6 (J9 prog w) A (getAttr (.ref x) name expr) Q E s:=by
 obtain⟨hh',gg,d,t,os⟩:=s;have L0:=I.type (M:=J9 prog w);have L1:=looks_findIn (M:=J9 prog w) X hga;have L2:=looks_findIn (M:=J9 prog w) X hgk;have L3:=looks_find (M:=J9 prog w) X I hf;unfold getAttr getAttrBy;refine o0 (wpAny_mkText (P4 (o0 (L0.at (o0 (L1.at ?_))))));have hx2:(ae1 "BaseException.__getattribute__"==ae1 "object.__getattribute__")=false:=by decide +kernel
 simp only[hx2,ai0,K8,if_false];unfold getAttrByItsOwn hookBefore;refine o0 (L2.at (o0 (ai9 (P4 ?_))));unfold callGetattribute boundAndCalled;simp only[onTheHeap,ai0,K8,if_false];rw[show bindSpecial (.builtin "BaseException.__getattribute__") (.ref x)=ad0 (.builtin "BaseException.__getattribute__",[.ref x])from ae4.ga.bind _];refine o0 (E3 (ad9 ?_));refine ab6 ae4.ga.plain F.entry_bexc_ga (nH X J hb ?_);refine o0 (E3 (o0 (E3 (o0 (L0.at (o0 (L3.at ?_)))))));refine E3 ?_;show F6 _ _ (handedOut v) _ _ _;rw[handedOut_of hh];exact E3 h
end
end L2
namespace L2
open PySem PySem.Spec PyProof.Rows
theorem m9{prog:J4}{w:O3}{A:L8}{E:s0->E2->Prop}{s:E2}{K:W.Frag}{x C:E5}{ox:Obj}{name:Str}{v:s0}{vs:Array s0}{cd:ClassData}{Q:Unit->E2->Prop}
  (X:K.In s.heap) (he:s.heap.get? x=some ox) (hcls:ox.cls=.ref C) (hdict:ox.dict=none) (hdata:ox.data=.fields vs)
  (hs:W.findIn K (.ref C) "__setattr__"=some (some (.builtin "object.__setattr__"))) (hc:W.clsIn K C=some cd) (hob:W.mroIn K C (.type "object")=some true)
  (href:∀self,refuseLoop self "__setattr__" cd.mro=ad0 ()) (ha:W.findIn K (.ref C) name=some none) (hh:cd.hasDict=true)
  (h:∀(h':I0) (d:E5),(∀b o,b≠x->s.heap.get? b=some o->h'.get? b=some o)->s.heap.objs.size<=d->h'.get? x=some { ox with dict:=some d }->(∃o,h'.get? d=some o/\W.lookIn name o=some (some v))->Q () { s with heap:=h',toks:=s.toks+2 }) :
  F6 (J9 prog w) A (setAttr (.ref x) name v) Q E s:=by
 have I:W.InstAt s.heap x ox C none:=⟨he,hcls,by unfold W.notCls;rw[hdata],by rw[hdict];trivial⟩;refine W.set_plain X I hs ?_;have SF:=F.store_object;have sub:ak0 (J9 prog w) s.heap (isInstance (.ref x) (.type "object")) true:=ak0.andThen (W.InstAt.type I) (W.looks_mroIn X hob);refine ab6 SF.slot.plain SF.entry ?_;have hk:=SF.kind;have hsp:=SF.split;have har:=SF.args (F3 x) (ak8 name s.toks) v;refine W.check_slot (i:="object.__setattr__") (owner:="object") (self:=.ref x) (rest:=[ak8 name s.toks,v]) (kw:=[]) hk hsp sub har ?_;rw[W.osa_eq,refuse_eq];have hm:ak0 (J9 prog w) s.heap (mroOf (.ref C)) cd.mro:=ak0.andThen (W.looks_clsIn X hc) ak0.now;refine o0 (o0 (ai3 (W.InstAt.type I) (o0 (ai3 hm ?_))));rw[href];refine E3 (o0 (ai3 (W.InstAt.type I) (o0 (ai3 (W.looks_findIn X ha) (o0 (ai3 (r:=none) ak0.now ?_))))));obtain⟨oc,od,oda,osl⟩:=ox;obtain rfl:oc=.ref C:=hcls;obtain rfl:od=none:=hdict;obtain rfl:oda=.fields vs:=hdata;obtain⟨hp,g,d,t,os⟩:=s;refine o0 (E3 (o0 (o0 (ai2 he (o0 (ai3 (W.looks_clsIn X hc) ?_))))));rw[hh];refine R0 (aj8 (decide ((!true)=true))) ?_;refine R0 (aj8 (decide ((!true || !typeHasDict (F3 C))=true))) ?_;refine o0 (wpAny_alloc (o0 (wpAny_update (E1 _ he) ?_)));dsimp only;have hsz:hp.get? hp.objs.size=none:=U3 (F5 _);have hne:hp.objs.size≠x:=fun z=>by rw[z]at hsz;dsimp only at he;rw[he]at hsz;cases hsz
 refine E3 ?_;have hx0:(hp.push { cls:=O0 "dict",data:=al0 #[] }).get? x=some { cls:=.ref C,data:=.fields vs,slots:=osl }:=E1 _ he;have hx1:((hp.push { cls:=O0 "dict",data:=al0 #[] }).update x fun o=>{ cls:=o.cls,dict:=some hp.objs.size,data:=o.data,slots:=o.slots }).get? x=some { cls:=.ref C,dict:=some hp.objs.size,data:=.fields vs,slots:=osl } :=
  P5 _ hx0 rfl
 have hd1:((hp.push { cls:=O0 "dict",data:=al0 #[] }).update x fun o=>{ cls:=o.cls,dict:=some hp.objs.size,data:=o.data,slots:=o.slots }).get? hp.objs.size=some { cls:=O0 "dict",data:=al0 #[] }:=by
  rw[K2 _ _ (M9 hne)];exact F0 _ rfl
 have hk1:∀b o,b≠x->hp.get? b=some o->((hp.push { cls:=O0 "dict",data:=al0 #[] }).update x fun o=>{ cls:=o.cls,dict:=some hp.objs.size,data:=o.data,slots:=o.slots }).get? b=some o:=fun b o hb e=>by
  rw[K2 _ _ (M9 hb)];exact E1 _ e
 generalize ((hp.push { cls:=O0 "dict",data:=al0 #[] }).update x fun o=>{ cls:=o.cls,dict:=some hp.objs.size,data:=o.data,slots:=o.slots })=h1 at *
 refine o0 (E3 (o0 ?_));show F6 _ _ (Q8 _ _) _ _ _;refine o0 (o0 (wpAny_askSetting (E3 ?_)));refine o0 (wpAny_mkText (o0 (ai2 hd1 ?_)));dsimp only;refine R0 (show decide (aRefKeyMayBeTheName name #[]=true)=false from rfl) (wpAny_updatePart hd1 ?_);dsimp only;have hd2:=P5 (Obj.putName name (if name.cps.isEmpty=true then 0 else reduceHash ((J9 prog w).w.params.strHash name.cps)) (ak8 name (t+1)) v) hd1 rfl;refine o0 (o0 (ai2 hd2 ?_));refine E3 (E3 ?_);refine h _ hp.objs.size (fun b o hb e=>?_) (F5 _) ?_ ⟨_,hd2,?_⟩
 ·rw[K2 _ _ (fun z=>by subst z;dsimp only at e;rw[hsz]at e;cases e)];exact hk1 b o hb e
 ·rw[K2 _ _ hne];exact hx1
 ·exact(congrArg (W.lookIn name) (W.putName_dict name _ _ v [] 0)).trans (by rw[W.lookIn_dict];simp[W.putL,W.getL,s0.isStr])
def iW(f:Str) (dd:E5) (v:V) (h:I0):Prop:=∃o u,h.get? dd=some o/\PySem.W.lookIn f o=some (some u)/\aF v u
theorem yy{P:J4}{w:O3}{H:Hp}{h:I0}{f:Str}{dd:E5}{v:V}(x:iW f dd v h):bg P w H h dd (.ext (iW f dd v)):=by
 obtain⟨o,u,g,l,r⟩:=x;exact⟨⟨o,u,g,l,r⟩,⟨_,g⟩,fun h1 h2 ⟨o,u,q,l,r⟩ k=>⟨o,u,k _ q,l,r⟩⟩
def mq(x:Option E5) (C e:E5) (h:I0):Prop:=∃a0 osl,h.get? e=some { cls:=.ref C,dict:=x,data:=.fields #[a0,.none,.none,.none,.bool false,.none],slots:=osl }
theorem xl{P:J4}{w:O3}{H:Hp}{h:I0}{y:Option E5}{C e:E5}(x:mq y C e h):bg P w H h e (.ext (mq y C e)):=by
 obtain⟨a0,osl,g⟩:=x;exact⟨⟨a0,osl,g⟩,⟨_,g⟩,fun h1 h2 ⟨b,c,q⟩ k=>⟨b,c,k _ q⟩⟩
section
variable{X:Cx}{xC xW fld:Str}{C W fI:E5}
def tSF(fld:Str) (C:E5) (i j:Nat):TS:=fun D σ H=>∃e v,σ[i]?=some (some (.ref e))/\σ[j]?=some (some v)/\H e=some (.ext (mK C e))/\∀dd,H dd=none->D.nx σ (upd (upd H e (.ext (mq (some dd) C e))) dd (.ext (iW fld dd v)))
theorem Dg(Y:kL X.K X.mg xC xW fld C W fI) (i j:Nat) {x y:Str}{px py pa pos:Pos}(hx:PE X (.Name x px) (sV i)) (hy:PE X (.Name y py) (sV j))
  (hs:Z0 (.Name y py) (some (.Attribute (.Name x px) fld pa)) pos.line X.env=ad0 false:=by rfl):PS X (.Assign [.Attribute (.Name x px) fld pa] (.Name y py) pos) (tSF fld C i j):=by
 intro aa s σ H D I h;obtain⟨e,v,ei,ej,he,q⟩:=h;refine plainObj_wpAny_Assign_Attribute (thn (hy aa s σ H (fun v1 H1=>v1=v/\H1=H) I ⟨v,ej,rfl,rfl⟩) fun u s1 hs1=>?_) hs;obtain⟨v0,_,I1,rv,ev,rfl⟩:=hs1;subst ev;refine thn (hx aa s1 σ _ (fun v1 H1=>v1=.ref e/\H1=_) I1 ⟨_,ei,rfl,rfl⟩) fun u2 s2 hs2=>?_;obtain⟨_,H2,I2,rv2,rfl,rfl⟩:=hs2;obtain rfl:u2=.ref e:=rv2;obtain⟨⟨a0,osl,g⟩,_⟩:=I2.hok e _ he;obtain⟨nm,q',N,bs,sn,sub,ab,col,dd,k0,k1,k2,k3,k5,lC⟩:=Y.lC;refine m9 I2.kIn g rfl rfl rfl Y.sC (cd:={ name:=nm,bases:=bs,mro:=[.ref C,.ref W,.type "ValueError",.type "Exception",.type "BaseException",.type "object"],ns:=N,qualname:=q',hasDict:=true,slotNames:=sn,subclasses:=sub,abstract:=ab,collection:=col }) ?_ Y.mC (fun self=>rS self C W) Y.tC rfl fun h' d' kp hd ge gd=>?_
 ·unfold PySem.W.clsIn;rw[lC]
 ·have I3:=I2.write (t':=s2.toks+2) (x:=e) (e:=e) (o:=.ext (mq (some d') C e)) (by rw[he];trivial) (.inl rfl) (fun b u hb hu=>kp b u hb hu) ⟨_,ge⟩ (xl ⟨_,_,ge⟩);have hn:H2 d'=none:=I2.hok.fresh hd;have ne:d'≠e:=fun z=>by rw[z,he]at hn;cases hn
  obtain⟨o,go,lo⟩:=gd;have n0:s2.heap.get? d'=none:=U3 hd;have some1:∀{b o},s2.heap.get? b=some o->b≠d':=fun e z=>by rw[z,n0]at e;cases e
  refine⟨σ,_,I3.track (a:=d') (φ:=iW fld d' v0) (by rw[aB ne];exact hn) (yy ⟨o,_,go,lo,rv⟩) (U3 (Q0 I2.sz hd)) ?_ (fun x c e=>?_) (fun p hp=>?_),q d' hn⟩
  ·obtain⟨m,⟨o,es,ep,g,_⟩,_⟩:=I2.loc;exact(some1 g).symm
  ·obtain⟨v,o,g,_⟩:=I2.cell x c e;exact some1 g
  ·exact some1 (I2.pin p hp).1
end
def spF(fld:Str) (C:E5):Sp:=fun vs H Q _=>∃e v,vs=[.ref e,v]/\H e=some (.ext (mK C e))/\∀dd,H dd=none->Q .non (upd (upd H e (.ext (mq (some dd) C e))) dd (.ext (iW fld dd v)))
section
variable{X:Cx}{xC xW fld:Str}{C W fI:E5}{aa:List (E5×Obj)}{σ:St}{H:Hp}{s:E2}
def rfQ(fld:Str) (XW:E5->Hp->Prop):List V->Hp->Prop
 |[x],H1=>∀dd,H1 dd=none->XW dd (upd H1 dd (.ext (iW fld dd x)))
 |_,_=>False
def tRF(fld:Str) (XW:E5->Hp->Prop) (te:TE):TS:=fun _ σ H=>te σ H fun x H1=>rfQ fld XW [x] H1
theorem B0{XW:E5->Hp->Prop}{k:Nat}{fd:K1}{ps:List Str}{e:K4}{te:TE}{p pos pc:Pos}(Y:kL X.K X.mg xC xW fld C W fI) (F:aO X.prog X.w X.K X.mg X.base CX0 k fI fd ps (spF fld C)) (hb:bQ X.K fd ps []) (hf:∃oI,X.K.lookup fI=some oI/\oI.cls=O0 "function")
  (hr:bt (k+1) X.A) (hg:Gl X xC) (hc:X.calm=true) (he:PE X e te)
  (hx:∀aa σ H s a dd,Inv X aa σ H s->XW dd H->H a=none->mq (some dd) C a s.heap->X.s₀.heap.get? a=none->X.xe (.ref a) s)
  (hdb:(xC==("__debug__":Str))=false:=by decide) (hst:E8 [e] X.env=(false,Z4 e X.env)::E8 [] X.env:=by rfl) :
  PS X (.Raise (some (.Call (.Name xC p) [e] [] pc)) none pos) (tRF fld XW te):=by
 intro aa s σ H D I h;obtain⟨nm,q',N,bs,sn,sub,ab,col,dd,k0,k1,k2,k3,k5,lC⟩:=Y.lC;obtain⟨oI,lI,cI⟩:=hf;refine o6 (C:=C) (bm:=[.ref W,.type "ValueError",.type "Exception",.type "BaseException",.type "object"]) (hdct:=true) (nm:=nm) (q:=q') (N:=N) (bs:=bs) (sn:=sn) (sub:=sub) (ab:=ab) (col:=col) (dd:=dd) (k0:=k0) (k1:=k1) (k2:=k2) (k3:=k3) (k5:=k5) (newId:="ValueError.__new__") rfl (I.ok.hd hc) (aa8 (fM I hg Y.gC ?_ hdb));have ha:PA X [e] (rn te A0):=bf he dw hst;refine af9 (h₀:=X.base) I.ok.mod.kin Y.kC (thn (ha pc aa s σ H (rfQ fld XW) I h) fun us s1 hs=>⟨?_,?_⟩) hst rfl
 ·obtain⟨vs,H1,I1,rv,_⟩:=hs;exact I1.kIn
 obtain⟨vs,H1,I1,rv,q⟩:=hs;obtain⟨v,rfl⟩:∃v,vs=[v]:=by
  match vs,q with
  |[v],_=>exact⟨v,rfl⟩
 obtain⟨hp,gs,d,t,os⟩:=s1;have hul:us.length=1:=by rw[<-rv.length];rfl
 refine pG PySem.F.excBase_ValueError (Y.tail I1.kIn) (I1.kIn _ _ lC) I1.kIn Y.iC (I1.kIn _ _ lI) cI (fun h' a hsz made=>?_) ?_
 ·obtain⟨kp,new,t',ge,_,_⟩:=made;have I2:Inv X aa σ (upd H1 a (.ext (mK C a))) { heap:=h',gens:=gs,drawn:=d,toks:=t,os:=os }:=I1.laid (t':=t) kp hsz (qo ⟨_,_,ge⟩);have hn1:H1 a=none:=I1.hok.fresh hsz;have r2:ax [V.ref a,v] (F3 a::us):=.cons rfl rv;have hsp:spF fld C [V.ref a,v] (upd H1 a (.ext (mK C a))) (fun u H2=>u=.non/\∃dd,H1 dd=none/\dd≠a/\H2=upd (upd H1 dd (.ext (iW fld dd v))) a (.ext (mq (some dd) C a))) E0:=⟨a,v,rfl,az,fun dd hd=>by
   have ne:dd≠a:=fun z=>by rw[z,az]at hd;cases hd
   rw[aB ne]at hd;refine⟨rfl,dd,hd,ne,?_⟩;rw[qE];funext b;unfold upd
   by_cases z1:b=dd
   ·subst z1;simp[ne]
   ·simp[z1]⟩
  have hpl:(F3 a::us++[]).length=ps.length:=by
   rw[R7,<-r2.length];exact F.len _ _ _ _ hsp
  refine ad9 (ad5 (F.run _ X.stack _ _ ⟨F3 a::us,[]⟩ (F3 a::us) _ _ E0 (hr.make C us []) (I2.env0.make C us []) (by simpa using hb _ (F3 a::us) I2.kIn hpl) r2 hsp) fun r s' hq'=>?_);cases r with
  |error e=>exact hq'.elim
  |ok fl =>
   cases fl with
   |ret u =>
    obtain⟨v3,H3,I3,rv3,rfl,d3,hd3,ne3,rfl⟩:=I2.after hq';obtain rfl:u=K0:=rv3;obtain⟨a0,osl,g3⟩:=(I3.hok a _ az).1;refine⟨rfl,a,_,a0,osl,rfl,I3.kIn _ _ lC,g3,?_⟩;have hna:upd H1 d3 (.ext (iW fld d3 v)) a=none:=by rw[aB (M9 ne3)];exact hn1
    refine hx aa σ _ s' a d3 (I3.forget hna) (q d3 hd3) hna ⟨a0,osl,g3⟩ ?_;exact U3 (Q0 I1.sz hsz)
   |next=>exact Q6 hq'
   |brk=>exact Q6 hq'
   |cont=>exact Q6 hq'
 ·rw[O5,hul];exact ak1 (lA (by decide))
end
def ExG(x:Option E5) (C:E5) (o:Obj):Prop:=ExF C o/\o.dict=x
theorem df{x:Option E5}{C:E5}:fb (ExG x C):=fun o v ⟨h1,h2⟩=>⟨pE o v h1,by
 obtain⟨c,d,da,sl⟩:=o;cases da<;>exact h2⟩
def CB(x:Option E5) (C a T:E5) (h0 h:I0):Prop:=∃oe vs oT ts,h.get? a=some oe/\ExG x C oe/\oe.data=.fields vs/\vs[1]?=some (.ref T)/\h0.get? T=none/\T≠a/\h.get? T=some oT/\oT.data=.fields ts/\ts[3]?=some .none
def CX2(P:J4) (w:O3) (Cs:List E5):CXT:=fun outer H s E e s'=>∃(i:Nat) (C:E5) (x:Option E5) (a T:E5) (H':Hp),Cs[i]?=some C/\e=.ref a/\s'.os=s.os/\ai4 s'.gens/\Un (frs outer) [] H H' s.heap s'.heap/\HOk P w H' s'.heap/\s.heap.get? a=none/\H' a=none/\H' T=none/\CB x C a T s.heap s'.heap/\E (.ref C) x H'
section
variable{P:J4}{w:O3}{K:u8}{mg:Str->Option s0}{base:I0}{N:List Str}{qual:Str}{scope:aa5}{f:E5}{cd:s0}{A:L8}{outer:List Env}{s:E2}{H:Hp}{E:XK}{Cs:List E5}
theorem zP{aa:List (E5×Obj)}{σ:St}{H1:Hp}{s1:E2}{a C:E5}{x0:Option E5}{i:Nat}(I:Inv (fm (CX2 P w Cs) P w K mg base N qual scope f cd A outer s H E) aa σ H1 s1) (hC:Cs[i]?=some C) (q:E (.ref C) x0 H1) (hn:H1 a=none) (x:mq x0 C a s1.heap) (h0:s.heap.get? a=none) :
  (fm (CX2 P w Cs) P w K mg base N qual scope f cd A outer s H E).xe (.ref a) s1:=by
 obtain⟨a0,osl,g⟩:=x;have hst:=I.stack;have hfr:∀b∈frs (W9 qual scope s.heap.objs.size f cd::outer),∃o,s1.heap.get? b=some o/\∀vs:Array s0,o.data≠ab4 vs:=fun b hb=>(hst.mem hb).2;have hany:a∉frs (W9 qual scope s.heap.objs.size f cd::outer):=fun hb=>by
  obtain⟨o,e,d⟩:=hfr a hb;rw[g]at e;cases e;exact d _ rfl
 refine oG df (base:=ad2 s1.heap (a::frs (W9 qual scope s.heap.objs.size f cd::outer))) I.ok.frames ?_ (L:=s.heap.objs.size) rfl g ?_ ?_ rfl rfl ⟨⟨rfl,_,rfl,rfl⟩,rfl⟩ fun h' lf=>?_
 ·exact Z6 hst fun env he b hb=>F7 _ (S4.mpr ⟨env,he,hb⟩)
 ·exact fun b o e=>aa4 _ e
 ·exact Q4 _ P0
 obtain⟨st,ff,⟨oe,vs,T,oT,ts,t1,t2,t3,t4,t5,t6,t7,t8,t9⟩,up⟩:=lf;have keep:∀b o,s1.heap.get? b=some o->b≠a->b∉frs (W9 qual scope s.heap.objs.size f cd::outer)->h'.get? b=some o:=fun b o e hb hf=>st b o (P7 _ e (fun z=>(E9.mp z).elim hb hf));have hT:s1.heap.get? T=none:=by
  cases e:s1.heap.get? T with
  |none=>rfl
  |some o =>
   by_cases hf:T∈frs (W9 qual scope s.heap.objs.size f cd::outer)
   ·obtain⟨o',e',d'⟩:=hfr T hf;obtain⟨sl,e2⟩:=up T o' e' d';rw[t7]at e2;cases e2;exact absurd t8 (d' ts)
   ·rw[P7 _ e (fun z=>(E9.mp z).elim t6 hf)]at t5;cases t5
 have un:Un (frs outer) [] H H1 s.heap s1.heap:=I.base;have hfree:∀b∈frs (W9 qual scope s.heap.objs.size f cd::outer),H1 b=none:=I.stkFree;have hsz:∀b o,s.heap.get? b=some o->b∈frs (W9 qual scope s.heap.objs.size f cd::outer)->b∈frs outer:=fun b o e hb=>by
  rcases E9.mp hb with z|z
  ·subst z;exact absurd (F2 e) (S8 _)
  ·exact z
 refine⟨i,C,x0,a,T,H1,hC,rfl,I.os,I.bare,⟨fun b o e n h1 h2=>?_,fun b o e n h1 h2=>?_,fun b o e n h2=>un.free b o e n h2,fun b o e h2=>?_,un.tups,un.frzs,un.tbls⟩,fun b o e=>?_,h0,hn,?_,⟨oe,vs,oT,ts,t1,t2,t3,t4,?_,t6,t7,t8,t9⟩,q⟩
 ·exact keep b o (un.keep b o e n h1 h2) (fun z=>by rw[z,h0]at e;cases e) fun z=>h1 (hsz b o e z)
 ·obtain⟨sl,e1⟩:=un.slot b o e n h1 h2;obtain⟨o',e',d'⟩:=hfr b (F7 _ h1);rw[e1]at e';cases e';obtain⟨sl',e2⟩:=up b _ e1 d';exact⟨sl',e2⟩
 ·obtain⟨o1,e1⟩:=un.there b o e h2
  by_cases hf:b∈frs (W9 qual scope s.heap.objs.size f cd::outer)
  ·obtain⟨o',e',d'⟩:=hfr b hf;obtain⟨sl',e2⟩:=up b _ e' d';exact⟨_,e2⟩
  ·exact⟨o1,keep b o1 e1 (fun z=>by rw[z,h0]at e;cases e) hf⟩
 ·refine(I.hok b o e).stay (fun c v hc r=>keep c v r ?_ ?_) (fun c r=>r) fun c xs r=>r
  ·rintro rfl;rcases hc with rfl|hc
   ·rw[hn]at e;cases e
   ·rw[hn]at hc;cases hc
  ·intro hf;have:=hfree c hf;rcases hc with rfl|hc
   ·rw[this]at e;cases e
   ·rw[this]at hc;cases hc
 ·cases e:H1 T with
  |none=>rfl
  |some o =>
   obtain⟨o1,e1⟩:=(I.hok T o e).is;rw[hT]at e1;cases e1
 ·cases e:s.heap.get? T with
  |none=>rfl
  |some o =>
   obtain⟨o1,e1⟩:=un.there T o e (by simp);rw[hT]at e1;cases e1
theorem Co:ft (CX2 P w Cs) (fm (CX2 P w Cs) P w K mg base N qual scope f cd A outer s H E) (fun c x H'=>E c x H'):=by
 intro aa σ H1 s1 e s' I h;obtain⟨i,C,dd,a,T,H',hC,rfl,os,bare,un1,hok,h0,hna,hnT,fl,qx⟩:=h;have I':Inv (fm (CX2 P w Cs) P w K mg base N qual scope f cd A outer s H E) aa σ H' s':=I.call' (ch:=[]) os un1 hok bare fun b z=>absurd z (by simp);obtain⟨oe,vs,oT,ts,f1,f2,f3,f4,f5,f6,f7,f8,f9⟩:=fl;have hst:=I'.stack;have hfr:∀b∈frs (W9 qual scope s.heap.objs.size f cd::outer),∃o,s'.heap.get? b=some o/\∀vs:Array s0,o.data≠ab4 vs:=fun b hb=>(hst.mem hb).2;have g0:s.heap.get? a=none:=by
  cases e:s.heap.get? a with
  |none=>rfl
  |some o =>
   obtain⟨o1,e1⟩:=I.base.there a o e (fun z=>nomatch z);rw[h0]at e1;cases e1
 have gT:s.heap.get? T=none:=by
  cases e:s.heap.get? T with
  |none=>rfl
  |some o =>
   obtain⟨o1,e1⟩:=I.base.there T o e (fun z=>nomatch z);rw[f5]at e1;cases e1
 refine pb df (base:=ad2 s'.heap (a::T::frs (W9 qual scope s.heap.objs.size f cd::outer))) I'.ok.frames
  (Z6 hst fun env he b hb=>F7 _ (F7 _ (S4.mpr ⟨env,he,hb⟩))) (L:=s.heap.objs.size) rfl
  ⟨oe,vs,T,oT,ts,f1,f2,f3,f4,Q4 _ (by simp),f6,f7,f8,f9⟩ (fun b o e=>aa4 _ e) (Q4 _ (by simp)) fun h' fly=>?_
 obtain⟨st,ff,⟨oe2,vs2,T2,oT2,ts2,t1,t2,t3,t4,t5,t6,t7,t8,t9⟩,up⟩:=fly;have keep:∀b o,s'.heap.get? b=some o->b≠a->b≠T->b∉frs (W9 qual scope s.heap.objs.size f cd::outer)->h'.get? b=some o:=fun b o e hb hb2 hf=>st b o (P7 _ e (fun z=>by
  rcases E9.mp z with z|z
  ·exact hb z
  rcases E9.mp z with z|z
  ·exact hb2 z
  ·exact hf z))
 have hT2:T2=T∨s'.heap.get? T2=none:=by
  by_cases z:T2=T
  ·exact .inl z
  ·right;cases e:s'.heap.get? T2 with
   |none=>rfl
   |some o =>
    by_cases hf:T2∈frs (W9 qual scope s.heap.objs.size f cd::outer)
    ·obtain⟨o',e',d'⟩:=hfr T2 hf;obtain⟨sl,e2⟩:=up T2 o' e' d';rw[t7]at e2;cases e2;exact absurd t8 (d' ts2)
    ·rw[P7 _ e (fun z'=>by
      rcases E9.mp z' with z'|z'
      ·exact t6 z'
      rcases E9.mp z' with z'|z'
      ·exact z z'
      ·exact hf z')]at t5
     cases t5
 have un:Un (frs outer) [] H H' s.heap s'.heap:=I'.base;have hfree:∀b∈frs (W9 qual scope s.heap.objs.size f cd::outer),H' b=none:=I'.stkFree;have hsz:∀b o,s.heap.get? b=some o->b∈frs (W9 qual scope s.heap.objs.size f cd::outer)->b∈frs outer:=fun b o e hb=>by
  rcases E9.mp hb with z|z
  ·subst z;exact absurd (F2 e) (S8 _)
  ·exact z
 have na:∀{b o},s.heap.get? b=some o->b≠a:=fun e z=>by rw[z,g0]at e;cases e
 have nT:∀{b o},s.heap.get? b=some o->b≠T:=fun e z=>by rw[z,gT]at e;cases e
 refine⟨i,C,dd,a,T2,H',hC,rfl,I'.os,I'.bare,⟨fun b o e n h1 h2=>?_,fun b o e n h1 h2=>?_,fun b o e n h2=>un.free b o e n h2,fun b o e h2=>?_,un.tups,un.frzs,un.tbls⟩,fun b o e=>?_,g0,hna,?_,⟨oe2,vs2,oT2,ts2,t1,t2,t3,t4,?_,t6,t7,t8,t9⟩,qx⟩
 ·exact keep b o (un.keep b o e n h1 h2) (na e) (nT e) fun z=>h1 (hsz b o e z)
 ·obtain⟨sl,e1⟩:=un.slot b o e n h1 h2;obtain⟨o',e',d'⟩:=hfr b (F7 _ h1);rw[e1]at e';cases e';obtain⟨sl',e2⟩:=up b _ e1 d';exact⟨sl',e2⟩
 ·obtain⟨o1,e1⟩:=un.there b o e h2
  by_cases hf:b∈frs (W9 qual scope s.heap.objs.size f cd::outer)
  ·obtain⟨o',e',d'⟩:=hfr b hf;obtain⟨sl',e2⟩:=up b _ e' d';exact⟨_,e2⟩
  ·exact⟨o1,keep b o1 e1 (na e) (nT e) hf⟩
 ·refine(I'.hok b o e).stay (fun c v hc r=>keep c v r ?_ ?_ ?_) (fun c r=>r) fun c xs r=>r
  ·rintro rfl;rcases hc with rfl|hc
   ·rw[hna]at e;cases e
   ·rw[hna]at hc;cases hc
  ·rintro rfl;rcases hc with rfl|hc
   ·rw[hnT]at e;cases e
   ·rw[hnT]at hc;cases hc
  ·intro hf;have:=hfree c hf;rcases hc with rfl|hc
   ·rw[this]at e;cases e
   ·rw[this]at hc;cases hc
 ·rcases hT2 with rfl|z
  ·exact hnT
  ·cases e:H' T2 with
   |none=>rfl
   |some o =>
    obtain⟨o1,e1⟩:=(I'.hok T2 o e).is;rw[z]at e1;cases e1
 ·rcases hT2 with rfl|z
  ·exact gT
  ·cases e:s.heap.get? T2 with
   |none=>rfl
   |some o =>
    obtain⟨o1,e1⟩:=un.there T2 o e (by simp);rw[z]at e1;cases e1
end
def xA(i:Nat) (x:Option E5):D:=.box (.dk [.inl (i:Int)]) (match x with|none=>[]|some d=>[.ref d,.ref d])
def isX:D->Option (Nat×Option E5)
 |.box (.dk [.inl i]) []=>some (i.toNat,none)
 |.box (.dk [.inl i]) [.ref d,.ref _]=>some (i.toNat,some d)
 |_=>none
theorem bD{i:Nat}{x:Option E5}:isX (xA i x)=some (i,x):=by cases x<;>simp[xA,isX]
theorem tU{d:D}{i:Nat}{x:Option E5}(h:isX d=some (i,x)):(∃j:Int,d=.box (.dk [.inl j]) [])∨∃(j:Int) (a b:E5),d=.box (.dk [.inl j]) [.ref a,.ref b]:=by
 unfold isX at h
 split at h
 ·exact .inl ⟨_,rfl⟩
 ·exact .inr ⟨_,_,_,rfl⟩
 ·cases h
theorem rM{K:u8}{M:DH}{H:Hp}{v:V}{d:D}(h:Rep K M H d v):isX d=none:=by
 cases e:isX d with
 |none=>rfl
 |some p =>
  rcases tU (i:=p.1) (x:=p.2) e with⟨j,rfl⟩|⟨j,a,b,rfl⟩
  ·obtain⟨a,vs,_,⟨hl,_⟩,r⟩:=h;simp only[am]at r;subst r;cases hl
  ·obtain⟨a,vs,_,⟨hl,_⟩,r⟩:=h;have:=r.length;simp at this hl
   lia
def DP(f:Str) (dd:E5):List V->I0->Prop
 |[v]=>iW f dd v
 |_=>fun _=>False
def iV(f:Str) (dd:E5) (d:D):HD:=.ext (DP f dd) [d]
def B7(K:u8) (Cs:List E5) (XW:E5->Option E5->Hp->Prop) (t:TSd):TS:=fun D σ H=>∃(Δ:DE) (M:DH) (E:cP),SR K M H σ Δ/\HR K M H/\t E Δ M/\UpE K E D M H/\∀(i:Nat) (x:Option E5) (C:E5) M' H',E.rt (xA i x) M'->Cs[i]?=some C->Ext M H M' H'->HR K M' H'->XW C x H'
def PSy(X:Cx) (Cs:List E5) (XW:E5->Option E5->Hp->Prop) (st:Z7) (t:TSd):Prop:=PS X st (B7 X.K Cs XW t)
def mM(X:Cx) (Cs:List E5) (XW:E5->Option E5->Hp->Prop) (st:List Z7) (t:TSd):Prop:=PSs X st (B7 X.K Cs XW t)
section
variable{X:Cx}{XW:E5->Option E5->Hp->Prop}{Cs:List E5}{a b c e:K4}{te:TEd}{pos:Pos}{st:Z7}{rest:List Z7}{t u:TSd}{xC xW fld:Str}{C W fI:E5}
theorem Di(h:QSd X st t):PSy X Cs XW st t:=by
 rw[QSd.eq]at h;exact PS.conv h fun D σ H ⟨Δ,M,E,sr,hr,q,k,_⟩=>⟨Δ,M,E,sr,hr,q,k⟩
theorem Ac:mM X Cs XW [] tR:=qY.conv fun D σ H ⟨Δ,M,E,sr,hr,q,u,_⟩=>u.nx Δ M σ H q (Ext.refl _ _) hr sr
theorem eN(h1:PSy X Cs XW st t) (h2:mM X Cs XW rest u):mM X Cs XW (st::rest) (yi t u) :=
 (jo h1 h2).conv fun D σ H ⟨Δ,M,E,sr,hr,q,k,x⟩=>⟨Δ,M,{ E with nx:=u E },sr,hr,q,⟨fun Δ' M' σ' H' q' e' hr' sr'=>⟨Δ',M',E,sr',hr',q',k.ext e',fun i0 x0 C0 M'' H'' z1 z0 z2 z3=>x i0 x0 C0 M'' H'' z1 z0 (e'.trans z2) z3⟩,k.bk,k.ct,k.rt⟩,x⟩
theorem j7(h1:PSy X Cs XW st t):mM X Cs XW [st] t:=mP h1
theorem DL{sa sb:List Z7}{tc:TTd}(hc:QTd X c tc) (ha:mM X Cs XW sa t) (hb:mM X Cs XW sb u):PSy X Cs XW (.If c sa sb pos) (zQ tc t u):=by
 rw[QTd.eq]at hc;exact(zf hc ha hb).conv fun D σ H ⟨Δ,M,E,sr,hr,q,k,x⟩=>⟨Δ,M,_,sr,hr,q,fun b M1 H1 q1 e1 hr1=>by
  cases b with
  |true=>simp only[if_true]at q1 ⊢;exact⟨Δ,M1,E,sr.ext e1,hr1,q1,k.ext e1,fun i0 x0 C0 M'' H'' z1 z0 z2 z3=>x i0 x0 C0 M'' H'' z1 z0 (e1.trans z2) z3⟩
  |false=>simp only[K8,if_false]at q1 ⊢;exact⟨Δ,M1,E,sr.ext e1,hr1,q1,k.ext e1,fun i0 x0 C0 M'' H'' z1 z0 z2 z3=>x i0 x0 C0 M'' H'' z1 z0 (e1.trans z2) z3⟩⟩
theorem Do{tg iter:K4}{body:List Z7}{wi:TId}{g:GD}{tb:TSd}(hp:T3 (J9 X.prog X.w) X.A X.env X.xe) (hc:X.calm=true) (hi:QId X tg iter wi) (hg:PGd X tg g) (hb:mM X Cs XW body tb)
  (hs:∀x,O1 iter X.env x=ad0 x:=by intro _;rfl):PSy X Cs XW (.For tg iter body [] pos) (AQ wi g tb):=by
 rw[QId.eq]at hi;obtain⟨gv,pg,kg⟩:=hg;refine(uC hp hc hi pg hb hs).conv fun D σ H hh=>?_;obtain⟨Δ,M,E,sr,hr,q,k,xx⟩:=hh;refine⟨Δ,M,_,sr,hr,q,fun ds M1 J H1 q1 e1 hr1 it=>?_⟩;refine⟨fun i m σ' H'=>∃ Δ' M',m=ds.length-i/\i<=ds.length/\Ext M1 H1 M' H'/\HR X.K M' H'/\SR X.K M' H' σ' Δ'/\cE g tb E (ds.drop i) Δ' M',⟨ds.length,Δ,M1,by simp,O4 _,Ext.refl _ _,hr1,sr.ext e1,q1⟩,?_⟩;rintro i m σ2 H2 ⟨Δ2,M2,rfl,hi2,e2,hr2,sr2,f2⟩;obtain⟨go,stop⟩:=it M2 H2 e2 hr2 i
 by_cases hlt:i<ds.length
 ·have hd:ds[i]?=some ds[i]:=by simp[hlt]
  obtain⟨g1,y1⟩:=go _ hd;rw[V7 hlt]at f2;simp only[cE]at f2;obtain⟨Δ3,eg,f3⟩:=f2;refine .inr ⟨g1,fun σ' H'=>∃m',m'<ds.length-i/\∃ Δ' M',m'=ds.length-(i+1)/\i+1<=ds.length/\Ext M1 H1 M' H'/\HR X.K M' H'/\SR X.K M' H' σ' Δ'/\cE g tb E (ds.drop (i+1)) Δ' M',fun σ' H' z=>z,fun x H' hy=>?_⟩;obtain⟨e3,hr3,rx⟩:=y1 x H' hy;refine kg _ x σ2 Δ2 Δ3 M2 H' _ (sr2.ext e3) hr3 rx eg fun σ3 sr3=>?_;refine⟨Δ3,M2,_,sr3,hr3,f3,⟨fun Δ' M' σ' H'' q' e' hr' sr'=>?_,fun Δ' M' σ' H'' q' e' hr' sr'=>?_,fun Δ' M' σ' H'' q' e' hr' sr'=>?_,fun d M' v H'' q' e' hr' rv'=>?_⟩,fun i0 x0 C0 M'' H'' z1 z0 z2 z3=>xx i0 x0 C0 M'' H'' z1 z0 (((e1.trans e2).trans e3).trans z2) z3⟩
  ·exact⟨_,by lia,Δ',M',rfl,hlt,(e2.trans e3).trans e',hr',sr',q'⟩
  ·exact k.nx Δ' M' σ' H'' q' (((e1.trans e2).trans e3).trans e') hr' sr'
  ·exact⟨_,by lia,Δ',M',rfl,hlt,(e2.trans e3).trans e',hr',sr',q'⟩
  ·exact k.rt d M' v H'' q' (((e1.trans e2).trans e3).trans e') hr' rv'
 ·rw[Z5 (by lia)]at f2;exact .inl ⟨stop (by lia),k.nx Δ2 M2 σ2 H2 f2 (e1.trans e2) hr2 sr2⟩
def qN(fld:Str) (i:Nat) (te:TEd):TSd:=fun E Δ M=>te Δ M fun d M1=>∀dd,M1 dd=none->∃M2,LeM M2 (ar M1 dd (iV fld dd d))/\E.rt (xA i (some dd)) M2
theorem DS(i:Nat) {k:Nat}{fd:K1}{ps:List Str}{p pc:Pos}(hC:Cs[i]?=some C) (Y:kL X.K X.mg xC xW fld C W fI) (F:aO X.prog X.w X.K X.mg X.base CX0 k fI fd ps (spF fld C)) (hb:bQ X.K fd ps []) (hf:∃oI,X.K.lookup fI=some oI/\oI.cls=O0 "function")
  (hr:bt (k+1) X.A) (hg:Gl X xC) (hc:X.calm=true) (he:QEd X e te)
  (hx:∀aa σ H s a x,Inv X aa σ H s->XW C x H->H a=none->mq x C a s.heap->X.s₀.heap.get? a=none->X.xe (.ref a) s)
  (hdb:(xC==("__debug__":Str))=false:=by decide) (hst:E8 [e] X.env=(false,Z4 e X.env)::E8 [] X.env:=by rfl) :
  PSy X Cs XW (.Raise (some (.Call (.Name xC p) [e] [] pc)) none pos) (qN fld i te):=by
 rw[QEd.eq]at he;refine(B0 (XW:=fun dd H=>XW C (some dd) H) Y F hb hf hr hg hc he (fun aa σ H s a dd=>hx aa σ H s a (some dd)) hdb hst).conv fun D σ H ⟨Δ,M,E,sr,hr,q,k,x⟩=>⟨Δ,M,_,sr,hr,q,fun d M1 v H1 q1 e1 hr1 rv dd hd=>?_⟩;obtain⟨M2,hle,q2⟩:=q1 dd (hr1.fresh hd);have e3:Ext M1 H1 (ar M1 dd (iV fld dd d)) (upd H1 dd (.ext (iW fld dd v))):=Ext.own hd;have hr3:HR X.K (ar M1 dd (iV fld dd d)) (upd H1 dd (.ext (iW fld dd v))):=hr1.put e3 ⟨[v],az,by simp only[am];exact⟨_,_,rfl,rv.ext e3,rfl⟩⟩;exact x i (some dd) C M2 _ q2 hC ((e1.trans e3).trans (Ext.le hle)) (hr3.le hle)
end
def spY(K:u8) (n:Nat) (S:SpD) (Cs:List E5):Sp:=fun vs H Q E=>∃(ds:List D) (M:DH) (R:D->DH->Prop),ds.length=n/\am K M H ds vs/\HR K M H/\S ds M R/\(∀d M' v H',R d M'->Ext M H M' H'->HR K M' H'->Rep K M' H' d v->Q v H') /\
 ∀(i:Nat) (x:Option E5) (C:E5) M' H',R (xA i x) M'->Cs[i]?=some C->Ext M H M' H'->HR K M' H'->E (.ref C) x H'
section
variable{P:J4}{w:O3}{K:u8}{mg:Str->Option s0}{base:I0}{f:E5}{fd:K1}
theorem Fun.okY{x qual:Str}{st:Z7}{f:E5}{fd:K1}{N ps:List Str}{k n:Nat}{S:SpD}{Cs:List E5}(F:Fun K x qual st f fd) (hn:ps.length=n) (Sc:aA N ps (ai st))
  (hbody:∀ (cdv:s0) (A:L8) (outer:List Env) (s:E2) (H:Hp) (E:XK),bt k (A.deeper (W9 qual (ai st) s.heap.objs.size f cdv)) →
   ∃t:TSd,mM (fm (CX2 P w Cs) P w K mg base N qual (ai st) f cdv A outer s H E) Cs (fun C x H'=>E (.ref C) x H') (bZ st) t/\∀ds M R,ds.length=n->S ds M R->t { nx:=fun _ M'=>R .non M',rt:=R } (eO N ds) M):aO P w K mg base (CX2 P w Cs) (k+1) f fd ps (spY K n S Cs):=by
 obtain⟨oc,od,kV,doc,pm,an,cdv,ct,osl,rfl,lk,hcd⟩:=F.ex;refine ze lk hcd Sc (fun vs H Q E h=>?_) fun A outer s H vs Q E hr h=>?_
 ·obtain⟨ds,M,R,hl,r,_⟩:=h;rw[hn,<-r.length];exact hl
 obtain⟨t,ht,hq⟩:=hbody cdv A outer s H E hr;obtain⟨ds,M,R,hl,r,hrr,q,k',kx⟩:=h;exact⟨_,ht,eO N ds,M,_,nU r,hrr,hq ds M R hl q,⟨fun Δ' M' σ' H' q' e' hr' _=>k' .non M' .non H' q' e' hr' (by simp[Rep]),fun _ _ _ _ q'=>Q6 q',fun _ _ _ _ q'=>Q6 q',fun d M' v H' q' e' hr' rv=>k' d M' v H' q' e' hr' rv⟩,kx⟩
end
structure FnY(P:J4) (w:O3) (K:u8) (mg:Str->Option s0) (base:I0) (x:Str) (k n:Nat) (S:SpD) (Cs:List E5):Prop where
 ex:∃(f:E5) (fd:K1) (ps:List Str),aO P w K mg base (CX2 P w Cs) k f fd ps (spY K n S Cs)/\mg x=some (.ref f)/\S5 K (.ref f)=true/\bQ K fd ps []
theorem fgY{P:J4}{w:O3}{K:u8}{mg:Str->Option s0}{base h:I0}{x:Str}{st:Z7}{f:E5}{Cs:List E5}{fd:K1}{S:SpD}{k:Nat}{ps:List Str}{n:Nat}(X:K.In h) (G:h.Ns F9 mg) (i:bH K x st f fd) (o:aO P w K mg base (CX2 P w Cs) k f fd ps (spY K n S Cs)) (b:bQ K fd ps []):FnY P w K mg base x k n S Cs:=⟨_,_,_,o,O2 X G i.a,i.F.kp,b⟩
section
variable{M:ao3}{A:L8}{E:s0->E2->Prop}
variable{nm q nm2 q2:Str}{C N W N2:E5}{bs bm bs2 bm2:List s0}{hdct hdct2:Bool}{sn sn2:List Str}{sub sub2:List s0}{ab ab2:Bool}{col col2:Option Bool}{dd dd2:Option E5}{k0 k1 k2 k3 k5 l0 l1 l2 l3 l5:Option s0}{newId newId2:String}
theorem yv{h:I0}{g:Array al4}{d:Drawn}{t:Nat}{os:OsState}{e:E5}{oe:Obj}{Q:Bool->E2->Prop}
  (hC:h.get? C=some (T1 nm q C N bs bm hdct sn sub ab col dd k0 k1 k2 k3 k5 newId)) (hW:h.get? W=some (T1 nm2 q2 W N2 bs2 bm2 hdct2 sn2 sub2 ab2 col2 dd2 l0 l1 l2 l3 l5 newId2)) (he:h.get? e=some oe) (hcls:oe.cls=.ref C)
  (et:bm2.contains (.type "BaseException")=true) (hcC:(F3 C::bm).contains (.ref W)=true)
  (hq:Q true ⟨h,g,d,t,os⟩):F6 M A (excMatches (.ref e) (.ref W)) Q E ⟨h,g,d,t,os⟩:=by
 have hcB:(F3 W::bm2).contains (.type "BaseException")=true:=by rw[List.contains_cons,et,Bool.or_true]
 have f:=tc_notTuple;unfold excMatches
 repeat (first|(with_reducible refine S2 he ?_;rw[hcls])|with_reducible refine S2 hW ?_|with_reducible refine S2 hC ?_|(with_reducible refine af3 hW ?_;rw[hcB])|(with_reducible refine af3 hC ?_;rw[hcC])|wp_step)
 exact hq
end
def ExX(x:Option E5) (C a:E5) (h:I0):Prop:=∃o,h.get? a=some o/\ExG x C o
def ExY(Cs:List E5) (i:Nat) (x:Option E5) (a:E5) (h:I0):Prop:=∃C,Cs[i]?=some C/\ExX x C a h
theorem BD{P:J4}{w:O3}{H:Hp}{h:I0}{Cs:List E5}{i:Nat}{x:Option E5}{a:E5}(z:ExY Cs i x a h):bg P w H h a (.ext (ExY Cs i x a)):=by
 obtain⟨C,hC,o,g,r⟩:=z;exact⟨⟨C,hC,o,g,r⟩,⟨_,g⟩,fun h1 h2 ⟨C,hC,o,q,r⟩ k=>⟨C,hC,o,k _ q,r⟩⟩
def exY(Cs:List E5) (i:Nat) (x:Option E5) (a:E5):HD:=.ext (fun _=>ExY Cs i x a) []
section
variable{X:Cx}{aa:List (E5×Obj)}{σ:St}{H1 H':Hp}{s1 s':E2}{C a T:E5}{y:Option E5}{Cs:List E5}{ci:Nat}
theorem yw{xW n:Str}{W:E5}{p pos:Pos}{b0:Z7}{suite:List Z7}{Q:Flow->E2->Prop}{E':s0->E2->Prop}(I1:Inv X aa σ H1 s1) (hsk:X.stack=X.env::X.outer) (hfm:X.env.frame=some X.env.locals) (hg:Gl X xW) (hm:X.mg xW=some (.ref W))
  (lC:∃nm q N bs bm hd sn sub ab col dd k0 k1 k2 k3 k5 newId,X.K.lookup C=some (T1 nm q C N bs bm hd sn sub ab col dd k0 k1 k2 k3 k5 newId)/\(F3 C::bm).contains (.ref W)=true)
  (lW:∃nm q N bs bm hd sn sub ab col dd k0 k1 k2 k3 k5 newId,X.K.lookup W=some (T1 nm q W N bs bm hd sn sub ab col dd k0 k1 k2 k3 k5 newId)/\bm.contains (.type "BaseException")=true)
  (os:s'.os=s1.os) (bare:ai4 s'.gens) (un:Un (frs X.stack) [] H1 H' s1.heap s'.heap) (hok:HOk X.prog X.w H' s'.heap) (ha:s1.heap.get? a=none) (hna:H' a=none) (hnT:H' T=none) (hCs:Cs[ci]?=some C) (fl:CB y C a T s1.heap s'.heap) (hex:X.ex=[])
  (k:∀ h,Inv X aa σ (upd H' a (.ext (ExY Cs ci y a))) { s' with heap:=h } → F6 (J9 X.prog X.w) (X.A.mark (some (.ref a))) (storeName X.env n (.ref a)) (fun _ s2 => F6 (J9 X.prog X.w) (X.A.mark (some (.ref a))) (execs (b0 :: suite) X.env)
   (fun f s3=>F6 (J9 X.prog X.w) X.A (do bindName X.env n .none;unbindBehindTheSuite X.env n pos) (fun _ s4=>Q f s4) E' s3) (fun _ _=>False) s2) (fun _ _=>False) { s' with heap:=h }) (hdb:(xW==("__debug__":Str))=false:=by decide) :
  F6 (J9 X.prog X.w) X.A (ag3 (.ref a) X.env) (fun _ s2=>F6 (J9 X.prog X.w) X.A (ap7 (.ref a) none) (fun _ s3=>F6 (J9 X.prog X.w) X.A (handleBy (.ref a) X.env [.ExceptHandler (some (.Name xW p)) (some n) (b0::suite) pos]) Q E' s3) E' s2) E' s':=by
 obtain⟨oe,vs,oT,ts,f1,f2,f3,f4,f5,f6,f7,f8,f9⟩:=fl;have I':Inv X aa σ H' s':=I1.call' (ch:=[]) os un hok bare fun b z=>absurd z (by simp);have hst:=I'.stack;have hfr:∀b∈frs X.stack,∃o,s'.heap.get? b=some o/\∀vs:Array s0,o.data≠ab4 vs:=fun b hb=>(hst.mem hb).2;have hA:X.A.frames=some (X.env::X.outer):=by rw[<-hsk];exact I1.ok.frames
 refine uA df (base:=ad2 s'.heap (a::T::frs X.stack)) hA (by rw[<-hsk];exact Z6 hst fun env he b hb=>F7 _ (F7 _ (S4.mpr ⟨env,he,hb⟩))) hfm
  ⟨oe,vs,T,oT,ts,f1,f2,f3,f4,Q4 _ (by simp),f6,f7,f8,f9⟩ (fun b o e=>aa4 _ e) (Q4 _ (by simp)) fun h1 g=>jg g.1 g.2.1 g.2.2.1 fun h2 fly2=>?_
 have up1:=g.2.2.2;obtain⟨st2,ff2,⟨oe2,vs2,T2,oT2,ts2,t1,t2,t3,t4,t5,t6,t7,t8,t9⟩,up2⟩:=fly2;have kp2:∀b o,s'.heap.get? b=some o->b∉[a,T]->b∉frs X.stack->h2.get? b=some o:=fun b o e hz hf=>st2 b o (P7 _ e fun z=>by
  rcases E9.mp z with z|z
  ·exact hz (by simp[z])
  rcases E9.mp z with z|z
  ·exact hz (by simp[z])
  ·exact hf z)
 have fr2:∀b o,b∈frs X.stack->s'.heap.get? b=some o->∃sl,h2.get? b=some { o with slots:=sl }:=fun b o hb e=>by
  obtain⟨o',e',d'⟩:=hfr b hb;rw[e]at e';cases e';obtain⟨sl,q1⟩:=up1 b o e d';obtain⟨sl',q2⟩:=up2 b _ q1 d';exact⟨sl',q2⟩
 have hz2:∀b∈[a,T],s1.heap.get? b=none/\H' b=none:=fun b hb=>by
  rcases E9.mp hb with rfl|hb
  ·exact⟨ha,hna⟩
  ·obtain rfl:=J0.mp hb;exact⟨f5,hnT⟩
 have I2:=jz I1 os bare un hok kp2 fr2 hz2;obtain⟨nm,q,N,bs,bm,hd,sn,sub,ab,col,dd,k0,k1,k2,k3,k5,newId,lC,hbm⟩:=lC;obtain⟨nm',q',N',bs',bm',hd',sn',sub',ab',col',dd',k0',k1',k2',k3',k5',newId',lW,hbm'⟩:=lW;refine wpAny_handleBy_cons (codeAny_handlers_test (Calls.Name_function_global I2.ok.kind hg (Calls.loadGlobal_global (by rw[I2.ok.glob];exact I2.mod.glob.keeps I2.bk) hm ?_) hdb)) (by intro z;cases z);refine yv (I2.kIn _ _ lC) (I2.kIn _ _ lW) t1 t2.1.1 hbm' hbm ?_;refine codeAny_handlers_suite_as ?_;have hts:3<ts2.size:=(N1.mp t9).1;refine wpAny_setFlight_none t1 t3 t4 t7 t8 hts ?_;have hT2f:T2∉frs X.stack:=fun hb=>by
  obtain⟨o',e',d'⟩:=hfr T2 hb;obtain⟨sl,q2⟩:=fr2 T2 o' hb e';rw[t7]at q2;cases q2;exact d' _ t8
 have hT2:T2=T∨s'.heap.get? T2=none:=by
  by_cases z:T2=T
  ·exact .inl z
  ·right;cases e:s'.heap.get? T2 with
   |none=>rfl
   |some o =>
    rw[P7 _ e fun z'=>by
     rcases E9.mp z' with z'|z'
     ·exact t6 z'
     rcases E9.mp z' with z'|z'
     ·exact z z'
     ·exact hT2f z']at t5
    cases t5
 have hz3:∀b∈[a,T,T2],s1.heap.get? b=none/\H' b=none:=fun b hb=>by
  rcases E9.mp hb with rfl|hb
  ·exact⟨ha,hna⟩
  rcases E9.mp hb with rfl|hb
  ·exact⟨f5,hnT⟩
  obtain rfl:=J0.mp hb;rcases hT2 with rfl|z
  ·exact⟨f5,hnT⟩
  ·constructor
   ·cases e:s1.heap.get? b with
    |none=>rfl
    |some o =>
     obtain⟨o1,e1⟩:=un.there b o e (by simp);rw[z]at e1;cases e1
   ·cases e:H' b with
    |none=>rfl
    |some o =>
     obtain⟨o1,e1⟩:=(hok b o e).is;rw[z]at e1;cases e1
 have I3:=jz (h:=h2.update T2 (U2 fun x=>x.setIfInBounds 3 K0)) I1 os bare un hok (Z:=[a,T,T2]) (fun b o e hz hf=>by
   rw[K2 _ _ (fun z=>hz (by simp[z]))];exact kp2 b o e (fun z=>hz (by
    rcases E9.mp z with z|z
    ·simp[z]
    ·simp[J0.mp z])) hf)
  (fun b o hb e => by
   rw[K2 _ _ (fun z=>hT2f (by rw[z];exact hb))];exact fr2 b o hb e) hz3
 have some1:∀{b o},s1.heap.get? b=some o->b≠a:=fun e z=>by rw[z,ha]at e;cases e
 have hx3:ExY Cs ci y a (h2.update T2 (U2 fun x=>x.setIfInBounds 3 K0)):=⟨C,hCs,oe2,by rw[K2 _ _ t6];exact t1,t2⟩;have I4:=I3.track (a:=a) (φ:=ExY Cs ci y a) hna (BD hx3) (by
   cases e:X.s₀.heap.get? a with
   |none=>rfl
   |some o =>
    obtain⟨o1,e1⟩:=I1.base.there a o e (by rw[hex];simp);rw[ha]at e1;cases e1) (by
   obtain⟨m,⟨o,es,ep,g,_⟩,_⟩:=I1.loc;exact(some1 g).symm) (fun x c e=>by
   obtain⟨v,o,g,_⟩:=I1.cell x c e;exact some1 g) (fun p hp=>some1 (I1.pin p hp).1)
 exact L5 (k _ I4) (fun _ s2 z=>L5 z (fun f s3 z=>z) fun _ _ z=>z.elim) fun _ _ z=>z.elim
end
abbrev TXd:=DE->DH->(D->DH->Prop)->(Nat->Option E5->DH->Prop)->Prop
abbrev TYd:=cP->(Nat->Option E5->DH->Prop)->DE->DH->Prop
def rZ(X:Cx) (Cs:List E5) (aa:List (E5×Obj)) (σ:St) (M:DH) (H:Hp) (XH:Nat->Option E5->DH->Prop) (e:s0) (s':E2):Prop :=
 ∃s1 H1,Inv X aa σ H1 s1/\CX2 X.prog X.w Cs X.stack H1 s1 (fun c x H'=>∃(i:Nat) (C:E5) (M':DH),c=.ref C/\Cs[i]?=some C/\XH i x M'/\Ext M H M' H'/\HR X.K M' H') e s'
def PXe(X:Cx) (Cs:List E5) (e:K4) (t:TXd):Prop:=∀(aa:List (E5×Obj)) (s:E2) (σ:St) (H:Hp) (QV:VK) (Δ:DE) (M:DH) (Q:D->DH->Prop) (XH:Nat->Option E5->DH->Prop),Inv X aa σ H s->SR X.K M H σ Δ->HR X.K M H->t Δ M Q XH ->
 (∀d M' v H',Q d M'->Ext M H M' H'->HR X.K M' H'->Rep X.K M' H' d v->QV v H')->F6 (J9 X.prog X.w) X.A (Z4 e X.env) (EP X aa σ QV) (rZ X Cs aa σ M H XH) s
def PTy(X:Cx) (Cs:List E5) (st:Z7) (t:TYd):Prop:=∀(aa:List (E5×Obj)) (s:E2) (σ:St) (H:Hp) (D:kB) (Δ:DE) (M:DH) (E:cP) (XH:Nat->Option E5->DH->Prop),Inv X aa σ H s->SR X.K M H σ Δ->HR X.K M H->t E XH Δ M->UpE X.K E D M H ->
 F6 (J9 X.prog X.w) X.A (exec st X.env) (SP X aa D) (rZ X Cs aa σ M H XH) s
theorem rZ.ext{X:Cx}{Cs:List E5}{aa:List (E5×Obj)}{σ:St}{M M1:DH}{H H1:Hp}{XH:Nat->Option E5->DH->Prop}{e:s0}{s':E2}(x:Ext M H M1 H1) (h:rZ X Cs aa σ M1 H1 XH e s'):rZ X Cs aa σ M H XH e s':=by
 obtain⟨s1,H2,I,i,C,y,a,T,H',h1,h2,h3,h4,h5,h6,h7,h8,h9,h10,j,C',M',q1,q2,q3,q4,q5⟩:=h;exact⟨s1,H2,I,i,C,y,a,T,H',h1,h2,h3,h4,h5,h6,h7,h8,h9,h10,j,C',M',q1,q2,q3,x.trans q4,q5⟩
def dXC(n:Nat) (S:SpD) (t:TAd):TXd:=fun Δ M Q XH=>t Δ M fun ds M1=>ds.length=n/\S ds M1 fun d M2=>(isX d=none->Q d M2)/\∀i x,isX d=some (i,x)->XH i x M2
section
variable{X:Cx}{Cs:List E5}{e c:K4}{es:List K4}{t:TAd}{S:SpD}{fn xW nm:Str}{W:E5}{tb:E5->TSd}{te:TXd}{st sa sb:Z7}{ta tt:TYd}{tc:TTd}{pos:Pos}
theorem fE{k n:Nat}{p2 p3:Pos}(FX:FnY X.prog X.w X.K X.mg X.base fn k n S Cs) (hr:bt k X.A) (hgf:Gl X fn) (hno:∀e s,¬ X.xe e s) (ha:QAd X (e::es) t)
  (hdf:(fn==("__debug__":Str))=false:=by decide) (he:E8 (e::es) X.env=(false,Z4 e X.env)::E8 es X.env:=by rfl) (hpl:(V0 p3 (E8 es X.env)).any (·.1)=false:=by rfl) :
  PXe X Cs (.Call (.Name fn p2) (e::es) [] p3) (dXC n S t):=by
 rw[QAd.eq]at ha;intro aa s σ H QV Δ M Q XH I sr hrr q kk;obtain⟨f,fd,ps,F,hmf,hkf,hbf⟩:=FX.ex;refine aa8 (fM I hgf hmf ?_ hdf);refine af9 (h₀:=X.base) I.ok.mod.kin hkf (L5 (ha p3 aa s σ H (fun vs H1=>∃ds M1,ds.length=n/\S ds M1 (fun d M2=>(isX d=none->Q d M2)/\∀i x,isX d=some (i,x)->XH i x M2)/\Ext M H M1 H1/\HR X.K M1 H1/\am X.K M1 H1 ds vs) I
  ⟨Δ,M,_,sr,hrr,q,fun ds M1 vs H1 ⟨hl,q1⟩ e1 hr1 rl=>⟨ds,M1,hl,q1,e1,hr1,rl⟩⟩) (fun us s1 hs=>⟨?_,?_⟩) fun e s' z=>(hno e s' z).elim) he hpl
 ·obtain⟨vs,H1,I1,_⟩:=hs;exact I1.kIn
 obtain⟨vs,H1,I1,rv,ds,M1,hl,q1,e1,hr1,rl⟩:=hs;have hsp:spY X.K n S Cs vs H1 QV (fun c x H'=>∃(i:Nat) (C:E5) (M':DH),c=.ref C/\Cs[i]?=some C/\XH i x M'/\Ext M H M' H'/\HR X.K M' H') :=
  ⟨ds,M1,_,hl,rl,hr1,q1,fun d M' v H' q' e' hr' rv'=>kk d M' v H' (q'.1 (rM rv')) (e1.trans e') hr' rv',fun i x C M' H' q' hC e' hr'=>⟨i,C,M',rfl,hC,q'.2 i x bD,e1.trans e',hr'⟩⟩
 have hpl2:(us++[]).length=ps.length:=by
  rw[R7,<-rv.length];exact F.len _ _ _ _ hsp
 refine ad9 (ad5 (F.run X.A X.stack s1 H1 ⟨us,[]⟩ us vs _ _ hr I1.env0 (by simpa using hbf s1 us I1.kIn hpl2) rv hsp) fun r s' hq=>?_);cases r with
 |error e=>exact⟨s1,H1,I1,hq⟩
 |ok fl =>
  cases fl with
  |ret u=>exact I1.after hq
  |next=>exact Q6 hq
  |brk=>exact Q6 hq
  |cont=>exact Q6 hq
def dYE(te:TXd):TYd:=fun E XH Δ M=>te Δ M (fun _ M2=>E.nx Δ M2) XH
theorem gO(he:PXe X Cs e te) (hs:Z0 e none pos.line X.env=ad0 false:=by rfl):PTy X Cs (.Expr e pos) (dYE te):=by
 intro aa s σ H D Δ M E XH I sr hr q kk;exact wpAny_Expr_any (thn (he aa s σ H (fun v H2=>D.nx σ H2) Δ M _ XH I sr hr q fun d M' v H' q' e' hr' rv'=>kk.nx _ M' _ H' q' e' hr' (sr.ext e')) fun v s1 hup=>hup.el fun x H1 I1 r1 q1=>⟨σ,H1,I1,q1⟩) I.quiet hs
def CV(tc:TTd) (ta tb:TYd):TYd:=fun E XH Δ M=>tc Δ M fun b M1=>if b then ta E XH Δ M1 else tb E XH Δ M1
theorem qy(hno:∀e s,¬ X.xe e s) (hc:QTd X c tc) (ha:PTy X Cs sa ta) (hb:PTy X Cs sb tt):PTy X Cs (.If c [sa] [sb] pos) (CV tc ta tt):=by
 rw[QTd.eq]at hc;intro aa s σ H D Δ M E XH I sr hr q kk;refine wpAny_If (L5 (hc aa s σ H (fun b H1=>∃M1,(if b then ta E XH Δ M1 else tt E XH Δ M1)/\Ext M H M1 H1/\HR X.K M1 H1) I ⟨Δ,M,_,sr,hr,q,fun b M1 H1 q1 e1 hr1=>⟨M1,q1,e1,hr1⟩⟩) (fun d s1 ⟨H1,I1,M1,q1,e1,hr1⟩=>?_) fun e s' z=>(hno e s' z).elim);have fin:∀{f:Flow} {s2:E2},SP X aa D f s2->(match f with|.next=>F6 (J9 X.prog X.w) X.A (execs [] X.env) (SP X aa D) (rZ X Cs aa σ M H XH) s2|f=>SP X aa D f s2):=fun {f s2} z=>by
  cases f with
  |next=>exact ab8 z
  |ret v=>exact z
  |brk=>exact z
  |cont=>exact z
 cases d with
 |true=>exact af0 (L5 (ha aa s1 σ H1 D Δ M1 E XH I1 (sr.ext e1) hr1 q1 (kk.ext e1)) (fun f s2 z=>fin z) fun e s2 z=>z.ext e1)
 |false=>exact af0 (L5 (hb aa s1 σ H1 D Δ M1 E XH I1 (sr.ext e1) hr1 q1 (kk.ext e1)) (fun f s2 z=>fin z) fun e s2 z=>z.ext e1)
def CJ(Cs:List E5) (j:Nat) (tt:TYd) (tb:E5->TSd):TSd:=fun E Δ M=>tt E (fun i x M2=>∀a,M2 a=none->tb a (AX j E) (Δ.set j (some (.ref a))) (ar M2 a (exY Cs i x a))) Δ M
theorem Bq{j:Nat}{p5 p9 p10:Pos}{b0:Z7}{suite:List Z7}(hno:∀e s,¬ X.xe e s) (hsk:X.stack=X.env::X.outer) (hfm:X.env.frame=some X.env.locals) (hex:X.ex=[])
  (hg:Gl X xW) (hm:X.mg xW=some (.ref W))
  (lC:∀C∈Cs,∃nm q N bs bm hd sn sub ab col dd k0 k1 k2 k3 k5 newId,X.K.lookup C=some (T1 nm q C N bs bm hd sn sub ab col dd k0 k1 k2 k3 k5 newId)/\(F3 C::bm).contains (.ref W)=true)
  (lW:∃nm q N bs bm hd sn sub ab col dd k0 k1 k2 k3 k5 newId,X.K.lookup W=some (T1 nm q W N bs bm hd sn sub ab col dd k0 k1 k2 k3 k5 newId)/\bm.contains (.type "BaseException")=true)
  (hN:X.N.Nodup) (hj:X.N[j]?=some nm) (hy:X.env.scope.names.lookup nm=some .local) (ha:PTy X Cs st tt) (hb:∀a,QSs (X.caught a) (b0::suite) (tb a)) (hdb:(xW==("__debug__":Str))=false:=by decide) :
  QSd X (.Try [st] [.ExceptHandler (some (.Name xW p5)) (some nm) (b0::suite) p9] [] [] p10) (CJ Cs j tt tb):=by
 simp only[QSd.eq,QSs.eq]at *
 intro aa s σ H D I hh;obtain⟨Δ,M,E,sr,hrr,q,kk⟩:=hh;refine wpAny_Try_except (af0 (L5 (ha aa s σ H D Δ M E _ I sr hrr q kk) (fun f s1 z=>?_) fun ev s' z=>?_))
 ·cases f with
  |next=>exact ab8 (ab8 z)
  |ret v=>exact z
  |brk=>exact z
  |cont=>exact z
 ·obtain⟨s1,H1,I1,i,C,y,a,T,H',hCs,rfl,os,bare,un,hok,h0,hna,hnT,fl,j',C',M2,eC,hC',qx,e2,hr2⟩:=z;cases eC;refine yw I1 hsk hfm hg hm (lC C (J8 hCs)) lW os bare un hok h0 hna hnT hC' fl hex (fun h I3=>?_) hdb;refine gD I3 hN hj (.inl hy) (v:=.ref a) rfl (fun s2 I4=>?_) (.inr hy);have J:Inv (X.caught a) aa (σ.set j (some (.ref a))) (upd H' a (.ext (ExY Cs j' y a))) s2:=⟨⟨I4.ok.mod,I4.ok.kind,I4.ok.glob,I4.ok.blt,I4.ok.above,I4.ok.inj,I4.ok.has,I4.ok.cab,fun z=>(by cases z),I4.ok.frames,I4.ok.stk,I4.ok.exf,I4.ok.bs,I4.ok.bsz,I4.ok.noex,I4.ok.exfs,I4.ok.funs,I4.ok.frf⟩,I4.os,I4.bare,I4.base,I4.loc,I4.cell,I4.free,I4.freeC,I4.pin,I4.hok,I4.len⟩;have e3:Ext M2 H' (ar M2 a (exY Cs j' y a)) (upd H' a (.ext (ExY Cs j' y a))):=Ext.own hna;have hr3:HR X.K (ar M2 a (exY Cs j' y a)) (upd H' a (.ext (ExY Cs j' y a))):=hr2.put e3 ⟨[],az,by simp[am]⟩;have e4:=e2.trans e3;have sr4:SR X.K (ar M2 a (exY Cs j' y a)) (upd H' a (.ext (ExY Cs j' y a))) (σ.set j (some (.ref a))) (Δ.set j (some (.ref a))):=(sr.ext e4).set j (by simp[Rep])
  let D2:kB:={ nx:=fun σ' H'=>D.nx (σ'.set j none) H',bk:=fun σ' H'=>D.bk (σ'.set j none) H',ct:=fun σ' H'=>D.ct (σ'.set j none) H',rt:=D.rt }
  have up2:UpE X.K (AX j E) D2 (ar M2 a (exY Cs j' y a)) (upd H' a (.ext (ExY Cs j' y a))) :=
   ⟨fun Δ' M' σ' H'' ⟨M3,hle,q'⟩ e' hr' sr'=>kk.nx _ M3 _ H'' q' ((e4.trans e').trans (Ext.le hle)) (hr'.le hle) ((sr'.ext (Ext.le hle)).setN j),fun Δ' M' σ' H'' ⟨M3,hle,q'⟩ e' hr' sr'=>kk.bk _ M3 _ H'' q' ((e4.trans e').trans (Ext.le hle)) (hr'.le hle) ((sr'.ext (Ext.le hle)).setN j),
    fun Δ' M' σ' H'' ⟨M3,hle,q'⟩ e' hr' sr'=>kk.ct _ M3 _ H'' q' ((e4.trans e').trans (Ext.le hle)) (hr'.le hle) ((sr'.ext (Ext.le hle)).setN j),fun d M' v H'' ⟨M3,hle,q'⟩ e' hr' rv'=>kk.rt d M3 v H'' q' ((e4.trans e').trans (Ext.le hle)) (hr'.le hle) (rv'.ext (Ext.le hle))⟩
  refine L5 (hb a aa s2 _ _ D2 J ⟨_,_,_,sr4,hr3,qx a (hr2.fresh hna),up2⟩) (fun fl s3 z=>?_) fun _ _ z=>z;have back:∀{σ2 H2},Inv (X.caught a) aa σ2 H2 s3->Inv X aa σ2 H2 s3:=fun J2=>⟨I.ok,J2.os,J2.bare,J2.base,J2.loc,J2.cell,J2.free,J2.freeC,J2.pin,J2.hok,J2.len⟩;cases fl with
  |next=>obtain⟨σ2,H2,J2,q2⟩:=z;exact ji (back J2) hN hj hy fun s4 I5=>⟨_,H2,I5,q2⟩
  |brk=>obtain⟨σ2,H2,J2,q2⟩:=z;exact ji (back J2) hN hj hy fun s4 I5=>⟨_,H2,I5,q2⟩
  |cont=>obtain⟨σ2,H2,J2,q2⟩:=z;exact ji (back J2) hN hj hy fun s4 I5=>⟨_,H2,I5,q2⟩
  |ret u=>obtain⟨v2,σ2,H2,J2,r2,q2⟩:=z;exact ji (back J2) hN hj hy fun s4 I5=>⟨v2,_,H2,I5,r2,q2⟩
end
theorem ExY.c{Cs:List E5}{i:Nat}{y:Option E5}{a:E5}{h:I0}(z:ExY Cs i y a h):∃C,Cs[i]?=some C/\m8 C a h:=by
 obtain⟨C,hC,o,g,r,_⟩:=z;exact⟨C,hC,o,g,r⟩
def wZ(Cs:List E5) (bs:List Bool) (ta:TEd):TEd:=fun Δ M Q=>ta Δ M fun d M1=>∃a i y,d=.ref a/\M1 a=some (exY Cs i y a)/\Q (.bl (bs.getD i false)) M1
section
variable{X:Cx}{a:K4}{ta:TEd}{pos p p2:Pos}{Cs:List E5}{bs:List Bool}{T:Str}
theorem nY{c:s0}{vc:V}(Z:∀C∈Cs,sM X.K C) (e:∀(i:Nat) C,Cs[i]?=some C->L6 X.K (.ref C) c=some (bs.getD i false)) (hv:∀u,aF vc u->u=c):cw X (.builtin "isinstance") (fun xs H Q=>∃x i y,xs=[.ref x,vc]/\H x=some (.ext (ExY Cs i y x))/\Q (.bl (bs.getD i false)) H):=by
 intro aa s σ H xs us Q I rv h;obtain⟨x,i,y,rfl,hx,q⟩:=h;obtain⟨u1,u2,rfl,r1,r2⟩:=ax.two rv;cases(show u1=F3 x from r1);cases hv _ r2;obtain⟨C,hC,hc⟩:=(I.hok x _ hx).1.c;have z:=Z C (J8 hC);exact PySem.W.kia_one (vq z.ga z.gk z.mb z.cl z.ha z.hn z.tk z.mo) I.kIn hc (e i C hC) (fun z=>nomatch z) fun tk=>⟨.bl (bs.getD i false),H,I.tok tk,rfl,q⟩
theorem BO{C':E5}(Z:∀C∈Cs,sM X.K C) (hg:Gl X "isinstance") (hm:X.mg "isinstance"=none) (hg2:Gl X T) (hm2:X.mg T=some (.ref C')) (e:∀(i:Nat) C,Cs[i]?=some C->L6 X.K (.ref C) (.ref C')=some (bs.getD i false)) (ha:QEd X a ta) (hd2:(T==("__debug__":Str))=false:=by decide)
  (hs:E8 [a,.Name T p2] X.env=(false,Z4 a X.env)::E8 [.Name T p2] X.env:=by rfl) (hs2:E8 [.Name T p2] X.env=(false,Z4 (.Name T p2) X.env)::E8 [] X.env:=by rfl) (hpl:(V0 pos (E8 [.Name T p2] X.env)).any (·.1)=false:=by rfl) :
  QEd X (.Call (.Name "isinstance" p) [a,.Name T p2] [] pos) (wZ Cs bs ta):=by
 rw[QEd.eq]at *
 refine(gQ (nY (vc:=.ref C') Z e fun u h=>h) hg hm (by kernel_rfl) (bf ha (bf (jd (v:=.ref C') hg2 hm2 rfl hd2) dw hs2) hs) (by decide) (by decide) hs hpl).conv fun σ H Q hh=>?_;obtain⟨Δ,M,R,sr,hr,q,k⟩:=hh;refine⟨Δ,M,_,sr,hr,q,fun d M1 v H1 ⟨x,i,y,ed,em,q1⟩ e1 hr1 rv=>?_⟩;subst ed;obtain rfl:v=.ref x:=by simpa only[Rep]using rv
 obtain⟨vs,hx,_⟩:=hr1 x _ em;exact⟨x,i,y,rfl,hx,k _ M1 _ H1 q1 e1 hr1 (by simp[Rep])⟩
theorem dO(Z:∀C∈Cs,sM X.K C) (hg:Gl X "isinstance") (hm:X.mg "isinstance"=none) (hg2:Gl X T) (h:∃C',X.mg T=some (.ref C')/\∀(i:Nat) C,Cs[i]?=some C->L6 X.K (.ref C) (.ref C')=some (bs.getD i false)) (ha:QEd X a ta) (hd2:(T==("__debug__":Str))=false:=by decide)
  (hs:E8 [a,.Name T p2] X.env=(false,Z4 a X.env)::E8 [.Name T p2] X.env:=by rfl) (hs2:E8 [.Name T p2] X.env=(false,Z4 (.Name T p2) X.env)::E8 [] X.env:=by rfl) (hpl:(V0 pos (E8 [.Name T p2] X.env)).any (·.1)=false:=by rfl) :
  QEd X (.Call (.Name "isinstance" p) [a,.Name T p2] [] pos) (wZ Cs bs ta):=by
 obtain⟨C',h1,h2⟩:=h;exact BO Z hg hm hg2 h1 h2 ha hd2 hs hs2 hpl
theorem Bf{Tn:String}(Z:∀C∈Cs,sM X.K C) (hg:Gl X "isinstance") (hm:X.mg "isinstance"=none) (hg2:Gl X T) (hm2:X.mg T=none) (hv2:V8 T=some (.type Tn)) (e:∀(i:Nat) C,Cs[i]?=some C->L6 X.K (.ref C) (.type Tn)=some (bs.getD i false)) (ha:QEd X a ta) (hn2:T≠"__name__":=by decide) (hd2:(T==("__debug__":Str))=false:=by decide)
  (hs:E8 [a,.Name T p2] X.env=(false,Z4 a X.env)::E8 [.Name T p2] X.env:=by rfl) (hs2:E8 [.Name T p2] X.env=(false,Z4 (.Name T p2) X.env)::E8 [] X.env:=by rfl) (hpl:(V0 pos (E8 [.Name T p2] X.env)).any (·.1)=false:=by rfl) :
  QEd X (.Call (.Name "isinstance" p) [a,.Name T p2] [] pos) (wZ Cs bs ta):=by
 rw[QEd.eq]at *
 refine(gQ (nY (vc:=.ty Tn) Z e fun u h=>h) hg hm (by kernel_rfl) (bf ha (bf (qH (v:=.ty Tn) hg2 hm2 hv2 rfl hn2 hd2) dw hs2) hs) (by decide) (by decide) hs hpl).conv fun σ H Q hh=>?_;obtain⟨Δ,M,R,sr,hr,q,k⟩:=hh;refine⟨Δ,M,_,sr,hr,q,fun d M1 v H1 ⟨x,i,y,ed,em,q1⟩ e1 hr1 rv=>?_⟩;subst ed;obtain rfl:v=.ref x:=by simpa only[Rep]using rv
 obtain⟨vs,hx,_⟩:=hr1 x _ em;exact⟨x,i,y,rfl,hx,k _ M1 _ H1 q1 e1 hr1 (by simp[Rep])⟩
structure CF(K:u8) (C:E5) (f:Str):Prop where
 hd:ag8 K C=true
 fn:N8 K (.ref C) f=some none
def CK(Cs:List E5) (i:Nat) (f:Str) (ta:TEd):TEd:=fun Δ M Q=>ta Δ M fun d M1=>∃a dd z,d=.ref a/\M1 a=some (exY Cs i (some dd) a)/\M1 dd=some (iV f dd z)/\Q z M1
theorem Cr(i:Nat) {C:E5}{f:Str}(hC:Cs[i]?=some C) (Z:sM X.K C) (G:CF X.K C f) (he:QEd X a ta) (hb:aa7 a f X.env (Z4 a X.env)=Z4 a X.env:=by rfl):QEd X (.Attribute a f pos) (CK Cs i f ta):=by
 rw[QEd.eq]at *
 intro aa s σ H Q I hh;obtain⟨Δ,M,R,sr,hr,q,k⟩:=hh;refine yH hb (thn (he aa s σ H (fun v H1=>∃x dd z w M1,v=.ref x/\H1 x=some (.ext (ExY Cs i (some dd) x))/\H1 dd=some (.ext (iW f dd w))/\Ext M H M1 H1/\HR X.K M1 H1/\Rep X.K M1 H1 z w/\R z M1) I ⟨Δ,M,_,sr,hr,q,fun d M1 v H1 ⟨x,dd,z,ed,em,ef,q1⟩ e1 hr1 rv=>?_⟩) fun u s1 ⟨v,H1,I1,rv,x,dd,z,w,M1,ev,hx,hdd,e1,hr1,rz,q1⟩=>?_)
 ·subst ed;obtain rfl:v=.ref x:=by simpa only[Rep]using rv
  obtain⟨vs,hx,_⟩:=hr1 x _ em;obtain⟨ws,hw,rw'⟩:=hr1 dd _ ef;simp only[am]at rw';obtain⟨w,ws',rfl,r1,rfl⟩:=rw';exact⟨x,dd,z,w,M1,rfl,hx,hw,e1,hr1,r1,q1⟩
 ·subst ev;obtain rfl:u=F3 x:=rv;obtain⟨C',hC',o,g,r⟩:=(I1.hok x _ hx).1;rw[hC]at hC';cases hC';obtain⟨o2,u2,g2,l2,r2⟩:=(I1.hok dd _ hdd).1;obtain⟨⟨hc,vs,hda,_⟩,hdi⟩:=r;have J:PySem.W.InstAt s1.heap x o C (some o2):=⟨g,hc,by unfold PySem.W.notCls;rw[hda],by rw[hdi];exact g2⟩;exact Ae I1.kIn J Z.ga Z.gk Z.mb ⟨o,g,hc,vs,hda,by assumption⟩ (PySem.W.findObj_own G.hd G.fn rfl l2) (sP r2) ⟨w,H1,I1.tok _,r2,k z M1 w H1 q1 e1 hr1 rz⟩
end
section
variable{P:J4}{w:O3}{K:u8}{mg:Str->Option s0}{base:I0}{N:List Str}{qual:Str}{scope:aa5}{f:E5}{cd:s0}{A:L8}{outer:List Env}{s:E2}{H:Hp}{E:XK}{Cs:List E5}
theorem lM:ft (CX2 P w Cs) (fm (CX2 P w Cs) P w K mg base N qual scope f cd A outer s H E) (fun c x H'=>∀C,c=.ref C->E (.ref C) x H'):=fun aa σ H1 s1 e s' I h =>
 Co aa σ H1 s1 e s' I (let⟨i,C,x,a,T,H',h1,h2,h3,h4,h5,h6,h7,h8,h9,h10,q⟩:=h;⟨i,C,x,a,T,H',h1,h2,h3,h4,h5,h6,h7,h8,h9,h10,q C rfl⟩)
end
theorem ix1{p:Nat->E5->Prop}{a:E5}(h0:p 0 a):∀(i:Nat) C,[a][i]?=some C->p i C
 |0,_,e=>by cases e;exact h0
 |_+1,_,e=>by simp at e
theorem al1{p:E5->Prop}{a:E5}(h0:p a):∀C∈[a],p C:=fun C h=>by cases J0.mp h;exact h0
end L2
namespace L2
open PySem PySem.Spec PySem.Calls PyProof.Rows PySem.SeqAt
end L2
namespace L2
open PySem PySem.Spec PySem.Calls PyProof.Rows
section
variable{X:Cx}
def DD:D->Option D
 |.int i=>if i.natAbs.log2<1920 then some (.str (toString i))else none
 |_=>none
theorem Bw{i:Int}:DD (.int i)=if i.natAbs.log2<1920 then some (.str (toString i))else none:=rfl
end
end L2
namespace L2
open PySem PySem.Spec PyProof.Rows
def m7(N:List Str) (scope:aa5) (ms:List Bool):Bool :=
 scope.kind==.function&&scope.names.all (fun y=>y.2 != .cell&&y.2 != .free&&(y.2 != .local || scope.names.lookup y.1==some .local))&&ms.all (fun b=>!b)&&decide (ms.length<=N.length)
theorem se{X:Cx}{scope:aa5}{ms:List Bool}{ao:List Str}(c:m7 X.N scope ms=true):cC X scope (cg scope.names X.env.cells) ms ao:=by
 unfold m7 at c;simp only[N7,S9,decide_eq_true_eq,bne_iff_ne,ne_eq,Bool.or_eq_true,beq_iff_eq]at c;obtain⟨⟨⟨c1,c2⟩,c3⟩,c4⟩:=c;refine⟨c1,fun y hy e=>absurd e (c2 y hy).1.1,fun y hy e=>((c2 y hy).2).resolve_left fun z=>z e,rG fun y hy e=>absurd e (c2 y hy).1.2,fun x c h=>oW h,fun x h=>?_,fun x h=>?_,fun i x h1 h2=>?_,c4⟩
 ·exact absurd rfl (c2 _ (P8 h)).1.2
 ·exact absurd rfl (c2 _ (P8 h)).1.2
 ·have:=c3 _ (J8 h1);simp at this
section
variable{X:Cx}
end
end L2
namespace L2
open PySem PySem.Spec PyProof.Rows PySem.Calls
end L2
namespace L2
open PySem PySem.Spec PyProof.Rows
theorem js(l:E5) (items:Array s0) (x:Int) (u:Tok) (he:items.isEmpty=true) (hx:2<=x) (hx2:x<2 ^ 62) :
  Meets (J7.«tuple.__mul__» ⟨[.ref l,.int x u],[]⟩) (fun _ R s=>am8 s.heap l items/\R (.ok (.ret (.ref l))) s) :=
 .of_wp fun prog w A R s h=>by
  obtain⟨ht,h⟩:=h;refine o0 (m:=asIndex (.int x u)) (al6 (a:=x) rfl ?_);dsimp only;rw[if_neg (by simp only[Bool.or_eq_true,decide_eq_true_eq];lia)];refine o0 (ag0 ht ?_);rw[if_pos (by simp[he])];refine o0 (HT.tupleIsExact_ ht ?_);rw[if_pos rfl]
  wp_walk
  exact⟨_,rfl,h⟩
def ph(x y:D):Option D:=match x,y with
 |.tup [],.int n=>if 2<=n/\n<2 ^ 62 then some (.tup [])else none
 |x,y=>ni x y
theorem uv{n:Int}:ph (.tup []) (.int n)=if 2<=n/\n<2 ^ 62 then some (.tup [])else none:=rfl
theorem Bl{ds:List D}{n:Int}(h:2<=n/\n<2 ^ 62/\ds.length*n.toNat<=E4):ph (.tup ds) (.int n)=some (.tup (E6 n.toNat ds).flatten):=by
 cases ds with
 |nil =>
  rw[uv,if_pos ⟨h.1,h.2.1⟩];congr 2;rw[eq_comm,List.eq_nil_iff_forall_not_mem];intro d hd;obtain⟨l,hl,hd⟩:=List.mem_flatten.mp hd;rw[(List.mem_replicate.mp hl).2]at hd;cases hd
 |cons d ds=>exact if_pos ⟨h.1,h.2.1,by simp,h.2.2⟩
section
variable{X:Cx}
theorem Bz:bW X (U8 .Mult) ph:=by
 intro aa s σ H M x y v u dx dy dz Q I hr rx ry r1 r2 e k
 by_cases hc:∃n,dx=.tup []/\dy=.int n
 ·obtain⟨n,rfl,rfl⟩:=hc;rw[uv]at e
  by_cases hn:2<=n/\n<2 ^ 62
  ·rw[if_pos hn]at e;cases e;have e2:=dq r2;subst e2;obtain⟨t2,rfl⟩:=ry;have rt:=aN.tup hr r1;obtain⟨a,vs,rfl,sq,rl⟩:=r1;cases rx;obtain⟨its,rv,pt,hz⟩:=I.tuple sq;have he:its.toArray.isEmpty=true:=by
    have hl1:=rv.length;have hl2:=rl.length;cases its with
    |nil=>rfl
    |cons _ _=>rw[hl1]at hl2;cases hl2
   refine ab5 (T:="tuple") (U:="int") (by decide) pt.typeIs (fun s'=>af6 s' n t2) cF aj5 Z3 eM ai5.lookup
    (aa3 Z3 (af6 s n t2) ai6 (ah3 _ _) (du n t2 a its.toArray)
     ⟨pt,rfl,pt.typeIs,aa3 af1 pt.typeIs F.entry_tuple_mul (F.args_tuple_mul_2 _ _) (js a its.toArray n t2 he hn.1 hn.2) ⟨pt,?_⟩⟩)
   exact⟨.ref a,H,I,rfl,k _ H (Ext.refl _ _) hr rt⟩
  ·rw[if_neg hn]at e;cases e
 ·have e':ni dx dy=some dz:=by
   rw[<-e];unfold ph
   split
   ·exact absurd ⟨_,rfl,rfl⟩ hc
   ·rfl
  exact cc aa s σ H M x y v u dx dy dz Q I hr rx ry r1 r2 e' k
end
end L2
namespace L2
open PySem PySem.Spec PyProof.Rows PySem.Calls
end L2
namespace L2
open PySem PySem.Spec PyProof.Rows
section
variable{M:ao3}{A:L8}{E:s0->E2->Prop}{s:E2}{base:I0}{env:Env}{outer l:List Env}{L e:E5}{Φ:Obj->Prop}{Q:Unit->E2->Prop}
theorem xV{fl:s0}(st:fb Φ) (hfr:A.frames=some (env::outer)) (hl:s.heap.FunFrames base (env::outer)) (hf:env.frame=some L) (ht:sj s.heap base e Φ fl) (hkb:base.StaysIn s.heap) (hen:base.get? e=none)
  (h:∀h' fl',GoX base (env::outer) e Φ fl' s.heap h'->Q () { s with heap:=h' }):F6 M A (ag3 (.ref e) env) Q E s:=by
 obtain⟨oe,vs,T,oT,ts,he,h0,hd,h1,hnT,hTe,hT,hdT,h3⟩:=ht;unfold ag3;simp only[hf];refine o0 (O7 he hd h1 ?_);rw[if_pos (show(F3 T != K0)=true from by simp)];refine o0 (O7 hT hdT h3 ?_)
 by_cases c:(fl==af8 L)=true
 ·rw[if_pos c];exact E3 (h s.heap fl ⟨hkb,hl,⟨oe,vs,T,oT,ts,he,h0,hd,h1,hnT,hTe,hT,hdT,h3⟩,I0.UpToSlots.refl _⟩)
 rw[if_neg c];refine o0 (ae7 hT hdT (N1.mp h3).1 ?_);have other:∀b,b≠T->(s.heap.update T (U2 (·.setIfInBounds 3 K0))).get? b=s.heap.get? b:=fun b hb=>K2 _ _ (M9 hb);have noRec:∀b o,s.heap.get? b=some o->(∀vs,o.data≠.fields vs)->b≠T:=fun b o hb hnf q=>by
  rw[q,hT]at hb;cases hb;exact hnf ts hdT
 refine pe st hfr (hl.of_keeps fun b o hb hnf=>⟨o,(other b (noRec b o hb hnf)).trans hb,rfl⟩) hf ((other e (M9 hTe)).trans he)
  (fun b o hbo=>(other b fun q=>by rw[q,hnT]at hbo;cases hbo).trans (hkb b o hbo)) hen hd (N1.mp h1).1 h0
  fun h' ⟨x1,x2,x3,x4⟩=>h h' _ ⟨x1,x2,x3,fun b o hb hnf=>x4 b o ((other b (noRec b o hb hnf)).trans hb) hnf⟩
theorem xi{fl:s0}(st:fb Φ) (hfr:A.frames=some (env::outer)) (hl:s.heap.FunFrames base (env::outer)) (hf:env.frame=some L) (ht:sj s.heap base e Φ fl) (hkb:base.StaysIn s.heap) (hen:base.get? e=none)
  (h:∀h',GoX base (env::outer) e Φ .none s.heap h'->Q () { s with heap:=h' }):F6 M A (ao5 env (.ref e)) Q E s:=by
 unfold ao5;exact o0 (xV st hfr hl hf ht hkb hen fun h2 fl' ⟨g1,g2,g3,g4⟩=>jg g1 g2 g3 fun h3 ⟨k1,k2,k3,k4⟩=>h h3 ⟨k1,k2,k3,g4.trans k4⟩)
theorem sZ{T:E5}{oe oT:Obj}{vs ts:Array s0}{f:Option E5}(he:s.heap.get? e=some oe) (hd:oe.data=.fields vs) (h1:vs[1]?=some (.ref T)) (hT:s.heap.get? T=some oT) (hdT:oT.data=.fields ts) (h3:3<ts.size)
  (h:∀fl,Q () { s with heap:=s.heap.update T (U2 fun x=>x.setIfInBounds 3 fl) }):F6 M A (ap7 (.ref e) f) Q E s:=by
 unfold ap7;refine o0 (O7 he hd h1 ?_);rw[if_pos (show(F3 T != K0)=true from by simp)];exact ae7 hT hdT h3 (h _)
end
def C4(x:Option E5) (C a T:E5) (h:I0):Prop:=∃oe vs oT ts fl,h.get? a=some oe/\ExG x C oe/\oe.data=.fields vs/\vs[1]?=some (.ref T)/\T≠a/\h.get? T=some oT/\oT.data=.fields ts/\ts[3]?=some fl
section
variable{P:J4}{w:O3}{K:u8}{mg:Str->Option s0}{base:I0}{N:List Str}{qual:Str}{scope:aa5}{f:E5}{cd:s0}{A:L8}{outer:List Env}{s:E2}{H:Hp}{E:XK}{Cs:List E5}
theorem zA{aa:List (E5×Obj)}{σ:St}{H':Hp}{s':E2}{a T C:E5}{dd:Option E5}{i:Nat}(I':Inv (fm (CX2 P w Cs) P w K mg base N qual scope f cd A outer s H E) aa σ H' s') (hC:Cs[i]?=some C) (g0:s.heap.get? a=none) (gT:s.heap.get? T=none)
  (hna:H' a=none) (hnT:H' T=none) (fl:C4 dd C a T s'.heap) (qx:E (.ref C) dd H'):(fm (CX2 P w Cs) P w K mg base N qual scope f cd A outer s H E).xe (.ref a) s':=by
 obtain⟨oe,vs,oT,ts,fl,f1,f2,f3,f4,f6,f7,f8,f9⟩:=fl;have hst:=I'.stack;have hfr:∀b∈frs (W9 qual scope s.heap.objs.size f cd::outer),∃o,s'.heap.get? b=some o/\∀vs:Array s0,o.data≠ab4 vs:=fun b hb=>(hst.mem hb).2;refine xi df (base:=ad2 s'.heap (a::T::frs (W9 qual scope s.heap.objs.size f cd::outer))) I'.ok.frames
  (Z6 hst fun env he b hb=>F7 _ (F7 _ (S4.mpr ⟨env,he,hb⟩))) (L:=s.heap.objs.size) rfl (fl:=fl)
  ⟨oe,vs,T,oT,ts,f1,f2,f3,f4,Q4 _ (by simp),f6,f7,f8,f9⟩ (fun b o e=>aa4 _ e) (Q4 _ (by simp)) fun h' fly=>?_
 obtain⟨st,ff,⟨oe2,vs2,T2,oT2,ts2,t1,t2,t3,t4,t5,t6,t7,t8,t9⟩,up⟩:=fly;have keep:∀b o,s'.heap.get? b=some o->b≠a->b≠T->b∉frs (W9 qual scope s.heap.objs.size f cd::outer)->h'.get? b=some o:=fun b o e hb hb2 hf=>st b o (P7 _ e (fun z=>by
  rcases E9.mp z with z|z
  ·exact hb z
  rcases E9.mp z with z|z
  ·exact hb2 z
  ·exact hf z))
 have hT2:T2=T∨s'.heap.get? T2=none:=by
  by_cases z:T2=T
  ·exact .inl z
  ·right;cases e:s'.heap.get? T2 with
   |none=>rfl
   |some o =>
    by_cases hf:T2∈frs (W9 qual scope s.heap.objs.size f cd::outer)
    ·obtain⟨o',e',d'⟩:=hfr T2 hf;obtain⟨sl,e2⟩:=up T2 o' e' d';rw[t7]at e2;cases e2;exact absurd t8 (d' ts2)
    ·rw[P7 _ e (fun z'=>by
      rcases E9.mp z' with z'|z'
      ·exact t6 z'
      rcases E9.mp z' with z'|z'
      ·exact z z'
      ·exact hf z')]at t5
     cases t5
 have un:Un (frs outer) [] H H' s.heap s'.heap:=I'.base;have hfree:∀b∈frs (W9 qual scope s.heap.objs.size f cd::outer),H' b=none:=I'.stkFree;have hsz:∀b o,s.heap.get? b=some o->b∈frs (W9 qual scope s.heap.objs.size f cd::outer)->b∈frs outer:=fun b o e hb=>by
  rcases E9.mp hb with z|z
  ·subst z;exact absurd (F2 e) (S8 _)
  ·exact z
 have na:∀{b o},s.heap.get? b=some o->b≠a:=fun e z=>by rw[z,g0]at e;cases e
 have nT:∀{b o},s.heap.get? b=some o->b≠T:=fun e z=>by rw[z,gT]at e;cases e
 refine⟨i,C,dd,a,T2,H',hC,rfl,I'.os,I'.bare,⟨fun b o e n h1 h2=>?_,fun b o e n h1 h2=>?_,fun b o e n h2=>un.free b o e n h2,fun b o e h2=>?_,un.tups,un.frzs,un.tbls⟩,fun b o e=>?_,g0,hna,?_,⟨oe2,vs2,oT2,ts2,t1,t2,t3,t4,?_,t6,t7,t8,t9⟩,qx⟩
 ·exact keep b o (un.keep b o e n h1 h2) (na e) (nT e) fun z=>h1 (hsz b o e z)
 ·obtain⟨sl,e1⟩:=un.slot b o e n h1 h2;obtain⟨o',e',d'⟩:=hfr b (F7 _ h1);rw[e1]at e';cases e';obtain⟨sl',e2⟩:=up b _ e1 d';exact⟨sl',e2⟩
 ·obtain⟨o1,e1⟩:=un.there b o e h2
  by_cases hf:b∈frs (W9 qual scope s.heap.objs.size f cd::outer)
  ·obtain⟨o',e',d'⟩:=hfr b hf;obtain⟨sl',e2⟩:=up b _ e' d';exact⟨_,e2⟩
  ·exact⟨o1,keep b o1 e1 (na e) (nT e) hf⟩
 ·refine(I'.hok b o e).stay (fun c v hc r=>keep c v r ?_ ?_ ?_) (fun c r=>r) fun c xs r=>r
  ·rintro rfl;rcases hc with rfl|hc
   ·rw[hna]at e;cases e
   ·rw[hna]at hc;cases hc
  ·rintro rfl;rcases hc with rfl|hc
   ·rw[hnT]at e;cases e
   ·rw[hnT]at hc;cases hc
  ·intro hf;have:=hfree c hf;rcases hc with rfl|hc
   ·rw[this]at e;cases e
   ·rw[this]at hc;cases hc
 ·rcases hT2 with rfl|z
  ·exact hnT
  ·cases e:H' T2 with
   |none=>rfl
   |some o =>
    obtain⟨o1,e1⟩:=(I'.hok T2 o e).is;rw[z]at e1;cases e1
 ·rcases hT2 with rfl|z
  ·exact gT
  ·cases e:s.heap.get? T2 with
   |none=>rfl
   |some o =>
    obtain⟨o1,e1⟩:=un.there T2 o e (by simp);rw[z]at e1;cases e1
end
def Bo(X:Cx) (Cs:List E5) (aa:List (E5×Obj)) (σ:St) (XW:XK) (e:s0) (s':E2):Prop :=
 ∃s1 H1,Inv X aa σ H1 s1/\CX2 X.prog X.w Cs X.stack H1 s1 XW e s'
def vV(X:Cx) (Cs:List E5) (XW:XK):Prop:=∀(aa:List (E5×Obj)) (σ:St) (H':Hp) (s':E2) (i:Nat) (C a T:E5) (x:Option E5),Inv X aa σ H' s'->Cs[i]?=some C->X.s₀.heap.get? a=none->X.s₀.heap.get? T=none->H' a=none->H' T=none->C4 x C a T s'.heap->XW (.ref C) x H'->X.xe (.ref a) s'
section
variable{X:Cx}{Cs:List E5}{aa:List (E5×Obj)}{σ σ':St}{H2 H':Hp}{s2 s':E2}{scope:aa5}{cl:List (Str×E5)}{ao:List Str}{XW:XK}
theorem oZ(I2:Inv X aa σ H2 s2) {fp:List E5}(f2:∀b∈fp,cA X aa H2 b) {pins':List (E5×Obj)}
  (I':Inv (aD X scope cl (X.N++ao) (s2.heap.objs.size+1) s2 H2 fp) pins' σ' H' s') {h':I0} (hs:U6 (s2.heap.objs.size+1) s'.heap h') :
  Inv X aa σ H' { s' with heap:=h' }:=by
 have hC:H' (s2.heap.objs.size+1)=none:=I'.free;have up:∀b o,b≠s2.heap.objs.size+1->s'.heap.get? b=some o->h'.get? b=some o:=fun b o hb e=>(hs.2 b hb).trans e;have nC:∀b u,H' b=some u->b≠s2.heap.objs.size+1:=fun b u e z=>by rw[z,hC]at e;cases e
 have hok:HOk X.prog X.w H' h':=fun b u e=>by
  refine(I'.hok b u e).stay (fun c v hc q=>up c v ?_ q) (fun c q=>q) fun c xs q=>q;rcases hc with rfl|hc
  ·exact nC _ _ e
  ·exact nC _ _ hc
 have un:Un (frs X.stack) fp H2 H' s2.heap h':=by
  have U:=I'.base;have ltC:∀b o,s2.heap.get? b=some o->b≠s2.heap.objs.size+1:=fun b o e=>F8 (O9 (F2 e));refine⟨fun b o e nb hb hx=>up b o (ltC b o e) (U.keep b o e nb hb hx),fun b o e nb hb hx=>?_,U.free,fun b o e hx=>?_,U.tups,U.frzs,U.tbls⟩
  ·obtain⟨sl,q⟩:=U.slot b o e nb hb hx;exact⟨sl,up b _ (ltC b o e) q⟩
  ·obtain⟨o',q⟩:=U.there b o e hx;exact⟨o',up b _ (ltC b o e) q⟩
 exact I2.call' (s':={ s' with heap:=h' }) (ch:=fp) I'.os un hok I'.bare fun b hb=>⟨(f2 b hb).2.2.2.1,(f2 b hb).2.1,(f2 b hb).2.2.2.2.1,(f2 b hb).2.2.2.2.2⟩
def mR(a:E5) (h:I0):Prop:=∃o,h.get? a=some o
theorem lJ{P:J4}{w:O3}{H:Hp}{h:I0}{a:E5}(z:mR a h):bg P w H h a (.ext (mR a)):=⟨z,z,fun h1 h2 ⟨o,q⟩ k=>⟨o,k _ q⟩⟩
theorem u9(hex:X.ex=[]) (hsk:X.stack=X.env::X.outer) (hfm:X.env.frame=some X.env.locals) (hxe:vV X Cs XW) (I2:Inv X aa σ H2 s2) {fp:List E5}(f2:∀b∈fp,cA X aa H2 b) {pins':List (E5×Obj)}(hfp:∀b∈fp,∃o,(b,o)∈pins')
  {e:s0} {s5:E2} (h:Bo (aD X scope cl (X.N++ao) (s2.heap.objs.size+1) s2 H2 fp) Cs pins' σ' XW e s5) {use:Option (s0->Sem Unit)} {Q:s0->E2->Prop} {acc:s0} :
  notedBy (J9 X.prog X.w) X.A (an9 scope cl (s2.heap.objs.size+1) X.env) (fun x s'=>ao0 (J9 X.prog X.w) X.A X.xe use Q acc (s2.heap.objs.size+1) (.error x) s') e s5:=by
 obtain⟨s1,H1,I1,i,C',x,a,T,H',hC',rfl,os,bare,un,hok,ha,hna,hnT,fl,q⟩:=h;have I5:Inv (aD X scope cl (X.N++ao) (s2.heap.objs.size+1) s2 H2 fp) pins' σ' H' s5:=I1.call' (ch:=[]) os un hok bare fun b z=>absurd z (by simp);obtain⟨oe,vs,oT,ts,f1,f3,f4,f5,f6,f7,f8,f9,f10⟩:=fl;have hst:s5.heap.FunFrames _ X.stack:=I5.stack;have hfr:∀b∈frs X.stack,∃o,s5.heap.get? b=some o/\∀vs:Array s0,o.data≠ab4 vs:=fun b hb=>(hst.mem hb).2;have hA:X.A.frames=some (X.env::X.outer):=by rw[<-hsk];exact I2.ok.frames
 show F6 _ _ (ag3 (.ref a) X.env) _ _ _;refine uA df (base:=ad2 s5.heap (a::T::frs X.stack)) hA (by rw[<-hsk];exact Z6 hst fun env he b hb=>F7 _ (F7 _ (S4.mpr ⟨env,he,hb⟩))) hfm
  ⟨oe,vs,T,oT,ts,f1,f3,f4,f5,Q4 _ (by simp),f7,f8,f9,f10⟩ (fun b o e=>aa4 _ e) (Q4 _ (by simp)) fun h6 g=>?_
 obtain⟨st2,ff2,⟨oe2,vs2,T2,oT2,ts2,t1,t2,t3,t4,t5,t6,t7,t8,t9⟩,up2⟩:=g;have hT2f:T2∉frs X.stack:=fun hb=>by
  obtain⟨o',e',d'⟩:=hfr T2 hb;obtain⟨sl,q2⟩:=up2 T2 o' e' d';rw[t7]at q2;cases q2;exact d' _ t8
 have hT2:T2=T∨s5.heap.get? T2=none:=by
  by_cases z:T2=T
  ·exact .inl z
  ·right;cases e:s5.heap.get? T2 with
   |none=>rfl
   |some o =>
    rw[P7 _ e fun z'=>by
     rcases E9.mp z' with z'|z'
     ·exact t6 z'
     rcases E9.mp z' with z'|z'
     ·exact z z'
     ·exact hT2f z']at t5
    cases t5
 have hz1:s1.heap.get? T2=none/\H' T2=none:=by
  rcases hT2 with rfl|z
  ·exact⟨f6,hnT⟩
  ·constructor
   ·cases e:s1.heap.get? T2 with
    |none=>rfl
    |some o =>
     obtain⟨o1,e1⟩:=un.there T2 o e (by simp);rw[z]at e1;cases e1
   ·cases e:H' T2 with
    |none=>rfl
    |some o =>
     obtain⟨o1,e1⟩:=(hok T2 o e).is;rw[z]at e1;cases e1
 have I6:=jz (h:=h6) I1 os bare un hok (Z:=[a,T,T2]) (fun b o e hz hf=>st2 b o (P7 _ e fun z=>by
   rcases E9.mp z with z|z
   ·exact hz (by simp[z])
   rcases E9.mp z with z|z
   ·exact hz (by simp[z])
   ·exact hf z))
  (fun b o hb e => by
   obtain⟨o',e',d'⟩:=hfr b hb;rw[e]at e';cases e';exact up2 b o e d') (fun b hb=>by
   rcases E9.mp hb with rfl|hb
   ·exact⟨ha,hna⟩
   rcases E9.mp hb with rfl|hb
   ·exact⟨f6,hnT⟩
   obtain rfl:=J0.mp hb;exact hz1)
 have no2:∀{b:E5},s1.heap.get? b=none->s2.heap.get? b=none:=fun {b} hb=>by
  cases e:s2.heap.get? b with
  |none=>rfl
  |some o =>
   by_cases hx:b∈fp
   ·obtain⟨o',hp⟩:=hfp b hx;have:=(I1.pin (b,o') (J3 _ hp)).1;rw[show s1.heap.get? b=none from hb]at this;cases this
   ·obtain⟨o1,e1⟩:=I1.base.there b o e hx;rw[hb]at e1;cases e1
 have no0:∀{b:E5},s2.heap.get? b=none->X.s₀.heap.get? b=none:=fun {b} hb=>by
  cases e:X.s₀.heap.get? b with
  |none=>rfl
  |some o =>
   obtain⟨o1,e1⟩:=I2.base.there b o e (by rw[hex];simp);rw[hb]at e1;cases e1
 obtain⟨m,hm,_⟩:=I6.loc;refine⟨m,hm,fun h' hs' cenv _=>?_⟩;have I7:=oZ I2 f2 I6 hs';obtain⟨m1,⟨o1,es1,ep1,g1,_⟩,_⟩:=I1.loc;have aC:a≠s2.heap.objs.size+1:=fun z=>by
  have g1':s1.heap.get? (s2.heap.objs.size+1)=_:=g1;rw[<-z,ha]at g1';cases g1'
 have tC:T2≠s2.heap.objs.size+1:=fun z=>by
  have g1':s1.heap.get? (s2.heap.objs.size+1)=_:=g1;rw[<-z,hz1.1]at g1';cases g1'
 have te:h'.get? a=some oe2:=(hs'.2 _ aC).trans t1;have tT:h'.get? T2=some oT2:=(hs'.2 _ tC).trans t7;have h3:3<ts2.size:=(N1.mp t9).1;have n2:∀{b o},s2.heap.get? b=some o->b≠T2:=fun e z=>by rw[z,no2 hz1.1]at e;cases e
 have J1:=I7.track (a:=T2) (φ:=mR T2) hz1.2 (lJ ⟨oT2,tT⟩) (no0 (no2 hz1.1)) (by
   obtain⟨m,⟨o,es,ep,g,_⟩,_⟩:=I2.loc;exact(n2 g).symm) (fun x c e=>by
   obtain⟨v,o,g,_⟩:=I2.cell x c e;exact n2 g) (fun p hp=>n2 (I2.pin p hp).1)
 unfold PySem.passOn;refine o0 (O7 te t3 t4 ?_);rw[if_neg (show ¬ ((F3 T2==K0)=true)from by simp)];refine o0 (sZ te t3 t4 tT t8 h3 fun fl=>wpAny_throw ?_);have self:=P5 (U2 fun x=>x.setIfInBounds 3 fl) tT (ad8 (U1 t8 _));have J2:=J1.write (t':=s5.toks) (h':=h'.update T2 (U2 fun x=>x.setIfInBounds 3 fl)) (x:=T2) (e:=T2) (o:=.ext (mR T2)) (by rw[az];trivial) (.inl rfl) (fun b u hb hu=>(K2 _ _ (M9 hb)).trans hu) ⟨_,self⟩ (lJ ⟨_,self⟩);rw[qE]at J2;exact hxe aa σ H' _ i C' a T2 x (J2.forget hz1.2) hC' (no0 (no2 ha)) (no0 (no2 hz1.1)) hna hz1.2 ⟨oe2,vs2,_,_,fl,(K2 _ _ t6).trans te,t2,t3,t4,t6,self,U1 t8 _,by simp[h3]⟩ q
end
section
variable{P:J4}{w:O3}{K:u8}{mg:Str->Option s0}{base:I0}{N:List Str}{qual:Str}{scope:aa5}{f:E5}{cd:s0}{A:L8}{outer:List Env}{s:E2}{H:Hp}{E:XK}{Cs:List E5}
theorem xe3:vV (fm (CX2 P w Cs) P w K mg base N qual scope f cd A outer s H E) Cs (fun c x H'=>∀C,c=.ref C->E (.ref C) x H'):=fun _ _ _ _ _ _ _ _ _ I hC h0 hT hna hnT fl q=>zA I hC h0 hT hna hnT fl (q _ rfl)
end
section
variable{prog:J4}{w:O3}{A:L8}{R:an7->E2->Prop}{s:E2}{el tg elt:K4}{k:Nat}{p:Pos}{it acc:s0}{env:Env}{gs:List ae0}{sc:aa5}{ps:Pos}
theorem kS(hT:tF (lcE el gs sc ps) k p tg [] (qW (lcE el gs sc ps) k elt)) (hq:(ac4 (lcE el gs sc ps) k it acc env).quiet=true:=by rfl) (I:Nat->E2->Prop)
  (turn:∀ n s,I n s → F6 (J9 prog w) A (an0 it) (fun r s₁ => match r with
   |none=>R (.ok .next) s₁
   | some v => F6 (J9 prog w) A (ad4 tg it v) (fun _ s₁ => F6 (J9 prog w) A (af7 tg env v) (fun _ s₂ =>
     F6 (J9 prog w) A (Z4 elt env) (fun x s₄=>F6 (J9 prog w) A (ap2 (.builtin "list.append") [acc,x]) (fun _ s₅=>∃m,m<n/\I m s₅) (fun _ _=>False) s₄) (notedBy (J9 prog w) A env fun x s'=>R (.error x) s') s₂) (fun _ _=>False) s₁) (fun _ _=>False) s₁) (fun _ _=>False) s)
  (n:Nat) (h:I n s) :
  ac2 (J9 prog w) A (.compLoop (lcE el gs sc ps) k it acc env) R s:=by
 refine codeAny_loop hq I (fun n s hI=>?_) n h;show F6 _ A ((compTurn (lcE el gs sc ps) k it acc env).onRaise (fun x=>do ag3 x env;theTreesLotGoes x)) _ _ s;refine wpAny_noted ?_;rw[hT];refine o0 (aa6 (o0 (L5 (turn n s hI) (fun r s₁ h₁=>?_) fun _ _ h'=>h'.elim)));cases r with
 |none=>exact E3 h₁
 |some v =>
  refine o0 (L5 h₁ (fun _ s1 h₁=>?_) fun _ _ h'=>h'.elim);refine o0 (L5 h₁ (fun _ s₂ h₂=>o0 (wpAny_tests_nil ?_)) fun _ _ h'=>h'.elim);rw[if_pos rfl];refine o0 (o0 (L5 h₂ (fun x s₄ h₄=>o0 (L5 h₄ (fun _ s₅ h₅=>E3 (E3 ⟨rfl,h₅⟩)) fun _ _ h'=>h'.elim)) fun _ _ h'=>h'))
end
abbrev TEx:=St->Hp->VK->XK->Prop
def PEx(Y:Cx) (Cs:List E5) (e:K4) (t:TEx):Prop:=∀(aa:List (E5×Obj)) (s:E2) (σ:St) (H:Hp) (Q:VK) (XW:XK),Inv Y aa σ H s->t σ H Q XW->F6 (J9 Y.prog Y.w) Y.A (Z4 e Y.env) (EP Y aa σ Q) (Bo Y Cs aa σ XW) s
section
variable{Y:Cx}{D:E5}{el tg elt:K4}{g:TG}{te:TEx}{k:Nat}{p:Pos}{gs:List ae0}{sc:aa5}{ps:Pos}{Cs:List E5}
def jf(J:It) (g:TG) (te:TEx) (W:Nat->Nat->List V->St->Hp->Prop) (Z:List V->St->Hp->Prop) (XW:XK):Prop :=
 ∀i m ys σ H,W i m ys σ H->ys.length<=E4/\((J.stop i H/\Z ys σ H) ∨
  (J.go i H/\∀x H',J.yld i H x H'->g x σ H' fun σ2 H2=>te σ2 H2 (fun y H3=>∃m',m'<m/\W (i+1) m' (ys++[y]) σ2 H3) XW))
theorem pq(c:gK Y D) (he:PEx Y Cs elt te) (hT:tF (lcE el gs sc ps) k p tg [] (qW (lcE el gs sc ps) k elt)) {it2:E5}(hg:PG Y tg g)
  {its0:List s0} {nn0:Nat} {ys0:List V} {σ:St} {H:Hp} {s:E2} (I:Inv Y [(D,bR its0 nn0)] σ H s) (rv0:ax ys0 its0) {fp2:List E5} {tn2:Nat->I0->Prop} {J2:It} (T:iB Y.prog Y.w Y.K tg J2 fp2 it2 tn2) (st:tn2 0 s.heap)
  (f:∀b∈fp2,cA Y [(D,bR its0 nn0)] H b) {W2:Nat->Nat->List V->St->Hp->Prop} {Z2:List V->St->Hp->Prop} {XW:XK} {m0:Nat} (w0:W2 0 m0 ys0 σ H) (turn:jf J2 g te W2 Z2 XW) {R:an7->E2->Prop}
  (hR:∀(s':E2) (ys:List V) (its:List s0) (n:Nat) (σ':St) (H':Hp),Inv Y [(D,bR its n)] σ' H' s'->ax ys its->ys.length<=E4->Z2 ys σ' H'->R (.ok .next) s')
  (hX:∀(e:s0) (s':E2) (σ':St) (pins':List (E5×Obj)),(∀b∈fp2,∃o,(b,o)∈pins')->Bo Y Cs pins' σ' XW e s'->notedBy (J9 Y.prog Y.w) Y.A Y.env (fun x s'=>R (.error x) s') e s') :
  ac2 (J9 Y.prog Y.w) Y.A (.compLoop (lcE el gs sc ps) k (.ref it2) (.ref D) Y.env) R s:=by
 have fpc:∀{H:Hp} {n:Nat} {its:List s0},(∀b∈fp2,H b=none)->∀b∈fp2,cA Y [(D,bR its n)] H b:=fun hn b hb=>by
  obtain⟨_,a1,a2,a3,a4,a5⟩:=f b hb;refine⟨hn b hb,a1,a2,a3,a4,fun p hp=>?_⟩;rw[c.pn,O5]at hp;obtain rfl:=J0.mp hp;exact a5 (D,bR its0 nn0) (by rw[c.pn];simp)
 refine kS hT rfl (fun n s'=>∃i ys its nn σ' H',Inv Y [(D,bR its nn)] σ' H' s'/\ax ys its/\tn2 i s'.heap/\(∀b∈fp2,H' b=none)/\W2 i n ys σ' H') ?_ m0
  ⟨0,ys0,its0,nn0,σ,H,I,rv0,st,fun b hb=>(f b hb).1,w0⟩
 rintro n s' ⟨i,ys,its,nn,σ',H',I4,rv,st4,fr4,w4⟩;obtain⟨hz,h⟩:=turn i n ys σ' H' w4;rcases h with⟨stop,hZ⟩|⟨go,step⟩
 ·refine thn (T.done Y rfl rfl rfl c.calm i _ s' _ H' (fun _ _=>False) I4 (fpc fr4) st4 stop) fun r s4 ⟨hr,I5⟩=>?_;subst hr;exact hR s4 ys its nn σ' H' I5 rv hz hZ
 ·refine thn (T.item Y rfl rfl rfl c.calm i _ s' _ H' (fun _ _=>False) I4 (fpc fr4) st4 go) fun r s5 ⟨u,hr,h5⟩=>?_;subst hr;refine thn h5 fun _ s6 ⟨x,H6,I6,r6,y6,st6,fr6⟩=>?_;have I6':=I6.pinned (fpc fr6) (T.obj _ _ st6);refine thF c.xe (hg _ s6 _ H6 x u _ I6' r6 (step x H6 y6)) fun _ s7 ⟨σ7,H7,I7,q7⟩=>?_;refine L5 (he _ s7 σ7 H7 _ XW I7 q7) (fun v s9 hup=>hup.el fun y H9 I9 r9 q9=>?_) fun e s9 z=>hX e s9 σ7 _ (fun b hb=>by
   obtain⟨o,e,d⟩:=T.obj _ _ st6 b hb;exact⟨o,J3 _ (cf hb e)⟩) z
  have pacc:=I9.pin (D,bR its nn) (J3 _ (U4 _ P0));have hzi:its.toArray.size<=E4:=by rw[F1,<-rv.length];exact hz
  refine PySem.wpAny_list_append_plain (hsz:=hzi) ⟨nn,pacc.1⟩ fun h' hl' hs'=>?_;obtain⟨n',hl'⟩:=hl';have I10:Inv Y [] σ7 H9 { s9 with heap:=h' } :=
   Inv.turned (t':=s9.toks) (it:=D) (I9.pins_of fun p hp=>absurd hp (by simp)) (fun b o hb e=>(hs'.2 b hb).trans e) pacc.2.1 pacc.2.2.1 c.ex c.cell (fun p hp=>absurd (show p∈([]:List (E5×Obj))from by rw[c.pn]at hp;exact hp) (by simp))
  obtain⟨m',hm,w'⟩:=q9;have keepD:∀b o,b≠D->s9.heap.get? b=some o->h'.get? b=some o:=fun b o hb e=>(hs'.2 b hb).trans e;refine⟨m',hm,i+1,ys++[y],its++[v],n',σ7,H9,I10.pins_of fun p hp=>?_,rv.append (.cons r9 .nil),?_,fun b hb=>?_,w'⟩
  ·have e:p=(D,bR (its++[v]) n'):=J0.mp hp;subst e;refine⟨?_,pacc.2.1,pacc.2.2.1,pacc.2.2.2.1,fun v z=>by cases z⟩;rw[hl'];simp[bR]
  ·exact T.keep _ _ _ st6 fun b hb o e=>keepD b o (fun z=>(f b hb).2.2.2.2.2 (D,bR its0 nn0) (by rw[c.pn];simp) z.symm) (I9.pin (b,o) (J3 _ (J3 _ (cf hb e)))).1
  ·obtain⟨o,e,d⟩:=T.obj _ _ st6 b hb;exact(I9.pin (b,o) (J3 _ (J3 _ (cf hb e)))).2.1
end
section
variable{X:Cx}{aa:List (E5×Obj)}{σ σ':St}{H2 H':Hp}{s2 s':E2}{scope:aa5}{cl:List (Str×E5)}{ms:List Bool}{ao:List Str}{elt t0 i0 tg iter:K4}{g0 g:TG}{te:TEx}{p pos:Pos}{Cs:List E5}{XW:XK}
theorem qg(S:cC X scope cl ms ao) (cO:X.calm=true) (hex:X.ex=[]) (hsk:X.stack=X.env::X.outer) (hfm:X.env.frame=some X.env.locals) (hxe:vV X Cs XW)
  (hg0:∀C s H ex,PG (aD X scope cl (X.N++ao) C s H ex) t0 g0) (he:∀C s H ex,PEx (aD X scope cl (X.N++ao) C s H ex) Cs elt te)
  (I2:Inv X aa σ H2 s2) {it:E5} {fp:List E5} {tn:Nat->I0->Prop} {J:It} (T:iB X.prog X.w X.K t0 J fp it tn) (st2:tn 0 s2.heap) (fz:∀b∈fp,cA X aa H2 b)
  {W:Nat->Nat->List V->St->Hp->Prop} {Z:List V->St->Hp->Prop} {m0:Nat} (w0:W 0 m0 [] (dS ms ao.length σ) H2) (turn:jf J g0 te W Z XW)
  {use:Option (s0->Sem Unit)} {Q:s0->E2->Prop} {E:s0->E2->Prop}
  (hRR:∀ (s':E2) (ys:List V) (its:List s0) (n:Nat) (σ':St) (H':Hp),Inv (aD X scope cl (X.N ++ ao) (s2.heap.objs.size + 1) s2 H2 fp) [(s2.heap.objs.size,bR its n)] σ' H' s' → ax ys its → ys.length ≤ E4 → Z ys σ' H' →
   ao0 (J9 X.prog X.w) X.A X.xe use Q (.ref s2.heap.objs.size) (s2.heap.objs.size+1) (.ok .next) s') :
  F6 (J9 X.prog X.w) X.A (newList []) (fun acc s₃=>F6 (J9 X.prog X.w) X.A (newFunctionEnv scope X.env.globals cl [] X.env.qual none .none (some X.env)) (fun cenv s₄ =>
   ac2 (J9 X.prog X.w) X.A (.compStart (lcE elt [⟨t0,i0,[],0⟩] scope pos) 0 (.ref it) acc { cenv with scope:=relabel scope X.env }) (ao0 (J9 X.prog X.w) X.A X.xe use Q acc cenv.locals) s₄) E s₃) E s2:=by
 refine O8 (wpAny_newFunctionEnv S.ncell (by intro y hy;simp at hy) (fun h₁ hns₁ hsb₁=>?_) S.kind);dsimp only at hns₁ hsb₁ ⊢;have hsz:(s2.heap.push { cls:=.type "list",dict:=none,data:=.seq ([]:List s0).toArray }).objs.size=s2.heap.objs.size+1:=by rw[R8]
 rw[hsz]at hns₁ hsb₁ ⊢;have hlt:∀b∈fp,b<s2.heap.objs.size:=fun b hb=>by
  obtain⟨o,e,_⟩:=T.obj _ _ st2 b hb;exact F2 e
 have old:∀b o,s2.heap.get? b=some o->h₁.get? b=some o:=fun b o e=>hsb₁.extBut b o (F8 (O9 (F2 e))) (E1 _ (E1 _ e));have hacc:h₁.get? s2.heap.objs.size=some (bR [] 0):=hsb₁.extBut _ _ (F8 (U7 _)) (E1 _ (F0 _ rfl));have hDn:H2 s2.heap.objs.size=none:=I2.hok.fresh (F5 _);have hDfs:∀b,s2.heap.objs.size<=b->b∉(aD X scope cl (X.N++ao) (s2.heap.objs.size+1) s2 H2 fp).fs:=fun b hb z=>by
  rcases E9.mp (I2.stkSub b z)with e|e
  ·subst e;exact absurd (J6 I2.lt hb) (S8 _)
  ·exact I2.nofs hb e
 have loop:∀s₃:E2,s₃={ s2 with heap:=h₁,toks:=s2.toks+([]:List (Str×s0)).length } ->
   ac2 (J9 X.prog X.w) X.A (.compLoop (lcE elt [⟨t0,i0,[],0⟩] scope pos) 0 (.ref it) (.ref s2.heap.objs.size) (an9 scope cl (s2.heap.objs.size+1) X.env)) (ao0 (J9 X.prog X.w) X.A X.xe use Q (.ref s2.heap.objs.size) (s2.heap.objs.size+1)) s₃:=by
  rintro s₃ rfl;have I3:Inv (aD X scope cl (X.N++ao) (s2.heap.objs.size+1) s2 H2 fp) [] (dS ms ao.length σ) H2 { s2 with heap:=h₁,toks:=s2.toks+([]:List (Str×s0)).length } :=
   rE I2 S fz hlt (ad6 _) rfl I2.bare old hns₁
  have c:gK (aD X scope cl (X.N++ao) (s2.heap.objs.size+1) s2 H2 fp) s2.heap.objs.size:=⟨rfl,cO,rfl,.inr (F5 _),fun x c e=>by
   obtain⟨v,o,ho,_⟩:=I2.cell x c (S.sub x c e);exact F8 (F2 ho)⟩
  refine pq c (he _ _ _ _) (p:=i0.pos) (fun _ _ _=>rfl) (hg0 _ _ _ _) (its0:=[]) (nn0:=0) (I3.pins_of fun p hp=>?_) .nil T (T.keep _ _ _ st2 fun b _ o e=>old b o e) (fun b hb=>?_) w0 turn ?_ ?_
  ·have e:p=(s2.heap.objs.size,bR [] 0):=J0.mp hp;subst e;exact⟨hacc,hDn,F8 (U7 _),hDfs _ (F5 _),fun v z=>by cases z⟩
  ·exact⟨(fz b hb).1,F8 (O9 (hlt b hb)),(pW I2 S fz hlt (ad6 _)).exfs b hb,.inl hb,fun x c e=>(fz b hb).2.2.2.2.1 x c (S.sub x c e),fun p hp=>by
    have:p=(s2.heap.objs.size,_):=J0.mp (show p∈[(s2.heap.objs.size,_)]from hp);subst this;exact V9 (hlt b hb)⟩
  ·exact fun s' ys its n σ' H' I' rv hz hZ=>hRR s' ys its n σ' H' I' rv hz hZ
  ·exact fun e s' σ' pins' hp h=>u9 hex hsk hfm hxe I2 fz hp h
 exact codeAny_compStart_list (loop _ rfl) (T.self _ 0 _ _ _ (T.keep _ _ _ st2 fun b _ o e=>old b o e) (loop _ rfl))
def B1(ms:List Bool) (k:Nat) (wi:TI) (g:TG) (te:TEx) (i:Nat) (XW:XK):TS:=fun D σ H=>wi σ H fun J H1=>∃(W:Nat->Nat->List V->St->Hp->Prop) (Z:List V->St->Hp->Prop),(∃m,W 0 m [] (dS ms k σ) H1)/\jf J g te W Z XW /\
 ∀ys σ' H p,Z ys σ' H->H p=none->D.nx (σ.set i (some (.ref p))) (upd H p (.lst ys))
theorem tG{i:Nat}{x:Str}{spos pos':Pos}(hN:X.N.Nodup) (hix:X.N[i]?=some x) (hx:X.env.scope.names.lookup x=some .local)
  (hsw:Z0 (lcE elt [⟨tg,iter,[],0⟩] scope pos) (some (.Name x pos')) spos.line X.env=ad0 true)
  (S:cC X scope cl ms ao) (cO:X.calm=true) (hex:X.ex=[]) (hsk:X.stack=X.env::X.outer) (hfm:X.env.frame=some X.env.locals) (hxe:vV X Cs XW) {wi:TI} (hi:PI X tg iter wi)
  (hg:∀C s H ex,PG (aD X scope cl (X.N++ao) C s H ex) tg g) (he:∀C s H ex,PEx (aD X scope cl (X.N++ao) C s H ex) Cs elt te)
  (hs:∀x,O1 iter X.env x=ad0 x:=by intro _;rfl):PS X (.Assign [.Name x pos'] (lcE elt [⟨tg,iter,[],0⟩] scope pos) spos) (B1 ms ao.length wi g te i XW):=by
 intro aa s σ H D I h;rw[exec_Assign_Name_used _ _ _ _ hsw];refine o0 (aa6 (o0 ?_));show F6 _ _ (do let _ <-comprehension (lcE elt [⟨tg,iter,[],0⟩] scope pos) scope X.env _ (newList []) false (Z4 iter X.env) (some (af7 (.Name x pos') X.env))) _ _ s;refine o0 (L5 (wpAny_comprehension_free (use:=some (af7 (.Name x pos') X.env)) (Q:=fun _ s'=>SP X aa D .next s') rfl hs S.clos S.kind S.names
  (thn (hi aa s σ H _ I h) fun v s1 h1=>thn h1 fun itv s2 h2=>?_)) (fun _ s' hq=>E3 (E3 hq)) fun _ _ e=>e)
 obtain⟨it,fp,tn,J,H2,e,I2,T,st2,f2,W,Z,⟨m0,w0⟩,turn,q⟩:=h2;subst e;refine qg S cO hex hsk hfm hxe hg he I2 T st2 f2 w0 turn (use:=some (af7 (.Name x pos') X.env)) (Q:=fun _ s'=>SP X aa D .next s') ?_;intro s' ys its n σ' H' I' rv hz hZ;obtain⟨m,hm,_⟩:=I'.loc;obtain⟨I3,hD⟩:=iy I2 f2 I' rv hz (U6.refl (s2.heap.objs.size+1) s'.heap);have hq:=q ys _ H' _ hZ hD;show F6 _ _ (af7 (.Name x pos') X.env (.ref s2.heap.objs.size)) _ _ _;refine wpAny_assign_Name (ig I3 hN hix (.inl hx) (v:=.ref s2.heap.objs.size) rfl (fun s4 I4 hsame=>?_) (.inr hx));obtain⟨a,hsb,ha⟩:=hsame;have hLC:s2.heap.objs.size+1≠X.env.locals:=V9 (O9 I2.lt);have haC:s2.heap.objs.size+1≠a:=by
  rcases ha with rfl|ha
  ·exact hLC
  ·intro z;obtain⟨v,o,ho,_⟩:=I2.cell x a ha;exact absurd (O9 (F2 ho)) (by rw[<-z];exact S8 _)
 have hCn:upd H' s2.heap.objs.size (.lst ys) (s2.heap.objs.size+1)=none:=by rw[aB (V9 (U7 _))];exact I'.free
 refine⟨m,hm.sameBut hsb haC,fun h' hs'=>?_⟩;refine⟨_,_,?_,hq⟩;have hL:∀b o,b≠s2.heap.objs.size+1->s4.heap.get? b=some o->h'.get? b=some o:=fun b o hb e=>(hs'.2 b hb).trans e;have I5:=Inv.turned (t':=s4.toks) (h':=h') (it:=s2.heap.objs.size+1) I4 (fun b o hb e=>hL b o hb e) hCn hLC (.inr (Nat.le_succ_of_le I2.sz)) (fun y c e=>by
  obtain⟨v,o,ho,_⟩:=I2.cell y c e;exact F8 (O9 (F2 ho))) (fun p hp=>by
  exact F8 (O9 (F2 (I2.pin p hp).1)))
 exact I5
end
def upX(K:u8) (Cs:List E5) (t:TXd):TEx:=fun σ H QV XW=>∃(Δ:DE) (M:DH) (Q:D->DH->Prop) (XH:Nat->Option E5->DH->Prop),SR K M H σ Δ/\HR K M H/\t Δ M Q XH/\(∀d M' v H',Q d M'->Ext M H M' H'->HR K M' H'->Rep K M' H' d v->QV v H') /\
 ∀(i:Nat) (x:Option E5) (C:E5) M' H',XH i x M'->Cs[i]?=some C->Ext M H M' H'->HR K M' H'->XW (.ref C) x H'
theorem BE{Y:Cx}{Cs:List E5}{e:K4}{t:TXd}(h:PXe Y Cs e t):PEx Y Cs e (upX Y.K Cs t):=by
 intro aa s σ H Q XW I ⟨Δ,M,Q',XH,sr,hr,q,k,kx⟩;refine L5 (h aa s σ H Q Δ M Q' XH I sr hr q k) (fun _ _ z=>z) fun ev s' z=>?_;obtain⟨s1,H1,I1,i,C,y,a,T,H',h1,h2,h3,h4,h5,h6,h7,h8,h9,h10,j,C',M',q1,q2,q3,q4,q5⟩:=z;exact⟨s1,H1,I1,i,C,y,a,T,H',h1,h2,h3,h4,h5,h6,h7,h8,h9,h10,by rw[q1];exact kx j y C' M' H' q3 q2 q4 q5⟩
def gq(g:GD) (te:TXd):List D->DE->DH->List D->(List D->DH->Prop)->(Nat->Option E5->DH->Prop)->Prop
 |[],_,M,acc,Q,_=>Q acc M
 |d::ds,Δ,M,acc,Q,XH=>∃ Δ',g d Δ=some Δ'/\te Δ' M (fun y M2=>gq g te ds Δ' M2 (acc++[y]) Q XH) XH
theorem uW{K:u8}{Cs:List E5}{g:GD}{te:TXd}{gv:TG}(kg:ki K g gv) {J:It}{ds:List D}{M1:DH}{H1:Hp}(it:ItD K J ds M1 H1) (hr1:HR K M1 H1) (hz:ds.length<=E4) {R:List D->DH->Prop}{XH:Nat->Option E5->DH->Prop}{XW:XK}{σ:St}{Δ:DE}(sr:SR K M1 H1 σ Δ) (q:gq g te ds Δ M1 [] R XH)
  (hx:∀(i:Nat) (x:Option E5) (C:E5) M' H',XH i x M'->Cs[i]?=some C->Ext M1 H1 M' H'->HR K M' H'->XW (.ref C) x H') :
  ∃(W:Nat->Nat->List V->St->Hp->Prop) (Z:List V->St->Hp->Prop),(∃m,W 0 m [] σ H1)/\jf J gv (upX K Cs te) W Z XW/\∀ys σ' H',Z ys σ' H'->∃M' acc,Ext M1 H1 M' H'/\HR K M' H'/\am K M' H' acc ys/\R acc M':=by
 refine⟨fun i m ys σ' H'=>∃ Δ' M' acc,m=ds.length-i/\i<=ds.length/\Ext M1 H1 M' H'/\HR K M' H'/\SR K M' H' σ' Δ'/\am K M' H' acc ys/\acc.length<=i/\gq g te (ds.drop i) Δ' M' acc R XH,_,
  ⟨ds.length,_,M1,[],by simp,O4 _,Ext.refl _ _,hr1,sr,am.nil,by simp,q⟩,?_,fun _ _ _ z=>z⟩
 rintro i m ys σ2 H2 ⟨Δ2,M2,acc,rfl,hi2,e2,hr2,sr2,ra,la,f2⟩;have hl:ys.length<=E4:=by rw[<-ra.length];lia
 refine⟨hl,?_⟩;obtain⟨go,stop⟩:=it M2 H2 e2 hr2 i
 by_cases hlt:i<ds.length
 ·have hd:ds[i]?=some ds[i]:=by simp[hlt]
  obtain⟨g1,y1⟩:=go _ hd;rw[V7 hlt]at f2;simp only[gq]at f2;obtain⟨Δ3,eg,f3⟩:=f2;refine .inr ⟨g1,fun x H' hy=>?_⟩;obtain⟨e3,hr3,rx⟩:=y1 x H' hy;refine kg _ x σ2 Δ2 Δ3 M2 H' _ (sr2.ext e3) hr3 rx eg fun σ3 sr3=>?_;refine⟨Δ3,M2,_,XH,sr3,hr3,f3,fun y M5 v5 H5 q5 e5 hr5 rv5=>?_,fun i0 x0 C0 M'' H'' z1 z0 z2 z3=>hx i0 x0 C0 M'' H'' z1 z0 ((e2.trans e3).trans z2) z3⟩;exact⟨ds.length-(i+1),by lia,Δ3,M5,acc++[y],rfl,hlt,(e2.trans e3).trans e5,hr5,sr3.ext e5,((ra.ext e3).ext e5).append (am.cons rv5 am.nil),by simp;lia,q5⟩
 ·rw[Z5 (by lia)]at f2;exact .inl ⟨stop (by lia),M2,acc,e2,hr2,ra,f2⟩
def leX(E:cP):Nat->Option E5->DH->Prop:=fun i x M'=>∃M2,LeM M2 M'/\E.rt (xA i x) M2
theorem mi{K:u8}{Cs:List E5}{XW:E5->Option E5->Hp->Prop}{E:cP}{M:DH}{H:Hp}(xx:∀(i:Nat) (x:Option E5) (C:E5) M' H',E.rt (xA i x) M'->Cs[i]?=some C->Ext M H M' H'->HR K M' H'->XW C x H') :
  ∀(i:Nat) (x:Option E5) (C:E5) M' H',leX E i x M'->Cs[i]?=some C->Ext M H M' H'->HR K M' H'->XW C x H':=fun i x C _ H' ⟨M2,hle,q⟩ hC e hr=>xx i x C M2 H' q hC (e.trans (Ext.le hle)) (hr.le hle)
def zr(i:Nat) (ms:List Bool) (k:Nat) (wi:TId) (g:GD) (te:TXd):TSd:=fun E Δ M=>wi Δ M fun ds M1=>ds.length<=E4/\gq g te ds (iO ms k Δ) M1 [] (fun ys M2=>E.nx (Δ.set i (some (.lst ys))) M2) (leX E)
section
variable{X:Cx}{XW:E5->Option E5->Hp->Prop}{Cs:List E5}{scope:aa5}{cl:List (Str×E5)}{ms:List Bool}{ao:List Str}{elt tg iter e:K4}{te:TXd}{pos:Pos}
theorem tM{i:Nat}{x:Str}{spos pos':Pos}{wi:TId}{g:GD}(hN:X.N.Nodup) (hix:X.N[i]?=some x) (hx:X.env.scope.names.lookup x=some .local)
  (hsw:Z0 (lcE elt [⟨tg,iter,[],0⟩] scope pos) (some (.Name x pos')) spos.line X.env=ad0 true)
  (S:cC X scope cl ms ao) (cO:X.calm=true) (hex:X.ex=[]) (hsk:X.stack=X.env::X.outer) (hfm:X.env.frame=some X.env.locals) (hxe:vV X Cs fun c x H'=>∀C,c=.ref C->XW C x H')
  (hi:QId X tg iter wi) (hg:PGa X scope cl ao tg g) (he:∀C s H ex,PXe (aD X scope cl (X.N++ao) C s H ex) Cs elt te)
  (hs:∀x,O1 iter X.env x=ad0 x:=by intro _;rfl):PSy X Cs XW (.Assign [.Name x pos'] (lcE elt [⟨tg,iter,[],0⟩] scope pos) spos) (zr i ms ao.length wi g te):=by
 rw[QId.eq]at hi;obtain⟨gv,pg,kg⟩:=hg;refine(tG (te:=upX X.K Cs te) hN hix hx hsw S cO hex hsk hfm hxe hi pg (fun C s H ex=>BE (he C s H ex)) hs).conv fun D σ H ⟨Δ,M,E,sr,hr,q,k,xx⟩=>?_;refine⟨Δ,M,_,sr,hr,q,fun ds M1 J H1 ⟨hz,q1⟩ e1 hr1 it=>?_⟩;obtain⟨W,Z,hW,hC,hZ⟩:=uW (Cs:=Cs) (XW:=fun c x H'=>∀C,c=.ref C->XW C x H') kg it hr1 hz ((sr.ext e1).comp ms ao.length) q1 (fun i0 x0 C0 M' H' z1 z0 z2 z3 C1 ec=>by cases ec;exact mi xx i0 x0 C0 M' H' z1 z0 (e1.trans z2) z3);refine⟨W,Z,hW,hC,fun ys σ' H' p z hp=>?_⟩;obtain⟨M',acc,e',hr',ra,q'⟩:=hZ _ _ _ z;refine k.nx _ M' _ _ q' ((e1.trans e').trans (Ext.new hr' hp)) (hr'.new hp) ((((sr.ext e1).ext e').ext (Ext.new hr' hp)).set i ?_);simp only[Rep];exact⟨p,ys,rfl,⟨az,hr'.fresh hp⟩,ra.ext (Ext.new hr' hp)⟩
def D8(K:u8) (Cs:List E5) (XW:E5->Option E5->Hp->Prop) (t:TXd):TE:=fun σ H QV=>∃(Δ:DE) (M:DH) (Q:D->DH->Prop) (XH:Nat->Option E5->DH->Prop),SR K M H σ Δ/\HR K M H/\t Δ M Q XH/\(∀d M' v H',Q d M'->Ext M H M' H'->HR K M' H'->Rep K M' H' d v->QV v H') /\
 ∀(i:Nat) (x:Option E5) (C:E5) M' H',XH i x M'->Cs[i]?=some C->Ext M H M' H'->HR K M' H'->XW C x H'
def PXy(X:Cx) (Cs:List E5) (XW:E5->Option E5->Hp->Prop) (e:K4) (t:TXd):Prop:=PE X e (D8 X.K Cs XW t)
theorem fH{es:List K4}{t:TAd}{S:SpD}{fn:Str}{k n:Nat}{p2 p3:Pos}(FX:FnY X.prog X.w X.K X.mg X.base fn k n S Cs) (hr:bt k X.A) (hgf:Gl X fn) (hx:ft (CX2 X.prog X.w Cs) X fun c x H'=>∀C,c=.ref C->XW C x H') (ha:QAd X (e::es) t)
  (hdb:(fn==("__debug__":Str))=false:=by decide) (he:E8 (e::es) X.env=(false,Z4 e X.env)::E8 es X.env:=by rfl) (hpl:(V0 p3 (E8 es X.env)).any (·.1)=false:=by rfl) :
  PXy X Cs XW (.Call (.Name fn p2) (e::es) [] p3) (dXC n S t):=by
 rw[QAd.eq]at ha;obtain⟨f,fd,ps,F,hmf,hkf,hbf⟩:=FX.ex;exact(m6 F hr hgf hmf hkf hbf .nil hx ha hdb he hpl).conv fun σ H QV ⟨Δ,M,Q,XH,sr,hrr,q,kk,x⟩=>⟨Δ,M,_,sr,hrr,q,fun ds M1 vs H1 ⟨hl,q1⟩ e1 hr1 rv=>by
  dsimp only;rw[R7];exact⟨ds,M1,_,hl,rv,hr1,q1,fun d M' v H' q' e' hr' rv'=>kk d M' v H' (q'.1 (rM rv')) (e1.trans e') hr' rv',fun i0 x0 C0 M' H' q' hC e' hr' C1 ec=>by cases ec;exact x i0 x0 C0 M' H' (q'.2 i0 x0 bD) hC (e1.trans e') hr'⟩⟩
def zd(te:TXd):TSd:=fun E Δ M=>te Δ M E.rt (leX E)
theorem vX(he:PXy X Cs XW e te):PSy X Cs XW (.Return (some e) pos) (zd te) :=
 (mr he).conv fun D σ H ⟨Δ,M,E,sr,hrr,q,kk,x⟩=>⟨Δ,M,_,_,sr,hrr,q,fun d M' v H' q' e' hr' rv'=>kk.rt d M' v H' q' e' hr' rv',mi x⟩
def yV(i:Nat) (te:TXd):TSd:=fun E Δ M=>te Δ M (fun d M'=>E.nx (Δ.set i (some d)) M') (leX E)
theorem fu{rest:List Z7}:mM X Cs XW rest (fun _ _ _=>False):=fun aa s σ H D I ⟨_,_,_,_,_,h,_⟩=>h.elim
end
section
variable{X:Cx}{XW:E5->Option E5->Hp->Prop}{Cs:List E5}{a e o i:K4}{es:List K4}{te:TXd}{ta to ti:TEd}{pos:Pos}
theorem oY(j:Nat) {x:Str}{p1:Pos}(hN:X.N.Nodup) (hi:X.N[j]?=some x) (hx:Loc X.env.scope x) (he:PXy X Cs XW e te) (hs:Z0 e (some (.Name x p1)) pos.line X.env=ad0 false:=by rfl)
  (hf:X.fn x=true∨X.env.scope.names.lookup x=some .local:=by first|exact .inl rfl|exact .inr rfl|assumption):PSy X Cs XW (.Assign [.Name x p1] e pos) (yV j te) :=
 (uI hN hi hx he hs hf).conv fun D σ H ⟨Δ,M,E,sr,hr,q,k,x⟩=>⟨Δ,M,_,_,sr,hr,q,fun d M' v H' q' e' hr' rv'=>k.nx _ M' _ H' q' e' hr' ((sr.ext e').set j rv'),mi x⟩
def pC(to ti:TEd) (te:TXd):TSd:=fun E Δ M=>te Δ M (fun d M1=>to Δ M1 fun x M2=>ti Δ M2 fun y M3=>∃a kvs k,x=.ref a/\M3 a=some (.dK kvs)/\y=kD k/\kvs.length<E4/\E.nx Δ (ar M3 a (.dK (fO kvs k d)))) (leX E)
theorem xB{p:Pos}(hu:X.A.units+1<ae6) (ho:QEd X o to) (hi:QEd X i ti) (he:PXy X Cs XW e te) (hs:Z0 e (some (.Subscript o i p)) pos.line X.env=ad0 false:=by rfl):PSy X Cs XW (.Assign [.Subscript o i p] e pos) (pC to ti te):=by
 rw[QEd.eq]at ho hi;exact PS.conv (mX hu ho hi he hs) fun D σ H ⟨Δ,M,E,sr,hr,q,k,xx⟩=>⟨Δ,M,_,_,sr,hr,q,fun d M1 v H1 q1 e1 hr1 rv=>⟨Δ,M1,_,sr.ext e1,hr1,q1,fun x M2 u H2 q2 e2 hr2 ru=>⟨Δ,M2,_,(sr.ext e1).ext e2,hr2,q2,fun y M3 w H3 ⟨a,kvs,ky,ex,em,ey,hz,q3⟩ e3 hr3 rw_=>by
  subst ex;subst ey;simp only[Rep]at ru;subst ru;obtain⟨ks,h3,kr⟩:=hr3 a _ em;have ew:Ext M3 H3 (ar M3 a (.dK (fO kvs ky d))) (upd H3 a (.dK (dD ks ky v))):=Ext.write em;refine⟨a,_,rfl,by rw[iD rw_];exact my.k h3 (by rw[<-kr.length];exact hz),?_⟩;exact k.nx Δ _ σ _ q3 (((e1.trans e2).trans e3).trans ew) (hr3.put ew ⟨_,az,(kr.put ky ((rv.ext e2).ext e3)).ext ew⟩) ((((sr.ext e1).ext e2).ext e3).ext ew)⟩⟩,mi xx⟩
abbrev kH:=DE->DH->(List D->DH->Prop)->(Nat->Option E5->DH->Prop)->Prop
def D0(K:u8) (Cs:List E5) (XW:E5->Option E5->Hp->Prop) (t:kH):TA:=fun σ H QV=>∃(Δ:DE) (M:DH) (Q:List D->DH->Prop) (XH:Nat->Option E5->DH->Prop),SR K M H σ Δ/\HR K M H/\t Δ M Q XH/\(∀d M' v H',Q d M'->Ext M H M' H'->HR K M' H'->am K M' H' d v->QV v H') /\
 ∀(i:Nat) (x:Option E5) (C:E5) M' H',XH i x M'->Cs[i]?=some C->Ext M H M' H'->HR K M' H'->XW C x H'
def PAy(X:Cx) (Cs:List E5) (XW:E5->Option E5->Hp->Prop) (es:List K4) (t:kH):Prop:=PA X es (D0 X.K Cs XW t)
def zl(te:TXd):kH:=fun Δ M Q XH=>te Δ M (fun x M1=>Q [x] M1) XH
def tI(ta:TEd) (tr:kH):kH:=fun Δ M Q XH=>ta Δ M fun x M1=>tr Δ M1 (fun xs M2=>Q (x::xs) M2) XH
theorem qu(he:PXy X Cs XW e te) (hs:E8 [e] X.env=(false,Z4 e X.env)::E8 [] X.env:=by rfl):PAy X Cs XW [e] (zl te) :=
 (bf he dw hs).conv fun σ H Q ⟨Δ,M,R,XH,sr,hr,q,k,xx⟩=>⟨Δ,M,_,XH,sr,hr,q,fun d M1 v H1 q1 e1 hr1 rv=>k _ M1 _ H1 q1 e1 hr1 (am.cons rv am.nil),xx⟩
theorem xP{tr:kH}(ha:QEd X a ta) (hr:PAy X Cs XW es tr) (hs:E8 (a::es) X.env=(false,Z4 a X.env)::E8 es X.env:=by rfl):PAy X Cs XW (a::es) (tI ta tr):=by
 rw[QEd.eq]at ha;exact(bf ha hr hs).conv fun σ H Q ⟨Δ,M,R,XH,sr,hr,q,k,xx⟩=>⟨Δ,M,_,sr,hr,q,fun d M1 v H1 q1 e1 hr1 rv=>⟨Δ,M1,_,XH,sr.ext e1,hr1,q1,fun ds M2 vs H2 q2 e2 hr2 rvs =>
  k _ M2 _ H2 q2 (e1.trans e2) hr2 (am.cons (rv.ext e2) rvs),fun i0 x0 C0 M'' H'' z1 z0 z2 z3=>xx i0 x0 C0 M'' H'' z1 z0 (e1.trans z2) z3⟩⟩
def ue(n:Nat) (S:SpD) (t:kH):TXd:=fun Δ M Q XH=>t Δ M (fun ds M1=>ds.length=n/\S ds M1 Q) XH
theorem zZ{x:Str}{k n:Nat}{S:SpD}{t:kH}{p:Pos}(F:FnD X.prog X.w X.K X.mg X.base x k n S) (hr:bt k X.A) (hg:Gl X x) (ha:PAy X Cs XW (e::es) t) (hdb:(x==("__debug__":Str))=false:=by decide)
  (he:E8 (e::es) X.env=(false,Z4 e X.env)::E8 es X.env:=by rfl) (hpl:(V0 pos (E8 es X.env)).any (·.1)=false:=by rfl):PXy X Cs XW (.Call (.Name x p) (e::es) [] pos) (ue n S t):=by
 obtain⟨f,fd,ps,F,hm,hk,hb⟩:=F.ex;exact(m6 F hr hg hm hk hb .nil uL ha hdb he hpl).conv fun σ H Q ⟨Δ,M,R,XH,sr,hr,q,k,xx⟩=>⟨Δ,M,_,XH,sr,hr,q,fun ds M1 vs H1 ⟨hl,q1⟩ e1 hr1 rv=>by
  dsimp only;rw[R7];exact⟨ds,M1,R,hl,rv,hr1,q1,fun d M' v H' q' e' hr' rv'=>k d M' v H' q' (e1.trans e') hr' rv'⟩,xx⟩
def vR(C:E5) (n:Nat) (S:SpD) (t:kH):TXd:=fun Δ M Q XH=>t Δ M (fun ds M1=>ds.length+1=n/\∀x,M1 x=none->S (.ref x::ds) (ar M1 x (.ins C [])) fun d M2=>d=.non/\Q (.ref x) M2) XH
theorem xo{x:Str}{C:E5}{k n:Nat}{S:SpD}{t:kH}{p:Pos}(F:MkD X.prog X.w X.K X.mg X.base x C k n S) (hr:bt (k+1) X.A) (hg:Gl X x) (ha:PAy X Cs XW (e::es) t) (hdb:(x==("__debug__":Str))=false:=by decide)
  (he:E8 (e::es) X.env=(false,Z4 e X.env)::E8 es X.env:=by rfl) (hpl:(V0 pos (E8 es X.env)).any (·.1)=false:=by rfl):PXy X Cs XW (.Call (.Name x p) (e::es) [] pos) (vR C n S t):=by
 obtain⟨f,fd,ps,h1,h2,h3,h4⟩:=F.ex;refine PE.conv (wG h1 h2 hr hg h3 h4 .nil uL ha hdb he hpl) fun σ H Q ⟨Δ,M,R,XH,sr,hr,q,k,xx⟩=>⟨Δ,M,_,XH,sr,hr,q,fun ds M1 vs H1 ⟨hl,q1⟩ e1 hr1 rv=>?_,xx⟩;intro a dx hx hdx hne;rw[R7];have hx2:upd H1 dx (.own a) a=none:=by rw[aB (M9 hne)];exact hx
 have ea:Ext M1 H1 M1 (upd H1 dx (.own a)):=Ext.new hr1 hdx;have ra:=hr1.new (o:=.own a) hdx;have eb:Ext M1 (upd H1 dx (.own a)) (ar M1 a (.ins C [])) (upd (upd H1 dx (.own a)) a (.ins C dx [])):=Ext.own hx2;have rb:=ra.put eb ⟨[],⟨dx,az⟩,.nil⟩;refine⟨.ref a::ds,_,_,by rw[N6];exact hl,am.cons (by simp only[Rep]) ((rv.ext ea).ext eb),rb,q1 a (hr1.fresh hx),fun d M' v H' ⟨ed,q2⟩ e' hr' rv'=>?_⟩;subst ed;simp only[Rep]at rv';exact⟨rv',k _ M' _ H' q2 (((e1.trans ea).trans eb).trans e') hr' (by simp only[Rep])⟩
end
theorem kJ(l:E5) (items:Array s0) (u:Tok) :
  Meets (J7.«tuple.__mul__» ⟨[.ref l,.int 1 u],[]⟩) (fun _ R s=>am8 s.heap l items/\R (.ok (.ret (.ref l))) s) :=
 .of_wp fun prog w A R s h=>by
  obtain⟨ht,h⟩:=h;refine o0 (m:=asIndex (.int 1 u)) (al6 (a:=(1:Int)) rfl ?_);dsimp only;rw[if_neg (by decide)];refine o0 (ag0 ht ?_);rw[if_pos (by simp)];refine o0 (HT.tupleIsExact_ ht ?_);rw[if_pos rfl]
  wp_walk
  exact⟨_,rfl,h⟩
def sQ(x y:D):Option D:=match x,y with
 |.tup ds,.int 1=>some (.tup ds)
 |x,y=>ph x y
theorem AC{ds:List D}:sQ (.tup ds) (.int 1)=some (.tup ds):=rfl
theorem zM{d:D}{n:Nat}(h:1<=n) (h2:n<=E4):sQ (.tup [d]) (.int (n:Int))=some (.tup (E6 n d)):=by
 by_cases c:n=1
 ·subst c;rfl
 ·have e:sQ (.tup [d]) (.int (n:Int))=ph (.tup [d]) (.int (n:Int)):=by
   unfold sQ
   split
   ·rename_i h1 h2;have:(n:Int)=1:=by simpa using h2
    lia
   ·rfl
  rw[e,Bl ⟨by lia,by rw[R6]at h2;lia,by simpa using h2⟩];congr 2;rw[Q7];clear e c h h2
  induction n with
  |zero=>rfl
  |succ n ih=>rw[N5,V4,ih,N5];rfl
section
variable{X:Cx}
theorem AK:bW X (U8 .Mult) sQ:=by
 intro aa s σ H M x y v u dx dy dz Q I hr rx ry r1 r2 e k
 by_cases hc:∃ds,dx=.tup ds/\dy=.int 1
 ·obtain⟨ds,rfl,rfl⟩:=hc;rw[AC]at e;cases e;have e2:=dq r2;subst e2;obtain⟨t2,rfl⟩:=ry;have rt:=aN.tup hr r1;obtain⟨a,vs,rfl,sq,rl⟩:=r1;cases rx;obtain⟨its,rv,pt,hz⟩:=I.tuple sq;refine ab5 (T:="tuple") (U:="int") (by decide) pt.typeIs (fun s'=>af6 s' 1 t2) cF aj5 Z3 eM ai5.lookup
   (aa3 Z3 (af6 s 1 t2) ai6 (ah3 _ _) (du 1 t2 a its.toArray)
    ⟨pt,rfl,pt.typeIs,aa3 af1 pt.typeIs F.entry_tuple_mul (F.args_tuple_mul_2 _ _) (kJ a its.toArray t2) ⟨pt,?_⟩⟩)
  exact⟨.ref a,H,I,rfl,k _ H (Ext.refl _ _) hr rt⟩
 ·have e':ph dx dy=some dz:=by
   rw[<-e];unfold sQ
   split
   ·exact absurd ⟨_,rfl,rfl⟩ hc
   ·rfl
  exact Bz aa s σ H M x y v u dx dy dz Q I hr rx ry r1 r2 e' k
end
end L2
namespace My
open PySem PySem.Spec PyProof.Rows L2
noncomputable def top(i:Nat):Z7:=PySem.Challenge.pw_wordwishes_k21_signs_of_choices.main.body.getD i (.Pass ⟨0,0,0,0⟩)
abbrev bE:Z7:=top 5
abbrev cV:Z7:=top 31
abbrev eP:Z7:=top 32
abbrev cZ:Z7:=top 33
abbrev dn:Z7:=top 37
abbrev bS:Z7:=top 38
abbrev eJ:Z7:=top 47
abbrev dX:Z7:=top 51
abbrev bx:Z7:=top 60
abbrev eG:Z7:=top 64
abbrev jw:Z7:=top 69
abbrev dj:Z7:=top 70
abbrev dQ:Z7:=top 71
abbrev jC:Z7:=top 73
abbrev jM:Z7:=top 74
abbrev c8:Z7:=top 75
abbrev iu:Z7:=top 76
abbrev iq:Z7:=top 77
abbrev fB:Z7:=top 78
abbrev jB:Z7:=top 79
abbrev dM:Z7:=top 80
abbrev dU:Z7:=top 81
abbrev cJ:Z7:=top 82
abbrev gA:Z7:=top 83
abbrev dH:Z7:=top 84
abbrev hV:Z7:=top 85
abbrev gY:Z7:=top 86
abbrev cu:Z7:=top 87
abbrev ix:Z7:=top 88
abbrev dZ:Z7:=top 89
abbrev rf:Z7:=top 90
abbrev lZ:Z7:=zw (top 46) 0
abbrev cj:List Str:=["thing"]
theorem dg:aA cj ["thing"] (ai bE):=fsc
abbrev cY:List Str:=["lexicon"]
theorem fU:aA cY ["lexicon"] (ai cV):=fsc
abbrev mZ:List Str:=["lexicon","thing"]
theorem fZ:aA mZ ["lexicon","thing"] (ai eP):=fsc
abbrev m5:List Str:=["lexicon","word"]
theorem cG:aA m5 ["lexicon","word"] (ai cZ):=fsc
abbrev jD:List Str:=["lexicon"]
theorem eU:aA jD ["lexicon"] (ai dn):=fsc
noncomputable abbrev fQ:List Str:=["lexicon","words","kinds","number","word"]
theorem cQ:aA fQ ["lexicon","words"] (ai bS):=fsc
abbrev mB:List Str:=["lexicon","words"]
theorem fV:aA mB ["lexicon","words"] (ai eJ):=fsc
abbrev aY:List Str:=["lexicon","words","choice","kinds","signs"]
theorem cL:aA aY ["lexicon","words","choice"] (ai bx):=fsc
abbrev mW:List Str:=["lexicon","words","chart"]
theorem fX:aA mW ["lexicon","words"] (ai eG):=fsc
abbrev vh:List Str:=["lexicon","words"]
theorem lQ:aA vh ["lexicon","words"] (ai jw):=fsc
abbrev ke:List Str:=["lexicon","words","number","chart"]
theorem eQ:aA ke ["lexicon","words","number"] (ai dj):=fsc
abbrev kN:List Str:=["lexicon","words","drawing","chart"]
theorem fq:aA kN ["lexicon","words","drawing"] (ai dQ):=fsc
noncomputable abbrev tX:List Str:=["_law_script","_law_place","_law_cell","_law_one"]
theorem k6:aA tX ["_law_script","_law_place"] (ai jC):=fsc
noncomputable abbrev vG:List Str:=["_law_well_here","_law_top","_law_found","_law_turn","_law_upper","_law_lower"]
theorem kY:aA vG ["_law_well_here","_law_top"] (ai jM):=fsc
noncomputable abbrev cD:List Str:=["_law_well_here","_law_signs_here","_law_first","_law_size","_law_pick"]
theorem jS:aA cD ["_law_well_here"] (ai c8):=fsc
abbrev sx:List Str:=["_law_well_here","_law_marks_here","_law_found","_law_turn"]
theorem jE:aA sx ["_law_well_here","_law_marks_here"] (ai iu):=fsc
noncomputable abbrev tE:List Str:=["_law_order_here","_law_marks_here","_law_found","_law_low","_law_met","_law_turn","_law_one","_law_other","_law_high"]
theorem jT:aA tE ["_law_order_here","_law_marks_here"] (ai iq):=fsc
abbrev oP:List Str:=["_law_above_here","_law_one","_law_other"]
theorem gL:aA oP ["_law_above_here","_law_one","_law_other"] (ai fB):=fsc
abbrev uy:List Str:=["_law_well_here","_law_marks_here","_law_wide"]
theorem lO:aA uy ["_law_well_here","_law_marks_here","_law_wide"] (ai jB):=fsc
noncomputable abbrev fj:List Str:=["_law_well_here","_law_above_here","_law_marks_here","_law_sign_here","_law_some"]
theorem gB:aA fj ["_law_well_here","_law_above_here","_law_marks_here","_law_sign_here"] (ai dM):=fsc
abbrev eB:List Str:=["_law_well_here","_law_size","_law_signs_here","_law_first"]
theorem jV:aA eB ["_law_well_here","_law_size"] (ai dU):=fsc
noncomputable abbrev dR:List Str:=["_law_well_here","_law_above_here","_law_marks_here","_law_goal","_law_pairs","_law_some","_law_found","_law_turn","_law_at","_law_sign_here"]
theorem fo:aA dR ["_law_well_here","_law_above_here","_law_marks_here","_law_goal","_law_pairs"] (ai cJ):=fsc
noncomputable abbrev pw:List Str:=["_law_well_here","_law_row","_law_size","_law_sizes","_law_sign_here","_law_at","_law_found","_law_many_signs"]
theorem iK:aA pw ["_law_well_here","_law_row","_law_size"] (ai gA):=fsc
noncomputable abbrev fv:List Str:=["_law_well_here","_law_size","_law_most","_law_marks_here","_law_order_here","_law_above_here","_law_goal","_law_row","_law_names","_law_choices","_law_entries","_law_name","_law_piece","_law_kinds","_law_turn","_law_more"]
theorem gS:aA fv ["_law_well_here","_law_size","_law_most"] (ai dH):=fsc
abbrev sf:List Str:=["_law_lexicon_here","_law_words_here","_law_choice","_law_kinds","_law_found","_law_k"]
theorem jy:aA sf ["_law_lexicon_here","_law_words_here","_law_choice"] (ai hV):=fsc
abbrev kf:List Str:=["_law_e","_law_at","_law_found"]
theorem lL:aA kf ["_law_e","_law_at"] (ai gY):=fsc
abbrev dm:List Str:=["_law_well_here","_law_names","_law_found"]
theorem eV:aA dm ["_law_well_here","_law_names"] (ai cu):=fsc
abbrev sG:List Str:=["_law_lexicon_here","_law_words_here","_law_way","_law_caught","_law_e"]
theorem jU:aA sG ["_law_lexicon_here","_law_words_here","_law_way"] (ai ix):=fsc
noncomputable abbrev cB:List Str:=["_law_well_here","_law_lexicon_here","_law_above_here","_law_names","_law_words_here","_law_kinds","_law_choice","_law_found","_law_at","_law_odd","_law_way","_law_caught"]
theorem jY:aA cB ["_law_well_here"] (ai dZ):=fsc
abbrev uB:List Str:=["_law_script"]
theorem vv:aA uB ["_law_script"] (ai rf):=fsc
structure yx(K:u8) (C:E5):Prop where
 c:Cls K C
abbrev fK:Z7:=zw (top 23) 0
theorem vo:aA ["self","word"] ["self","word"] (ai fK):=fsc
theorem vb{P:J4}{w:O3}{K:u8}{mg:Str->Option s0}{base:I0}{C W fI f:E5}{fd:K1}(F:Fun K "__init__" "NoWord.__init__" fK f fd) (Y:kL K mg "NoWord" "WishError" "word" C W fI):aO P w K mg base CX0 1 f fd ["self","word"] (spF "word" C):=by
 refine F.ok vo (fun vs H Q E h=>?_) (fun cdv A outer s H vs Q E hr h=>⟨_,jo (qG (Cq Y 0 rfl (pv 0) vB)) (mP (Dg Y 0 1 (pv 0) (pv 1))),?_⟩)
 ·obtain⟨e,v,rfl,_⟩:=h;rfl
 ·obtain⟨e,v,rfl,he,q⟩:=h;exact⟨e,rfl,he,e,v,rfl,rfl,he,q⟩
structure i3(K:u8) (mg:Str->Option s0) (C0 W fI0:E5):Prop where
 p0:kL K mg "NoWord" "WishError" "word" C0 W fI0
 g0:CF K C0 "word"
 gH:mg "WishError"=some (.ref W)
 lC:∀C∈[C0],∃nm q N bs bm hd sn sub ab col dd k0 k1 k2 k3 k5 newId,K.lookup C=some (T1 nm q C N bs bm hd sn sub ab col dd k0 k1 k2 k3 k5 newId)/\(F3 C::bm).contains (.ref W)=true
 lW:∃nm q N bs bm hd sn sub ab col dd k0 k1 k2 k3 k5 newId,K.lookup W=some (T1 nm q W N bs bm hd sn sub ab col dd k0 k1 k2 k3 k5 newId)/\bm.contains (.type "BaseException")=true
 z:∀C∈[C0],sM K C
 k_ValueError:∀(i:Nat) C,[C0][i]?=some C->L6 K (.ref C) (.type "ValueError")=some ([true].getD i false)
 k_NoText:∃C2,mg "NoText"=some (.ref C2)/\∀(i:Nat) C,[C0][i]?=some C->L6 K (.ref C) (.ref C2)=some ([false].getD i false)
 k_NoStep:∃C2,mg "NoStep"=some (.ref C2)/\∀(i:Nat) C,[C0][i]?=some C->L6 K (.ref C) (.ref C2)=some ([false].getD i false)
 k_NoWord:∃C2,mg "NoWord"=some (.ref C2)/\∀(i:Nat) C,[C0][i]?=some C->L6 K (.ref C) (.ref C2)=some ([true].getD i false)
 k_NoNumber:∃C2,mg "NoNumber"=some (.ref C2)/\∀(i:Nat) C,[C0][i]?=some C->L6 K (.ref C) (.ref C2)=some ([false].getD i false)
 k_NoDrawing:∃C2,mg "NoDrawing"=some (.ref C2)/\∀(i:Nat) C,[C0][i]?=some C->L6 K (.ref C) (.ref C2)=some ([false].getD i false)
 k_NoWorld:∃C2,mg "NoWorld"=some (.ref C2)/\∀(i:Nat) C,[C0][i]?=some C->L6 K (.ref C) (.ref C2)=some ([false].getD i false)
 k_NoLexicon:∃C2,mg "NoLexicon"=some (.ref C2)/\∀(i:Nat) C,[C0][i]?=some C->L6 K (.ref C) (.ref C2)=some ([false].getD i false)
 k_NoRow:∃C2,mg "NoRow"=some (.ref C2)/\∀(i:Nat) C,[C0][i]?=some C->L6 K (.ref C) (.ref C2)=some ([false].getD i false)
 k_NoKept:∃C2,mg "NoKept"=some (.ref C2)/\∀(i:Nat) C,[C0][i]?=some C->L6 K (.ref C) (.ref C2)=some ([false].getD i false)
 k_WishError:∃C2,mg "WishError"=some (.ref C2)/\∀(i:Nat) C,[C0][i]?=some C->L6 K (.ref C) (.ref C2)=some ([true].getD i false)
structure Txt(K:u8) (mg:Str->Option s0):Prop where
 g_START:zh K mg "START" [.inl (-1),.inl (0),.inl (0)]
 b_isinstance:mg "isinstance"=none
 b_str:mg "str"=none
 b_all:mg "all"=none
 b_len:mg "len"=none
 b_enumerate:mg "enumerate"=none
 b_tuple:mg "tuple"=none
 b_zip:mg "zip"=none
 b_abs:mg "abs"=none
 b_range:mg "range"=none
 b_divmod:mg "divmod"=none
 b_min:mg "min"=none
 b_dict:mg "dict"=none
 b_ValueError:mg "ValueError"=none
 b_sum:mg "sum"=none
 b_max:mg "max"=none
 b_reversed:mg "reversed"=none
 g_SMALL_LETTERS:∃t,mg "SMALL_LETTERS"=some (.str "abcdefghijklmnopqrstuvwxyz" t)
 g_MOST_LETTERS:∃t,mg "MOST_LETTERS"=some (.int 8 t)
set_option hygiene false in
local macro_rules|`(tactic| walk_at "rd")=>`(tactic| simp only[zr,yV,pC,zd,ue,vR,zl,tI,Bw,CJ,dYE,CV,dXC,wZ,CK,qN,AX,Df,zo,C3,zz,Ai,yr,Bt,yi,ua,nF,dC,zQ,tR,CT,yY,zu,dOp,dUn,pI,Cw,yP,yM,dCB,lD,uE,Cd,yS,BL,Dz,CU,yU,C5,oH,AQ,uw,vy,wm,Dh,BQ,vS,zp,zj,zt,vE,AG,wJ,tV,tN,dDT,tS,Ah,wH,yN,zv,HD.dKr.injEq,Ds,wF,HD.dT.injEq,HD.dK.injEq,Dj,Dm,zB,AV,vJ,mD,uY,dLc,Bg,vT,Du,
 mU,zN,gU,wQ,xb,yf,xa,xw,Am,xH,je,xy,qz,Ce,BN,CC,B3,Dt,BM,uj,Ar,Af,Ak,AI,A4,Aw,zL,Ag,Av,tO,A5,B8,Dx,CN,Ca,Bb,AU,Dq,BS,Da,tL,wx,uo,vN,Dr,B6,BW,Cy,CQ,C7,Cz,yO,C9,ml,rQ,zJ,aq,aJ,
 eO,J5,ak3,List.cons_append,O5,N6,T7,E6,List.set_cons_zero,List.set_cons_succ,List.getElem?_cons_zero,S1,ae2,exists_eq_left',exists_eq_left,D.int.injEq,D.bl.injEq,D.str.injEq,D.ref.injEq,D.tup.injEq,D.lst.injEq,true_and,and_true,if_true,decide_eq_true_eq,exists_and_left,Nat.zero_add,Nat.reduceAdd,Nat.reduceSub,vA,CI,ux,C6,HD.lst.injEq,ag5,or_true,true_or,and_self,↓reduceIte,Int.reduceLT,Int.reduceLE,Int.reducePow,Int.reduceNeg,Int.reduceToNat,Nat.reducePow,Nat.reduceLT,Nat.reduceLeDiff,Int.reduceAdd,Int.reduceMul,Int.reduceSub,K8,Bool.true_eq_false,if_false])
section
variable{P:J4}{w:O3}{K:u8}{mg:Str->Option s0}{base:I0}{f:E5}{fd:K1}
theorem ip{xs:List D}{n:Nat}:L2.b7 xs none (some (n:Int))=xs.take n:=by
 unfold L2.b7;rw[HT.sIx_none,HT.sIx_nat,List.drop_zero,Nat.sub_zero]
 by_cases h:n<=xs.length
 ·rw[Nat.min_eq_left h]
 ·rw[Nat.min_eq_right (by lia),W8,V1 (by lia)]
theorem jX{xs:List D}{n:Nat}:L2.b7 xs (some (n:Int)) none=xs.drop n:=by
 unfold L2.b7;rw[HT.sIx_none,HT.sIx_nat]
 by_cases h:n<=xs.length
 ·rw[Nat.min_eq_left h,V1 (by simp)]
 ·rw[Nat.min_eq_right (by lia),Nat.sub_self,List.take_zero,List.drop_of_length_le (by lia)]
theorem bq{lo:Int}{n:Nat}:(iX lo n).length=n:=by simp[iX]
def ck(x:Str×Str):D:=.tup [.str x.1,.str x.2]
theorem c9{av:List Str}{v:Int}(h0:0<=v) (h1:v<(av.length:Int)):∃m∈av,atI (av.map D.str) v=some (.str m):=by
 obtain⟨n,rfl⟩:=K5 h0;have hn:n<av.length:=by lia
 exact⟨av[n],W6 hn,bK (by simp[hn])⟩
theorem bN{M:DH}{p q:E5}{a b:HD}(h:p≠q):ar (ar M p a) q b=ar (ar M q b) p a:=by
 funext c;unfold ar
 by_cases h1:c=q
 ·subst h1;simp[M9 h]
 ·by_cases h2:c=p
  ·subst h2;simp[h]
  ·simp[h1,h2]
inductive dJ (ord:List (Str×Str)) (a:Str):Str->Prop
 |refl:dJ ord a a
 |step {b c:Str}:dJ ord a b->(b,c)∈ord->dJ ord a c
theorem n6{ord:List (Str×Str)}{a x:Str}{L:List Str}(h0:a∈L) (hc:∀y∈ord,y.1∈L->y.2∈L) (h:dJ ord a x):x∈L:=by
 induction h with
 |refl=>exact h0
 |step _ hm ih=>exact hc _ hm ih
def aE(x:Str×Int):D:=.tup [.str x.1,.int x.2]
def nk(ord:List (Str×Str)) (t:Int) (a b:Str):Prop:=if t % 2=0 then dJ ord a b else dJ ord b a
open Classical in
def rB(ord:List (Str×Str)) (a b:Str):Bool:=decide (dJ ord a b)
open Classical in
def lB(ord:List (Str×Str)) (t:Int) (a b:Str):Bool:=decide (nk ord t a b)
theorem mN{ord:List (Str×Str)}{a b:Str}:rB ord a b=true↔dJ ord a b:=by simp[rB]
theorem pY{ord:List (Str×Str)}{t:Int}{a b:Str}:lB ord t a b=true↔nk ord t a b:=by simp[lB]
theorem xr{ord:List (Str×Str)}{t:Int}{a b:Str}(h:t % 2=0):lB ord t a b=rB ord a b:=by rw[W0,pY,mN,nk,if_pos h]
theorem Aa{ord:List (Str×Str)}{t:Int}{a b:Str}(h:¬ t % 2=0):lB ord t a b=rB ord b a:=by rw[W0,pY,mN,nk,if_neg h]
theorem yA{ord:List (Str×Str)}{t:Int}{a:Str}:lB ord t a a=true:=by
 rw[pY,nk];split<;>exact dJ.refl
def rel(ord:List (Str×Str)) (x y:Str×Int):Bool:=x.2+1==y.2&&lB ord x.2 x.1 y.1
mutual
def cx:D->Bool
 |.tup ds=>pX ds
 |.lst ds=>pX ds
 |.str x=>decide (x.length<=1000000)
 |.scr _=>false
 |.ref _=>false
 |.box _ _=>false
 |_=>true
def pX:List D->Bool
 |[]=>true
 |d::ds=>cx d&&pX ds
end
theorem vk{M:DH}{d:D}(h:cx d=true):rdM M d=d:=by
 cases d<;>first|rfl|(simp[cx]at h)
def cn(x:Str):Bool:=decide (1<=x.length)&&decide (x.length<=8)&&x.cps.toList.all fun c=>decide (c∈kU)
def iF:D->Bool
 |.str x=>cn x
 |_=>false
def cv:SpD:=fun ds M R=>∃d,ds=[d]/\cx d=true/\R (.bl (iF d)) M
theorem fN{d:D}{M:DH}{R:D->DH->Prop}:cv [d] M R↔cx d=true/\R (.bl (iF d)) M :=
 ⟨fun⟨d',e,h⟩=>by simp only[ag5,and_true]at e;rw[e];exact h,fun h=>⟨d,rfl,h⟩⟩
theorem ye:abc.cps.toList=kU:=by rw[AA,mJ]
theorem vY{bs:List Bool}:v9 (.lst (bs.map D.bl))=some (.bl (bs.all id)):=by
 have h1:(bs.map D.bl).all uM=true:=by rw[ak4,S9];intro _ _;rfl
 have h2:(bs.map D.bl).all sg=bs.all id:=by rw[ak4];rfl
 simp only[v9,h1,h2,if_true]
theorem gx(F:Fun K "is_short_word" "is_short_word" bE f fd) (T:Txt K mg) :aO P w K mg base CX0 1 f fd ["thing"] (spD K 1 cv):=by
 have nd:=dg.nd;refine F.okR rfl dg (fun cdv A outer s H E hr=>⟨_,(aw (bc (uS (yL (Tn:="str") (by decide) rfl T.b_isinstance rfl T.b_str (by kernel_rfl) (af 0)) (uS (wI zO zO aj (aI bV rfl T.b_len (by kernel_rfl) (ae (af 0) ah)) (vU rfl T.g_MOST_LETTERS)) (zy (aI (yI rfl) rfl T.b_all (by kernel_rfl) (ae (ic (ms:=[false]) (ao:=["letter"]) (aM (n0:=0) rfl (show aT (ai bE) cj _ _=true from by decide +kernel)) rfl (cb (af 0)) (aP (i:=1) (show(cj++_).Nodup from by decide +kernel) rfl rfl) (fun _ _ _ _=>bI) (fun _ _ _ _=>(qP zm (af 1) (vi rfl T.g_SMALL_LETTERS) rfl))) ah))))))),fun ds M R _ hS bk=>?_⟩);obtain⟨d,rfl,hd,k⟩:=hS;refine bk ?_;clear bk;walk_at "rd";simp only[vk hd];cases d with
 |str x =>
  have hx:x.length<=1000000:=by simpa[cx]using hd
  refine⟨true,rfl,?_⟩;walk_at "rd";refine⟨_,if_pos (szB _ (by lia)),?_⟩;walk_at "rd";have hsl:x.length=x.cps.toList.length:=by show x.cps.size=_;simp
  refine cS (fun h1=>cS (fun h2=>?_) (fun h2=>?_)) (fun h1=>?_)
  ·refine⟨_,if_pos (szB _ (by lia)),fun hz=>⟨hz,?_⟩⟩;refine gn (fun _=>true) (fun d=>match d with|.str y=>.bl (y.cps.toList.all fun c=>decide (c∈kU))|_=>.non) (fun Δ=>∃x,Δ=[none,x]) _ _ _ (fun d hd Δ hΔ=>?_) ⟨none,rfl⟩ ?_
   ·obtain⟨x1,rfl⟩:=hΔ;obtain⟨c,_,rfl⟩:=R3.mp (show d∈x.cps.toList.map fun c=>D.str (tx [c])from hd);refine⟨_,rfl,⟨_,rfl⟩,fun Q1 q=>q,fun _ Q2 q=>?_⟩;walk_at "rd";simp only[yO,ae2,exists_eq_left',ae9];rw[show(L4 "abcdefghijklmnopqrstuvwxyz").cps.toList=kU from ye];simpa[mJ]using q
   ·rw[O5,V5.mpr (fun _ _=>rfl)];have e:(L2.fC x).map (fun d=>match d with|.str y=>D.bl (y.cps.toList.all fun c=>decide (c∈kU))|_=>.non)=(x.cps.toList.map fun c=>decide (c∈kU)).map D.bl:=by
     unfold L2.fC;rw[W1,W1];apply List.map_congr_left;intro c _;simp
    rw[e];refine⟨_,vY,?_⟩;have e2:(x.cps.toList.map fun c=>decide (c∈kU)).all id=cn x:=by
     unfold cn;rw[ak4,decide_eq_true (by lia:1<=x.length),decide_eq_true (by lia:x.length<=8)];rfl
    rw[e2];exact k
  ·have e2:iF (.str x)=false:=by simp only[iF,cn,decide_eq_false (by lia:¬ x.length<=8),ai0,ak6]
   rw[e2]at k;exact k
  ·have e2:iF (.str x)=false:=by simp only[iF,cn,decide_eq_false (by lia:¬ 1<=x.length),ak6]
   rw[e2]at k;exact k
 |scr _=>simp[cx]at hd
 |ref _=>simp[cx]at hd
 |box _ _=>simp[cx]at hd
 |_=>exact⟨false,rfl,by simp only[K8,if_false];exact k⟩
end
section
variable{P:J4}{w:O3}{K:u8}{mg:Str->Option s0}{base:I0}{f:E5}{fd:K1}
abbrev Row:=List (Str×Int)
def br(r:Row):D:=.tup (r.map aE)
def cm(ks:List Row):D:=.tup (ks.map br)
def gp(e:Str×List Row):D:=.tup [.str e.1,cm e.2]
def dE(ord:List (Str×Str)) (ay:Str) (ag:List (Str×List Row)):D:=.tup [.tup (ord.map ck),.str ay,.tup (ag.map gp)]
noncomputable def kin(ag:List (Str×List Row)) (w:Str):List Row:=(ag.lookup w).getD []
theorem bM{α:Type}{g:GD}{tc:TTd}{te:TEd}{M:DH}{Q:List D->DH->Prop}(enc:α->D) (b:α->Bool) (y:α->D) (Ok:DE->Prop):∀(xs:List α) (Δ:DE) (acc:List D),
  (∀x∈xs,∀ Δ,Ok Δ->∃ Δ',g (enc x) Δ=some Δ'/\Ok Δ'/\(∀Q1:Bool->DH->Prop,Q1 (b x) M->tc Δ' M Q1)/\(b x=true->∀Q2:D->DH->Prop,Q2 (y x) M->te Δ' M Q2))->Ok Δ ->
  Q (acc++(xs.filter b).map y) M->cy g tc te (xs.map enc) Δ M acc Q
 |[],Δ,acc,_,_,q=>by simpa[cy]using q
 |x::xs,Δ,acc,h,hΔ,q=>by
  rw[J5];simp only[cy];obtain⟨Δ',e,hΔ',h1,h2⟩:=h x (.head _) Δ hΔ;refine⟨Δ',e,h1 _ ?_⟩;have ih:=fun acc' q'=>bM (Q:=Q) enc b y Ok xs Δ' acc' (fun z hz=>h z (.tail _ hz)) hΔ' q';cases hb:b x with
  |true =>
   simp only[if_true];refine h2 hb _ (ih _ ?_);rw[List.filter_cons_of_pos hb]at q;simpa using q
  |false =>
   simp only[K8,if_false];refine ih _ ?_;rw[List.filter_cons_of_neg (by simp[hb])]at q;exact q
theorem nL{α:Type}(f:α->D) (hf:∀x,dLe (f x) 59=true) {a:List α}:bL (a.map f) 59=true:=by
 rw[g6];intro d hd;obtain⟨x,_,rfl⟩:=R3.mp hd;exact hf x
theorem iH{α:Type}{g:GD}{B:BKd}{M:DH}(enc:α->D) (out:α->List D) (Ok:DE->Prop):∀(xs:List α) (Δ:DE) (acc:List D) (Q:List D->DE->DH->Prop),
  (∀x∈xs,∀ Δ,Ok Δ->∃ Δ',g (enc x) Δ=some Δ'/\∀(acc:List D) (Q2:List D->DE->DH->Prop),acc.length+(out x).length<=E4->(∀ Δ'',Ok Δ''->Q2 (acc++out x) Δ'' M)->B Δ' M acc Q2)->Ok Δ ->
  acc.length+(xs.flatMap out).length<=E4->(∀ Δ',Ok Δ'->Q (acc++xs.flatMap out) Δ' M)->eY g kz B (xs.map enc) Δ M acc Q
 |[],Δ,acc,Q,_,ok,_,q=>by
  simp only[ak3,eY];have:=q Δ ok
  rwa [List.flatMap_nil,R7]at this
 |x::xs,Δ,acc,Q,h,ok,hz,q=>by
  rw[ah7,K7]at hz;rw[J5];simp only[eY,kz,if_true];obtain⟨Δ',e,h1⟩:=h x (.head _) Δ ok;refine⟨Δ',e,h1 acc _ (by lia) fun Δ'' ok'=>⟨by rw[K7];lia,?_⟩⟩;refine iH enc out Ok xs Δ'' _ Q (fun z hz=>h z (.tail _ hz)) ok' (by rw[K7];lia) fun Δ3 ok3=>?_;have:=q Δ3 ok3
  rwa [ah7,<-ac0]at this
theorem ju{α β:Type}{f:α->β}:∀l:List α,(l.flatMap fun a=>[f a])=l.map f
 |[]=>rfl
 |a::l=>by rw[ah7,ju l];rfl
def mY(x:Str):Prop:=cn x=true
structure LxP(ord:List (Str×Str)) (ay:Str) (ag:List (Str×List Row)):Prop where
 n:ag.length<=8
 sh:∀e∈ag,cn e.1=true/\True
theorem mz{ag:List (Str×List Row)}{w:Str}{P:List Row->Prop}(h0:P []) (h:∀e∈ag,P e.2):P (kin ag w):=by
 unfold kin
 induction ag with
 |nil=>exact h0
 |cons e l ih =>
  rw[P2]
  by_cases c:(w==e.1)=true
  ·rw[c];exact h e (.head _)
  ·rw[Bool.not_eq_true]at c;rw[c];exact ih fun x hx=>h x (.tail _ hx)
def uN(ag:List (Str×List Row)) (K B:Nat):Prop:=∀e∈ag,e.2.length<=K/\∀r∈e.2,r.length<=B
def cX:SpD:=fun ds M R=>∃(ord:List (Str×Str)) (ay:Str) (ag:List (Str×List Row)),ds=[dE ord ay ag]/\ag.length<=8/\R (.lst (ag.map fun e=>D.str e.1)) M
theorem ku(F:Fun K "words_of" "words_of" cV f fd) (T:Txt K mg) :aO P w K mg base CX0 1 f fd ["lexicon"] (spD K 1 cX):=by
 have nd:=fU.nd;refine F.okR rfl fU (fun cdv A outer s H E hr=>⟨_,(aw (bc (ic (ms:=[false]) (ao:=["word","kinds"]) (aM (n0:=0) rfl (show aT (ai cV) cY _ _=true from by decide +kernel)) rfl (cb (aV aX (af 0) aj (fun _ _=>rfl))) (uh (n:=2) rfl (jh (aP (i:=1) (show(cY++_).Nodup from by decide +kernel) rfl rfl) (jh (aP (i:=2) (show(cY++_).Nodup from by decide +kernel) rfl rfl) tJ))) (fun _ _ _ _=>bI) (fun _ _ _ _=>(af 1))))),fun ds M R _ hS bk=>?_⟩);obtain⟨ord,ay,ag,rfl,hl,k⟩:=hS;refine bk ?_;clear bk;simp only[dE];walk_at "rd";refine fun hz=>⟨hz,?_⟩;refine bM gp (fun _=>true) (fun e=>D.str e.1) (fun Δ=>∃x y,Δ=[none,x,y]) ag _ _ (fun e he Δ hΔ=>?_) ⟨none,none,rfl⟩ ?_
 ·obtain⟨x,y,rfl⟩:=hΔ;refine⟨_,rfl,⟨_,_,rfl⟩,fun Q1 q=>q,fun _ Q2 q=>?_⟩;walk_at "rd";exact q
 ·rw[O5,V5.mpr (fun _ _=>rfl)];exact k
theorem yo{w:Str}{ag:List (Str×List Row)}:((ag.map fun e=>D.str e.1).any fun d=>eqD d (.str w))=decide (w∈ag.map (·.1)):=by
 rw[W0,List.any_map,ac8,decide_eq_true_eq,R3];constructor
 ·rintro⟨e,he,h⟩;exact⟨e,he,by simpa[eqD]using h⟩
 ·rintro⟨e,he,h⟩;exact⟨e,he,by simp[eqD,h]⟩
theorem sS{ag:List (Str×List Row)}:(ag.map fun e=>D.str e.1).all bo=true:=by rw[ak4,S9];intro _ _;rfl
def eK:SpD:=fun ds M R=>∃(ord:List (Str×Str)) (ay:Str) (ag:List (Str×List Row)) (w:Str),ds=[dE ord ay ag,.str w]/\LxP ord ay ag/\cx (.str w)=true/\R (.bl (decide (w∈ag.map (·.1)))) M
theorem kK(F:Fun K "has_word" "has_word" eP f fd) (T:Txt K mg) (G8:FnD P w K mg base "is_short_word" 1 1 cv) (G2:FnD P w K mg base "words_of" 1 1 cX):aO P w K mg base CX0 2 f fd ["lexicon","thing"] (spD K 2 eK):=by
 have nd:=fZ.nd;refine F.okR rfl fZ (fun cdv A outer s H E hr=>⟨_,(aw (bc (uS (qd G8 hr (ae (af 1) ah)) (zy (qP zm (af 1) (qd G2 hr (ae (af 0) ah)) rfl))))),fun ds M R _ hS bk=>?_⟩);obtain⟨ord,ay,ag,w,rfl,hL,hw,k⟩:=hS;refine bk ?_;clear bk;walk_at "rd";refine fN.mpr ⟨hw,_,rfl,?_⟩;refine cS (fun h=>?_) (fun h=>?_)
 ·refine⟨ord,ay,ag,rfl,hL.n,?_⟩;walk_at "rd";refine⟨_,if_pos ⟨rfl,sS⟩,?_⟩;rw[yo,ae9];exact k
 ·have:decide (w∈ag.map (·.1))=false:=decide_eq_false fun z=>by
   obtain⟨e,he,rfl⟩:=R3.mp z;exact h (hL.sh e he).1
  rw[this]at k;exact k
theorem oV{w:Str}:∀{ag:List (Str×List Row)},ag.length<2 ^ 62->w∈ag.map (·.1)->∃j e,oi (ag.map fun e=>D.str e.1) (.str w)=some j/\ag[j]?=some e/\e.2=kin ag w:=by
 intro ag hl hw;have hd:bL (ag.map fun e=>D.str e.1) 59=true:=nL _ fun _=>rfl;have h1:dLe (.str w) 59=true:=rfl;unfold oi;rw[if_pos ⟨h1,hd,by rw[E7];exact hl⟩];clear hd h1 hl
 induction ag with
 |nil=>cases hw
 |cons e l ih =>
  obtain⟨a,ks⟩:=e;rw[J5,List.findIdx?_cons]
  by_cases h:a=w
  ·subst h;exact⟨0,_,by simp[eqD],rfl,by simp[kin]⟩
  ·have hne:eqD (.str a) (.str w)=false:=by simp[eqD,h]
   have hw':w∈l.map (·.1):=by
    rw[J5]at hw;rcases E9.mp hw with q|q
    ·exact absurd q.symm h
    ·exact q
   obtain⟨j,e,q1,q2,q3⟩:=ih hw';refine⟨j+1,e,?_,by rw[S1];exact q2,?_⟩
   ·simp only[hne,K8,if_false];rw[q1];rfl
   ·rw[q3];unfold kin;rw[P2];have:(w==a)=false:=by simpa using fun q:w=a=>h q.symm
    rw[this]
theorem lF{w:Str}{ag:List (Str×List Row)}(h:w∈ag.map (·.1)) (hl:ag.length<=8):∃j e,oi (ag.map fun e=>D.str e.1) (.str w)=some j/\atI (ag.map gp) (j:Int)=some (gp e)/\e.2=kin ag w:=by
 obtain⟨j,e,q1,q2,q3⟩:=oV (Nat.lt_of_le_of_lt hl (by decide)) h;exact⟨j,e,q1,bK (by rw[L7,q2];rfl),q3⟩
def cW:SpD:=fun ds M R=>∃(ord:List (Str×Str)) (ay:Str) (ag:List (Str×List Row)) (w:Str),ds=[dE ord ay ag,.str w]/\LxP ord ay ag/\cx (.str w)=true/\(w∈ag.map (·.1)->R (cm (kin ag w)) M)/\(w∉ag.map (·.1)->∀dd,M dd=none->R (xA 0 (some dd)) (ar M dd (iV "word" dd (.str w))))
theorem kO(F:Fun K "kinds_of" "kinds_of" cZ f fd) (T:Txt K mg) {C0 W fI0:E5} (Y:i3 K mg C0 W fI0) {fdI0:K1} (FI0:aO P w K mg base CX0 1 fI0 fdI0 ["self","word"] (spF "word" C0)) (hbI0:bQ K fdI0 ["self","word"] []) (hfI0:∃oI,K.lookup fI0=some oI/\oI.cls=O0 "function") (G4:FnD P w K mg base "has_word" 2 2 eK) (G2:FnD P w K mg base "words_of" 1 1 cX):aO P w K mg base (CX2 P w [C0]) 3 f fd ["lexicon","word"] (spY K 2 cW [C0]):=by
 have nd:=cG.nd;refine F.okY rfl cG (fun cdv A outer s H E hr=>⟨_,(eN (DL (iJ (gr (qd G4 hr (ae (af 0) (ae (af 1) ah))))) (j7 (DS 0 rfl Y.p0 FI0 hbI0 hfI0 (hr.mono (by decide)) rfl rfl (af 1) fun aa σ H s a x I q h1 h2 h3=>zP (i:=0) I rfl q h1 h2 h3)) Ac)
   (j7 (Di (bc (aV aX (aV aX (aV aX (af 0) aj (fun _ _=>rfl)) (vZ hr.units (qd G2 hr (ae (af 0) ah)) (af 1)) (fun _ _=>rfl)) aj (fun _ _=>rfl)))))),fun ds M R hl hS=>?_⟩)
 obtain⟨ord,ay,ag,w,rfl,hL,hw,k1,k2⟩:=hS;walk_at "rd";refine⟨ord,ay,ag,w,rfl,hL,hw,_,rfl,?_⟩;refine cS (fun h dd hd=>⟨_,fun _ _ e=>e,k2 (by simpa using h) dd hd⟩) (fun h=>?_);have hm:w∈ag.map (·.1):=by simpa using h
 simp only[dE];walk_at "rd";refine⟨ord,ay,ag,rfl,hL.n,⟨_,rfl⟩,_,rfl,?_⟩;obtain⟨j,e,q1,q2,q3⟩:=lF hm hL.n;refine⟨j,q1,_,q2,?_⟩;simp only[gp];refine⟨_,rfl,?_⟩;rw[q3];exact k1 hm
def hG:SpD:=fun ds M R=>∃(ord:List (Str×Str)) (ay:Str) (ag:List (Str×List Row)) (w:Str),ds=[dE ord ay ag,.str w]/\LxP ord ay ag/\w∈ag.map (·.1)/\R (cm (kin ag w)) M
theorem LxP.good{ord:List (Str×Str)}{ay:Str}{ag:List (Str×List Row)}{w:Str}(hL:LxP ord ay ag) (hw:w∈ag.map (·.1)):cx (.str w)=true/\cn w=true:=by
 obtain⟨e,he,rfl⟩:=R3.mp hw;have h:=(hL.sh e he).1;have h2:=h;simp only[cn,N7,decide_eq_true_eq]at h2;exact⟨by simp only[cx,decide_eq_true_eq];lia,h⟩
theorem kR(F:Fun K "kinds_of" "kinds_of" cZ f fd) (T:Txt K mg) (G4:FnD P w K mg base "has_word" 2 2 eK) (G2:FnD P w K mg base "words_of" 1 1 cX):aO P w K mg base CX0 3 f fd ["lexicon","word"] (spD K 2 hG):=by
 have nd:=cG.nd;refine F.okR rfl cG (fun cdv A outer s H E hr=>⟨_,(ak (cz (iJ (gr (qd G4 hr (ae (af 0) (ae (af 1) ah))))) (aw xj) bC)
   (aw (bc (aV aX (aV aX (aV aX (af 0) aj (fun _ _=>rfl)) (vZ hr.units (qd G2 hr (ae (af 0) ah)) (af 1)) (fun _ _=>rfl)) aj (fun _ _=>rfl))))),fun ds M R _ hS bk=>?_⟩)
 obtain⟨ord,ay,ag,w,rfl,hL,hm,k⟩:=hS;refine bk ?_;clear bk;walk_at "rd";refine⟨ord,ay,ag,w,rfl,hL,(hL.good hm).1,_,rfl,?_⟩;rw[if_neg (by simp[hm])];simp only[dE];walk_at "rd";refine⟨ord,ay,ag,rfl,hL.n,⟨_,rfl⟩,_,rfl,?_⟩;obtain⟨j,e,q1,q2,q3⟩:=lF hm hL.n;refine⟨j,q1,_,q2,?_⟩;simp only[gp];walk_at "rd";rw[q3];exact k
def de:SpD:=fun ds M R=>∃(ord:List (Str×Str)) (ay:Str) (ag:List (Str×List Row)),ds=[dE ord ay ag]/\R (br [(ay,1)]) M
theorem jb(F:Fun K "goals_wish" "goals_wish" dn f fd) (T:Txt K mg) :aO P w K mg base CX0 1 f fd ["lexicon"] (spD K 1 de):=by
 have nd:=eU.nd;refine F.okR rfl eU (fun cdv A outer s H E hr=>⟨_,(aw (bc (cR (ae (cR (ae (aV aX (af 0) aj (fun _ _=>rfl)) (ae aj ah))) ah)))),fun ds M R _ hS bk=>?_⟩);obtain⟨ord,ay,ag,rfl,k⟩:=hS;refine bk ?_;clear bk;simp only[dE];walk_at "rd";exact⟨sz3 2,sz3 1,k⟩
theorem oQ{α β:Type}(f:α->D) (g:β->D):∀(l:List α) (m:List β),dB (l.map f) (m.map g)=(l.zip m).map fun p=>D.tup [f p.1,g p.2]
 |[],_=>by simp[dB]
 |_::_,[]=>by simp[dB]
 |a::l,b::m=>by simp only[J5,dB,ab1,oQ f g l m]
theorem nO{α:Type}{f:α->D}:∀{xs:List α}{n:Nat},kj n (xs.map f)=(xs.zipIdx n).map fun q=>D.tup [D.int (q.2:Int),f q.1]
 |[],_=>rfl
 |x::xs,n=>by
  rw[J5,List.zipIdx_cons,J5,<-nO];rfl
theorem va{kvs:List (Key×D)}{k:Key}{v:D}:(fO kvs k v).length<=kvs.length+1:=by
 unfold fO
 split
 ·rw[E7];lia
 ·simp
def sU(ag:List (Str×List Row)) (ws:List Str) (w:Str):Prop:=∃i:Nat,ws[i]?=some w/\w∉ag.map (·.1)/\∀v∈ws.take i,v∈ag.map (·.1)
theorem sU.at_{ag:List (Str×List Row)}{ws:List Str}{w:Str}(h:sU ag ws w) {j:Nat}{v:Str}(hj:ws[j]?=some v) (hv:∀u∈ws.take j,u∈ag.map (·.1)) (hn:v∉ag.map (·.1)):v=w:=by
 obtain⟨i,hi,hw,ht⟩:=h;have e:j=i:=by
  rcases Nat.lt_trichotomy j i with h|h|h
  ·exact absurd (ht v (J8 (i:=j) (by rw[List.getElem?_take_of_lt h];exact hj))) hn
  ·exact h
  ·exact absurd (hv w (J8 (i:=i) (by rw[List.getElem?_take_of_lt h];exact hi))) hw
 subst e;rw[hj]at hi;cases hi;rfl
def pU(n:Nat):SpD:=fun ds M R=>∃(ord:List (Str×Str)) (ay:Str) (ag:List (Str×List Row)) (ws:List Str) (w:Str) (more:List D),ds=dE ord ay ag::.tup (ws.map .str)::more/\more.length=n/\LxP ord ay ag/\(∀v∈ws,cx (.str v)=true)/\ws.length<=50/\sU ag ws w/\∀dd,M dd=none->R (xA 0 (some dd)) (ar M dd (iV "word" dd (.str w)))
theorem pJ(F:Fun K "__init__" "Chart.__init__" lZ f fd) (T:Txt K mg):aO P w K mg base CX0 1 f fd ["self","order","kinds"] (spD K 3 ie):=n9
theorem gG(F:Fun K "count_of_all" "count_of_all" dX f fd) (T:Txt K mg):aO P w K mg base CX0 1 f fd ["chart"] (spD K 1 ie):=n9
def cT:SpD:=pU 0
theorem eX(F:Fun K "kinds_by_number" "kinds_by_number" bS f fd) (T:Txt K mg) {C0 W fI0:E5} (Y:i3 K mg C0 W fI0) (G6:FnY P w K mg base "kinds_of" 3 2 cW [C0]):aO P w K mg base (CX2 P w [C0]) 4 f fd ["lexicon","words"] (spY K 2 cT [C0]):=by
 have nd:=cQ.nd;refine F.okY rfl cQ (fun cdv A outer s H E hr=>⟨_,(eN (Di (aH (i:=2) nd rfl (N4 rfl) (rj (aV aX (ym rfl T.g_START) aj (fun _ _=>rfl)) (cR (ae (cR ah) ah)))))
   (eN (Do T3.leaving rfl (xD rfl T.b_enumerate (ae (af 1) ah)) (oU rfl (di (ba (i:=3) nd rfl (N4 rfl)) (di (ba (i:=4) nd rfl (N4 rfl)) nt))) (j7 (xB hr.units1 (af 2) (af 3) (fH G6 (hr.mono (by decide)) rfl lM (ae (af 0) (ae (af 4) ah))))))
   fu)),fun ds M R hl hS=>?_⟩)
 obtain⟨ord,ay,ag,ws,w,more,rfl,hm,hL,hg,hwl,ho,k⟩:=hS;obtain rfl:=X4.mp hm;walk_at "rd";intro p hp;refine⟨O4 _,sz3 1,.inl (-1),rfl,fun hz=>?_⟩;rw[nO];refine aQ (fun i Δ M'=>∃x3 x4 kvs,Δ=[some (dE ord ay ag),some (D.tup (ws.map D.str)),some (D.ref p),x3,x4]/\M'=ar M p (.dK kvs)/\kvs.length<=i+1/\∀v∈ws.take i,v∈ag.map (·.1)) ⟨_,_,_,rfl,rfl,F5 _,fun _ h=>by simp at h⟩ ?_ ?_
 ·rintro i d Δ M' X hd ⟨x3,x4,kvs,rfl,rfl,hkl,hall⟩ k';obtain⟨t,ht,rfl⟩:=eF hd;have hti:ws[i]?=some t.1/\t.2=i:=by
   rw[List.getElem?_zipIdx]at ht;cases hw':ws[i]? with
   |none=>rw[hw']at ht;cases ht
   |some x=>rw[hw']at ht;cases ht;exact⟨rfl,by simp⟩
  have hi:i<ws.length:=(F4.mp hti.1).1;refine⟨_,rfl,?_⟩;simp only[pC,dXC,lD,nF,uE];refine⟨_,rfl,_,rfl,rfl,ord,ay,ag,t.1,rfl,hL,hg _ (J8 hti.1),fun hin=>⟨fun _=>?_,fun i x e=>?_⟩,fun hno dd hdd=>⟨fun e=>?_,fun i x e=>?_⟩⟩
  ·refine⟨_,rfl,_,rfl,p,_,.inl (t.2:Int),rfl,aq,rfl,by rw[R6];lia,?_⟩;rw[aJ];refine k' _ _ ⟨_,_,_,rfl,rfl,?_,fun v hv=>?_⟩
   ·have:=va (kvs:=kvs) (k:=al9 (t.2:Int)) (v:=cm (kin ag t.1));lia
   ·rw[X7,hti.1]at hv;rcases L9.mp hv with h|h
    ·exact hall v h
    ·have:v=t.1:=by simpa using h
     rw[this];exact hin
  ·exact absurd e (by simp[isX,cm])
  ·rw[bD]at e;cases e
  ·rw[bD]at e;cases e;have hw:=ho.at_ hti.1 hall hno;have hpd:p≠dd:=fun z=>by rw[<-z,aq]at hdd;cases hdd
   rw[hw];refine⟨ar M dd (iV (L4 "word") dd (D.str w)),fun b o e=>?_,k dd (by rw[au (M9 hpd)]at hdd;exact hdd)⟩
   by_cases h1:b=dd
   ·subst h1;rw[aq]at e ⊢;exact e
   ·rw[au h1]at e ⊢;rw[au (fun z=>by rw[z,hp]at e;cases e)];exact e
 ·rintro Δ M' ⟨x3,x4,kvs,rfl,rfl,hkl,hall⟩;obtain⟨i,hi,hno,_⟩:=ho;rw[E7,List.length_zipIdx,W8]at hall;exact hno (hall w (J8 hi))
def cq:SpD:=pU 0
theorem kn(F:Fun K "chart_of" "chart_of" eJ f fd) (T:Txt K mg) {C0 W fI0:E5} (Y:i3 K mg C0 W fI0) {C:E5} (ga0:MkD P w K mg base "Chart" C 1 3 ie) (G7:FnY P w K mg base "kinds_by_number" 4 2 cT [C0]):aO P w K mg base (CX2 P w [C0]) 5 f fd ["lexicon","words"] (spY K 2 cq [C0]):=by
 have nd:=fV.nd;refine F.okY rfl fV (fun cdv A outer s H E hr=>⟨_,(j7 (vX (xo ga0 (hr.mono (by decide)) rfl (xP (aV aX (af 0) aj (fun _ _=>rfl)) (qu (fH G7 (hr.mono (by decide)) rfl lM (ae (af 0) (ae (af 1) ah)))))))),fun ds M R hl hS=>?_⟩);obtain⟨ord,ay,ag,ws,w,more,rfl,hm,hL,hg,hwl,ho,k⟩:=hS;obtain rfl:=X4.mp hm;simp only[dE];walk_at "rd";exact⟨ord,ay,ag,ws,w,[],rfl,rfl,hL,hg,hwl,ho,fun dd hd=>⟨fun e=>(by rw[bD]at e;cases e),fun i x e=>by rw[bD]at e;cases e;exact⟨_,fun _ _ e=>e,k dd hd⟩⟩⟩
def nI:SpD:=pU 0
theorem sI(F:Fun K "many" "many" jw f fd) (T:Txt K mg) {C0 W fI0:E5} (Y:i3 K mg C0 W fI0) (G9:FnD P w K mg base "count_of_all" 1 1 ie) (G1:FnY P w K mg base "chart_of" 5 2 cq [C0]):aO P w K mg base (CX2 P w [C0]) 6 f fd ["lexicon","words"] (spY K 2 nI [C0]):=by
 have nd:=lQ.nd;refine F.okY rfl lQ (fun cdv A outer s H E hr=>⟨_,(j7 (vX (zZ G9 (hr.mono (by decide)) rfl (qu (fH G1 (hr.mono (by decide)) rfl lM (ae (af 0) (ae (af 1) ah))))))),fun ds M R hl hS=>?_⟩);obtain⟨ord,ay,ag,ws,w,more,rfl,hm,hL,hg,hwl,ho,k⟩:=hS;obtain rfl:=X4.mp hm;walk_at "rd";exact⟨ord,ay,ag,ws,w,[],rfl,rfl,hL,hg,hwl,ho,fun dd hd=>⟨fun e=>(by rw[bD]at e;cases e),fun i x e=>by rw[bD]at e;cases e;exact⟨_,fun _ _ e=>e,k dd hd⟩⟩⟩
def g9:SpD:=pU 0
theorem kQ(F:Fun K "sentence" "sentence" eG f fd) (T:Txt K mg) {C0 W fI0:E5} (Y:i3 K mg C0 W fI0) (G1:FnY P w K mg base "chart_of" 5 2 cq [C0]):aO P w K mg base (CX2 P w [C0]) 6 f fd ["lexicon","words"] (spY K 2 g9 [C0]):=by
 have nd:=fX.nd;refine F.okY rfl fX (fun cdv A outer s H E hr=>⟨_,(eN (oY 2 nd rfl (N4 rfl) (fH G1 (hr.mono (by decide)) rfl lM (ae (af 0) (ae (af 1) ah))))
   fu),fun ds M R hl hS=>?_⟩)
 obtain⟨ord,ay,ag,ws,w,more,rfl,hm,hL,hg,hwl,ho,k⟩:=hS;obtain rfl:=X4.mp hm;walk_at "rd";exact⟨ord,ay,ag,ws,w,[],rfl,rfl,hL,hg,hwl,ho,fun dd hd=>⟨fun e=>(by rw[bD]at e;cases e),fun i x e=>by rw[bD]at e;cases e;exact⟨_,fun _ _ e=>e,k dd hd⟩⟩⟩
theorem o7{l:List D}(h:l.length=1):∃d,l=[d]:=by
 match l,h with
 |[d],_=>exact⟨d,rfl⟩
def fc:SpD:=pU 1
theorem iR(F:Fun K "drawing_at" "drawing_at" dj f fd) (T:Txt K mg) {C0 W fI0:E5} (Y:i3 K mg C0 W fI0) (G1:FnY P w K mg base "chart_of" 5 2 cq [C0]):aO P w K mg base (CX2 P w [C0]) 6 f fd ["lexicon","words","number"] (spY K 3 fc [C0]):=by
 have nd:=eQ.nd;refine F.okY rfl eQ (fun cdv A outer s H E hr=>⟨_,(eN (oY 3 nd rfl (N4 rfl) (fH G1 (hr.mono (by decide)) rfl lM (ae (af 0) (ae (af 1) ah))))
   fu),fun ds M R hl hS=>?_⟩)
 obtain⟨ord,ay,ag,ws,w,more,rfl,hm,hL,hg,hwl,ho,k⟩:=hS;obtain⟨z,rfl⟩:=o7 hm;walk_at "rd";exact⟨ord,ay,ag,ws,w,[],rfl,rfl,hL,hg,hwl,ho,fun dd hd=>⟨fun e=>(by rw[bD]at e;cases e),fun i x e=>by rw[bD]at e;cases e;exact⟨_,fun _ _ e=>e,k dd hd⟩⟩⟩
def fY:SpD:=pU 1
theorem j6(F:Fun K "number_of" "number_of" dQ f fd) (T:Txt K mg) {C0 W fI0:E5} (Y:i3 K mg C0 W fI0) (G1:FnY P w K mg base "chart_of" 5 2 cq [C0]):aO P w K mg base (CX2 P w [C0]) 6 f fd ["lexicon","words","drawing"] (spY K 3 fY [C0]):=by
 have nd:=fq.nd;refine F.okY rfl fq (fun cdv A outer s H E hr=>⟨_,(eN (oY 3 nd rfl (N4 rfl) (fH G1 (hr.mono (by decide)) rfl lM (ae (af 0) (ae (af 1) ah))))
   fu),fun ds M R hl hS=>?_⟩)
 obtain⟨ord,ay,ag,ws,w,more,rfl,hm,hL,hg,hwl,ho,k⟩:=hS;obtain⟨z,rfl⟩:=o7 hm;walk_at "rd";exact⟨ord,ay,ag,ws,w,[],rfl,rfl,hL,hg,hwl,ho,fun dd hd=>⟨fun e=>(by rw[bD]at e;cases e),fun i x e=>by rw[bD]at e;cases e;exact⟨_,fun _ _ e=>e,k dd hd⟩⟩⟩
def aL(l:List D):Prop:=∃a b:Int,l=[.int a,.int b]
def ng:SpD:=fun ds M R=>∃(ns:List Int) (k:Int),ds=[.scr (ns.map .int),.int k]/\ns.length<=63/\0<=k/\k<=100/\∀p l,M p=none->aL l->R (.ref p) (ar M p (.lst l))
def bJ:SpD:=fun ds M R=>∃p l n,ds=[.ref p,.int n]/\M p=some (.lst l)/\aL l/\0<n/\n<1073741824/\∀v l',0<=v->v<n->aL l'->R (.int v) (ar M p (.lst l'))
theorem uQ{ms:List Int}{i:Nat}{d:D}(h:(ms.map D.int)[i]?=some d):∃c,c∈ms/\d=.int c:=by
 rw[L7]at h;cases q:ms[i]? with
 |none=>rw[q]at h;cases h
 |some c=>rw[q]at h;cases h;exact⟨c,J8 q,rfl⟩
theorem yg{ns:List Int}{lo hi:Option Int}:∃ms:List Int,L2.b7 (ns.map D.int) lo hi=ms.map D.int/\ms.length<=ns.length:=by
 refine⟨(ns.drop (HT.sIx (ns.map D.int).length 0 lo)).take (HT.sIx (ns.map D.int).length (ns.map D.int).length hi-HT.sIx (ns.map D.int).length 0 lo),?_,?_⟩
 ·unfold L2.b7;rw[ab3,aj1]
 ·simp;lia
theorem su(F:Fun K "_law_well" "_law_well" jC f fd) (T:Txt K mg) :aO P w K mg base CX0 1 f fd ["_law_script","_law_place"] (spD K 2 ng):=by
 have nd:=k6.nd;refine F.okR rfl k6 (fun cdv A outer s H E hr=>⟨_,(ak (aH (i:=2) nd rfl (N4 rfl) aj)
   (ak (dI P6 rfl (cb (bX (af 0) (bY (af 1)) (bY (aK aR (af 1) aj)))) (ba (i:=3) nd rfl (N4 rfl)) (aw (aH (i:=2) nd rfl (N4 rfl) (af 3))))
   (ak (cz (wy (qK (bb C8 (af 2) aj nbh) (mj (bb DQ (af 2) (aK Dd aj aj) nbh)))) (aw (bc (gy (ae aj (ae (aI B5 rfl T.b_abs (by kernel_rfl) (ae (af 2) ah)) ah))))) bC)
   (aw (bc (gy (ae aj (ae (aK aR (aK eh (aK aR (aK eh (af 2) aj) (aK cc aj (af 1))) aj) aj) ah)))))))),fun ds M R _ hS bk=>?_⟩)
 obtain⟨ns,k0,rfl,hl,h0,h1,k⟩:=hS;refine bk ?_;clear bk;walk_at "rd";obtain⟨ms,hms,hml⟩:=yg (ns:=ns) (lo:=some k0) (hi:=some (k0+1));rw[hms];intro hz;refine aQ (fun i Δ M'=>∃(x:Int) (y:Option D),Δ=[some (D.scr (List.map D.int ns)),some (D.int k0),some (D.int x),y]/\M'=M) ⟨0,none,rfl,rfl⟩ ?_ ?_
 ·intro i d Δ M' X hd hI' k';refine shr fun _ bk=>?_;obtain⟨x,y,rfl,rfl⟩:=hI';refine bk ?_;clear bk;obtain⟨c,hc,rfl⟩:=uQ hd;simp only[bG];walk_at "rd";exact k' _ _ ⟨_,_,rfl,rfl⟩
 ·intro Δ M' hI';refine shr fun _ bk=>?_;obtain⟨x,y,rfl,rfl⟩:=hI';refine bk ?_;clear bk;walk_at "rd";exact cS (fun _=>⟨sz3 2,fun p hp=>k p _ hp ⟨_,_,rfl⟩⟩) (fun _=>cS (fun _=>⟨sz3 2,fun p hp=>k p _ hp ⟨_,_,rfl⟩⟩) (fun _=>⟨sz3 2,fun p hp=>k p _ hp ⟨_,_,rfl⟩⟩))
theorem rV(F:Fun K "_law_draw" "_law_draw" jM f fd) (T:Txt K mg) :aO P w K mg base CX0 1 f fd ["_law_well_here","_law_top"] (spD K 2 bJ):=by
 have nd:=kY.nd;refine F.okR rfl kY (fun cdv A outer s H E hr=>⟨_,(ak (cz (bb (gc hr.units) (aV aX (af 0) aj (fun _ _=>rfl)) aj nbh) (ak (aH (i:=2) nd rfl (N4 rfl) (aK eh (aV aX (af 0) aj (fun _ _=>rfl)) (af 1)))
   (ak (rC (af 0) aj (aK p7 (aV aX (af 0) aj (fun _ _=>rfl)) (af 1)))
   (aw (bc (af 2))))) bC)
   (ak (dI P6 rfl (bp rfl T.b_range (ae aj ah)) (ba (i:=3) nd rfl (N4 rfl)) (ak (zi (aI vw rfl T.b_divmod (by kernel_rfl) (ae (aV aX (af 0) aj (fun _ _=>rfl)) (ae aj ah))) (oU rfl (di (ba (i:=4) nd rfl (N4 rfl)) (di (ba (i:=5) nd rfl (N4 rfl)) nt))))
   (aw (rC (af 0) aj (aK eh (aK aR (aK aR (aK cc (af 5) aj) (aK cc (af 4) aj)) aj) aj)))))
   (aw (bc (aK eh (aK p7 (aV aX (af 0) aj (fun _ _=>rfl)) aj) (af 1)))))),fun ds M R _ hS bk=>?_⟩)
 obtain⟨p,l,n,rfl,hM,⟨a,b,rfl⟩,h0,h1,k⟩:=hS;refine bk ?_;clear bk;have hrd:=dF hM;have hcd:∀x,jq x n:=fun x=>⟨h0,h1⟩;walk_at "rd";simp only[hrd,hM,hcd];walk_at "rd";have m1:∀x:Int,0<=x % n:=fun x=>Int.emod_nonneg _ (by lia);have m2:∀x:Int,x % n<n:=fun x=>Int.emod_lt_of_pos _ h0;refine cS (fun _=>⟨_,if_pos h0,_,if_pos (hcd b),k _ _ (m1 _) (m2 _) ⟨_,_,rfl⟩⟩) (fun _=>?_);refine aQ (fun i Δ M'=>∃(x3 x4 x5:Option D) (b':Int),Δ=[some (D.ref p),some (D.int n),none,x3,x4,x5]/\M'=ar M p (.lst [.int a,.int b'])) ⟨_,_,_,b,rfl,(ly hM).symm⟩ ?_ ?_
 ·intro i d Δ M' X hd hI' k';refine shr fun _ bk=>?_;obtain⟨x3,x4,x5,b',rfl,rfl⟩:=hI';refine bk ?_;clear bk;simp only[bG];walk_at "rd";simp only[lu,iE,bG,qU,Option.bind_some];refine⟨_,if_pos rfl,?_⟩;walk_at "rd";exact k' _ _ ⟨_,_,_,_,rfl,rfl⟩
 ·intro Δ M' hI';refine shr fun _ bk=>?_;obtain⟨x3,x4,x5,b',rfl,rfl⟩:=hI';refine bk ?_;clear bk;walk_at "rd";refine⟨_,if_pos h0,k _ _ (m1 _) (m2 _) ⟨_,_,rfl⟩⟩
def lX:SpD:=fun ds M R=>∃p l,ds=[.ref p]/\M p=some (.lst l)/\aL l/\∀(ws:List Str) l',ws≠[]->ws.length<=4->aL l'->R (.lst (ws.map .str)) (ar M p (.lst l'))
theorem zC{v:Int}(h0:0<=v) (h1:v<26):∃y:Str,y.length=1/\ixD (.str (L4 "nsabcdefghijklmopqrtuvwxyz")) (.int v)=some (.str y):=by
 obtain⟨n,rfl⟩:=K5 h0;have bu:(L4 "nsabcdefghijklmopqrtuvwxyz").cps.toList.length=26:=by decide +kernel
 have hn:n<(L4 "nsabcdefghijklmopqrtuvwxyz").cps.toList.length:=by lia
 refine⟨⟨#[(L4 "nsabcdefghijklmopqrtuvwxyz").cps.toList[n]]⟩,rfl,?_⟩;rw[y9,if_pos (show(L4 "nsabcdefghijklmopqrtuvwxyz").length<=E4 from by decide +kernel),bK (H0 hn)];rfl
theorem mw{te:TEd}{n:Nat}{S v1:D}{x:Option D}{M:DH}{Q:List D->DH->Prop}(h:∀(i:Nat) (X:D->DH->Prop),i<n->(∀y:Str,X (.str y) M)->te [none,some S,some v1,none,none,some (.int (0+(i:Int)))] M X)
  (q:∀ws:List Str,ws.length=n->Q (ws.map .str) M):cy (bG 5) kz te (iX 0 n) [none,some S,some v1,none,none,x] M [] Q:=by
 refine eD (fun i acc Δ M'=>∃(x:Option D) (ws:List Str),Δ=[none,some S,some v1,none,none,x]/\M'=M/\acc=ws.map .str/\ws.length=i) ⟨_,[],rfl,rfl,rfl,rfl⟩ ?_ ?_
 ·rintro i d acc Δ M' X hd ⟨x,ws,rfl,rfl,rfl,hw⟩ k';obtain⟨hi,rfl⟩:=bT hd;refine⟨_,rfl,?_⟩;simp only[kz,if_true];exact h i _ hi fun y=>k' _ _ _ ⟨_,ws++[y],rfl,rfl,by simp,by simp[hw]⟩
 ·rintro acc Δ M' ⟨x,ws,rfl,rfl,rfl,hw⟩;rw[bq]at hw;exact q ws hw
theorem pO(F:Fun K "_law_marks" "_law_marks" c8 f fd) (T:Txt K mg) (G0:FnD P w K mg base "_law_draw" 1 2 bJ):aO P w K mg base CX0 2 f fd ["_law_well_here"] (spD K 1 lX):=by
 have nd:=jS.nd;refine F.okR rfl jS (fun cdv A outer s H E hr=>⟨_,(ak (aH (i:=1) nd rfl (am2 rfl) gX)
   (ak (aH (i:=2) nd rfl (am2 rfl) (qd G0 hr (ae (af 0) (ae aj ah))))
   (ak (aH (i:=3) nd rfl (N4 rfl) (aK aR aj (qd G0 hr (ae (af 0) (ae aj ah)))))
   (ak (aH (i:=4) nd rfl (N4 rfl) (qd G0 hr (ae (af 0) (ae aj ah))))
   (ak (cz (bb (gc hr.units) (af 4) aj nbh) (aw (bc (ic (ms:=[false,true,true,false,false]) (ao:=["_law_k"]) (aM rfl (show aT (ai c8) cD _ _=true from by decide +kernel)) rfl (bp rfl T.b_range (ae (af 3) ah)) (aP (i:=5) (show(cD++_).Nodup from by decide +kernel) rfl rfl) (fun _ _ _ _=>bI) (fun _ _ _ _=>(aK cc (aV aX (af 1) (af 2) (fun _ _=>rfl)) (aK aR (af 5) aj)))))) bC)
   (ak (cz (bb (gc hr.units) (af 4) aj nbh) (aw (bc (ic (ms:=[false,true,true,false,false]) (ao:=["_law_k"]) (aM rfl (show aT (ai c8) cD _ _=true from by decide +kernel)) rfl (bp rfl T.b_range (ae (af 3) ah)) (aP (i:=5) (show(cD++_).Nodup from by decide +kernel) rfl rfl) (fun _ _ _ _=>bI) (fun _ _ _ _=>(aV aX (af 1) (aK eh (aK aR (af 2) (aK cc aj (af 5))) aj) (fun _ _=>rfl)))))) bC)
   (aw (bc (ic (ms:=[false,true,true,false,false]) (ao:=["_law_k"]) (aM rfl (show aT (ai c8) cD _ _=true from by decide +kernel)) rfl (bp rfl T.b_range (ae (af 3) ah)) (aP (i:=5) (show(cD++_).Nodup from by decide +kernel) rfl rfl) (fun _ _ _ _=>bI) (fun _ _ _ _=>(aK aR (aV aX (af 1) (aK eh (aK aR (af 2) (aK cc aj (af 5))) aj) (fun _ _=>rfl)) (aK cc (aV aX (af 1) (af 2) (fun _ _=>rfl)) aj)))))))))))),fun ds M R _ hS bk=>?_⟩)
 obtain⟨p,l,rfl,hM,hP,k⟩:=hS;refine bk ?_;clear bk;walk_at "rd";refine⟨p,l,26,rfl,hM,hP,by lia,by lia,fun v1 l1 a0 a1 hP1=>?_⟩;walk_at "rd";refine⟨p,l1,4,rfl,aq,hP1,by lia,by lia,fun v2 l2 b0 b1 hP2=>?_⟩;rw[aJ];walk_at "rd";refine⟨p,l2,3,rfl,aq,hP2,by lia,by lia,fun v3 l3 c0 c1 hP3=>?_⟩;rw[aJ];walk_at "rd";obtain⟨n,hn⟩:=K5 b0;have en:(1+v2).toNat=n+1:=by lia
 rw[en];obtain⟨y1,hy1,e1⟩:=zC a0 a1;have fin:∀ws:List Str,ws.length=n+1->R (.lst (ws.map .str)) (ar M p (.lst l3)):=fun ws hw=>k ws l3 (by rintro rfl;simp at hw) (by lia) hP3;have hz:(iX 0 (n+1)).length<=E4:=by rw[bq];exact sz3 _ (by lia)
 refine cS (fun _=>⟨by lia,by lia,hz,mw (fun i X hi q=>?_) fin⟩) (fun _=>cS (fun _=>⟨by lia,by lia,hz,mw (fun i X hi q=>?_) fin⟩) (fun _=>⟨by lia,by lia,hz,mw (fun i X hi q=>?_) fin⟩))
 ·walk_at "rd";refine⟨_,e1,?_⟩;walk_at "rd";exact⟨_,if_pos ⟨by lia,by lia,by lia,by rw[hy1];lia⟩,q _⟩
 ·walk_at "rd";obtain⟨y,hy,e⟩:=zC (v:=(v1+3*(0+(i:Int))) % 26) (by lia) (by lia);exact⟨_,e,q y⟩
 ·walk_at "rd";obtain⟨y,hy,e⟩:=zC (v:=(v1+5*(0+(i:Int))) % 26) (by lia) (by lia);refine⟨_,e,_,e1,_,if_pos ⟨by lia,by lia,by lia,by rw[hy1];decide⟩,_,if_pos ?_,q _⟩;have hlm:=len_mul y1 7;simp at hlm;exact sz3 _ (by rw[hy];lia)
def lY:SpD:=fun ds M R=>∃(p:E5) (l:List D) (av:List Str),ds=[.ref p,.lst (av.map .str)]/\M p=some (.lst l)/\aL l/\av≠[]/\av.length<=9 /\
 ∀(ord:List (Str×Str)) l',ord.length<=8->(∀x∈ord,x.1∈av/\x.2∈av)->aL l'->R (.tup (ord.map ck)) (ar M p (.lst l'))
theorem pQ(F:Fun K "_law_order" "_law_order" iu f fd) (T:Txt K mg) (G0:FnD P w K mg base "_law_draw" 1 2 bJ):aO P w K mg base CX0 2 f fd ["_law_well_here","_law_marks_here"] (spD K 2 lY):=by
 have nd:=jE.nd;refine F.okR rfl jE (fun cdv A outer s H E hr=>⟨_,(ak (aH (i:=2) nd rfl (N4 rfl) (gy ah))
   (ak (dI P6 rfl (bp rfl T.b_range (ae (aV aX (gb (ae aj (ae aj (ae aj (ae aj ah))))) (qd G0 hr (ae (af 0) (ae aj ah))) (fun _ _=>rfl)) ah)) (ba (i:=3) nd rfl (N4 rfl)) (aw (jk (tQ (af 2) (cR (ae (aV aX (af 1) (qd G0 hr (ae (af 0) (ae (aI bV rfl T.b_len (by kernel_rfl) (ae (af 1) ah)) ah))) (fun _ _=>rfl)) (ae (aV aX (af 1) (qd G0 hr (ae (af 0) (ae (aI bV rfl T.b_len (by kernel_rfl) (ae (af 1) ah)) ah))) (fun _ _=>rfl)) ah)))))))
   (aw (iG (bA cK rfl T.b_tuple (by kernel_rfl) (ae (af 2) ah)))))),fun ds M R _ hS bk=>?_⟩)
 obtain⟨p,l,av,rfl,hM,hP,hm,hml,k⟩:=hS;refine bk ?_;clear bk;walk_at "rd";refine⟨sz3 0,fun q hq=>?_⟩;have hpq:p≠q:=(nn hq hM).symm;refine⟨sz3 4,p,l,4,rfl,by rw[au hpq];exact hM,hP,by lia,by lia,fun v l1 h2 h3 hP1=>?_⟩;obtain⟨n,hn,en⟩:∃n:Nat,n<=8/\ixD (D.lst [D.int 0,D.int 2,D.int 4,D.int 8]) (.int v)=some (.int (n:Int)):=by
  have:v=0∨v=1∨v=2∨v=3:=by lia
  rcases this with rfl|rfl|rfl|rfl
  ·exact⟨0,by lia,rfl⟩
  ·exact⟨2,by lia,rfl⟩
  ·exact⟨4,by lia,rfl⟩
  ·exact⟨8,by lia,rfl⟩
 refine⟨_,en,_,rfl,by lia,by lia,?_⟩;have hmp:=ac7.mpr hm;refine aQ (fun i Δ M'=>∃(x3:Option D) (l2:List D) (ord:List (Str×Str)),Δ=[some (D.ref p),some (D.lst (av.map D.str)),some (D.ref q),x3]/\M'=ar (ar M p (.lst l2)) q (.lst (ord.map ck))/\aL l2/\ord.length=i/\∀x∈ord,x.1∈av/\x.2∈av)
  ⟨_,l1,[],rfl,bN (M9 hpq),hP1,rfl,fun x hx=>absurd hx (by simp)⟩ ?_ ?_
 ·intro i d Δ M' X hd hI k';refine shr fun _ bk=>?_;obtain⟨x3,l2,ord,rfl,rfl,hP2,hol,ho⟩:=hI;refine bk ?_;clear bk;have hi:i<8:=by have:=(bT hd).1;lia
  simp only[bG];walk_at "rd";rw[E7];refine⟨p,l2,_,rfl,by rw[au hpq,aq],hP2,by lia,by lia,fun v1 l3 a0 a1 hP3=>?_⟩;obtain⟨m1,hm1,e1⟩:=c9 a0 a1;refine⟨_,e1,p,l3,_,rfl,aq,hP3,by lia,by lia,fun v2 l4 b0 b1 hP4=>?_⟩;obtain⟨m2,hm2,e2⟩:=c9 b0 b1;refine⟨_,e2,sz3 2,?_⟩;have em:ar (ar (ar (ar M p (.lst l2)) q (.lst (ord.map ck))) p (.lst l3)) p (.lst l4)=ar (ar M p (.lst l4)) q (.lst (ord.map ck)):=by
   rw[aJ,<-bN hpq,aJ]
  rw[em];refine⟨_,aq,by rw[E7];exact J6 (by lia:ord.length<1000) (sz3 1000),?_⟩;rw[aJ];refine k' _ _ ⟨_,l4,ord++[(m1,m2)],rfl,by simp[ck],hP4,by simp;lia,fun x hx=>?_⟩;rcases L9.mp hx with h|h
  ·exact ho x h
  ·have:x=(m1,m2):=by simpa using h
   subst this;exact⟨hm1,hm2⟩
 ·intro Δ M' hI;refine shr fun _ bk=>?_;obtain⟨x3,l2,ord,rfl,rfl,hP2,hol,ho⟩:=hI;refine bk ?_;clear bk;rw[bq]at hol;walk_at "rd";exact⟨_,rh (by rw[au (M9 hpq)];exact hq),k ord l2 (by lia) ho hP2⟩
def jH(ag:List (Str×List Row)):List (Key×D):=ag.map fun e=>(.inr e.1,cm e.2)
theorem qp:∀{ag:List (Str×List Row)},pL (ag.map gp)=some (jH ag)
 |[]=>rfl
 |e::l=>by
  rw[J5,gp];simp only[pL,qp (ag:=l),ac1];rfl
theorem kW{ag:List (Str×List Row)}(h:(ag.map (·.1)).Nodup):oC (.tup (ag.map gp))=some (iA (jH ag)):=by
 refine yF qp ?_;unfold jH;rw[W1];have:((fun x:Key×D=>x.1)∘fun e:Str×List Row=>((.inr e.1:Key),cm e.2))=(fun x:Str=>(ak5 x:Key))∘fun e:Str×List Row=>e.1:=rfl;rw[this,<-W1];unfold List.Nodup at h ⊢;rw[List.pairwise_map];exact List.Pairwise.imp (fun hab e=>hab (ak5.inj e)) h
theorem gI{w:Str}:∀{ag:List (Str×List Row)},w∈ag.map (·.1)->cM (jH ag) (.inr w)=some (cm (kin ag w))
 |[],h=>by cases h
 |e::l,h=>by
  unfold jH kin;rw[J5,P2]
  by_cases c:e.1=w
  ·rw[bB (by rw[c]),show(w==e.1)=true by simp[c]];rfl
  ·rw[bz (fun z=>c (ak5.inj z)),show(w==e.1)=false by simpa using fun q:w=e.1=>c q.symm];rw[J5]at h;exact gI ((E9.mp h).resolve_left fun z=>c z.symm)
def chD(c:List Nat):D:=.tup (c.map fun(k:Nat)=>.int (k:Int))
def bO(ag:List (Str×List Row)):List Str->List Nat->Row
 |w::ws,k::ks=>(kin ag w).getD k []++bO ag ws ks
 |_,_=>[]
def zS(ag:List (Str×List Row)) (ws:List Str) (c:List Nat):Prop:=c.length=ws.length/\∀(i:Nat) (w:Str) (k:Nat),ws[i]?=some w->c[i]?=some k->k<(kin ag w).length
theorem oA{ag:List (Str×List Row)}:∀{ws:List Str}{c:List Nat}{i:Nat}{w:Str}{k:Nat},ws[i]?=some w->c[i]?=some k->bO ag (ws.take (i+1)) (c.take (i+1))=bO ag (ws.take i) (c.take i)++(kin ag w).getD k []
 |[],_,_,_,_,h,_=>by simp at h
 |_::_,[],_,_,_,_,h=>by simp at h
 |w'::ws,k'::c,0,w,k,h1,h2=>by
  simp only[List.getElem?_cons_zero,ae2]at h1 h2;subst h1;subst h2;simp[bO]
 |w'::ws,k'::c,i+1,w,k,h1,h2=>by
  simp only[S1]at h1 h2;simp only[List.take_succ_cons,bO];rw[oA h1 h2,ac0]
theorem jc{ag:List (Str×List Row)}{K B:Nat}(he:uN ag K B):∀{ws:List Str}{c:List Nat},(bO ag ws c).length<=B*ws.length
 |[],c=>by simp[bO]
 |w::ws,[]=>by simp[bO]
 |w::ws,k::c=>by
  have hk:=(mz (ag:=ag) (w:=w) (P:=fun rs=>rs.length<=K/\∀r∈rs,r.length<=B) ⟨O4 _,fun _ h=>by cases h⟩ he).2;have hg:((kin ag w).getD k []).length<=B:=by
   rw[U9];cases h:(kin ag w)[k]? with
   |none=>exact O4 _
   |some r=>exact hk r (J8 h)
  have ih:=jc he (ws:=ws) (c:=c);rw[bO,K7,N6,Nat.mul_succ]
  lia
def lh:SpD:=fun ds M R=>∃(ord:List (Str×Str)) (ay:Str) (ag:List (Str×List Row)) (ws:List Str) (c:List Nat),ds=[dE ord ay ag,.tup (ws.map .str),chD c]/\(ag.map (·.1)).Nodup/\uN ag 4 5/\ws.length<=8/\(∀w∈ws,w∈ag.map (·.1))/\zS ag ws c/\R (.lst ((bO ag ws c++[(ay,1)]).map aE)) M
theorem oX(F:Fun K "_law_signs" "_law_signs" hV f fd) (T:Txt K mg) :aO P w K mg base CX0 1 f fd ["_law_lexicon_here","_law_words_here","_law_choice"] (spD K 3 lh):=by
 have nd:=jy.nd;refine F.okR rfl jy (fun cdv A outer s H E hr=>⟨_,(ak (aH (i:=3) nd rfl (N4 rfl) (bA (wz rfl) rfl T.b_dict (by kernel_rfl) (ae (aV aX (af 0) aj (fun _ _=>rfl)) ah)))
   (ak (aH (i:=4) nd rfl (N4 rfl) (gy ah))
   (ak (dI P6 rfl (bp rfl T.b_range (ae (aI bV rfl T.b_len (by kernel_rfl) (ae (af 1) ah)) ah)) (ba (i:=5) nd rfl (N4 rfl)) (aw (jk (zV (af 4) (aV aX (pS hr.units1 (af 3) (aV aX (af 1) (af 5) (fun _ _=>rfl)) (fun _ _=>rfl)) (aV aX (af 2) (af 5) (fun _ _=>rfl)) (fun _ _=>rfl))))))
   (aw (iG (aK aR (af 4) (gb (ae (cR (ae (aV aX (af 0) aj (fun _ _=>rfl)) (ae aj ah))) ah)))))))),fun ds M R _ hS bk=>?_⟩)
 obtain⟨ord,ay,ag,ws,c,rfl,hnd,he,hwl,hws,⟨hcl,hc⟩,k⟩:=hS;refine bk ?_;clear bk;simp only[dE,chD];walk_at "rd";rw[E7,Q7];refine⟨_,kW hnd,O4 _,fun q hq=>⟨by lia,by lia,?_⟩⟩;refine aQ (fun i Δ M'=>∃x5,Δ=[some (D.tup [D.tup (ord.map ck),D.str ay,D.tup (ag.map gp)]),some (D.tup (ws.map D.str)),some (D.tup (c.map fun(k:Nat)=>D.int (k:Int))),some (iA (jH ag)),some (D.ref q),x5]/\M'=ar M q (.lst ((bO ag (ws.take i) (c.take i)).map aE))) ⟨_,rfl,rfl⟩ ?_ ?_
 ·rintro i d Δ M' X hd ⟨x5,rfl,rfl⟩ k';obtain⟨hi,rfl⟩:=bT hd;rw[Int.zero_add];have hwi:ws[i]?=some ws[i]:=H0 hi;have hci:c[i]?=some (c[i]'(by lia)):=H0 (by lia);generalize ws[i]=w at hwi;generalize c[i]'(by lia)=kk at hci;have hkk:=hc i w kk hwi hci;have hw:=hws w (J8 hwi);have hk5:=(mz (ag:=ag) (w:=w) (P:=fun rs=>rs.length<=4/\∀r∈rs,r.length<=5) ⟨O4 _,fun _ h=>by cases h⟩ he).2;have hrow:(kin ag w)[kk]?=some ((kin ag w).getD kk []):=by simp[hkk]
  have hr5:=hk5 _ (J8 hrow);have bu:=jc he (ws:=ws.take i) (c:=c.take i);rw[K9]at bu;simp only[bG];walk_at "rd";refine⟨_,bK (by rw[L7,hwi];rfl),_,ka,.inr w,rfl,_,gI hw,_,bK (by rw[L7,hci];rfl),br ((kin ag w).getD kk []),?_,_,_,rfl,rfl,by rw[E7,E7,R6];lia,?_⟩
  ·show atI ((kin ag w).map br) (kk:Int)=_;exact bK (by rw[L7,hrow];rfl)
  ·refine k' _ _ ⟨_,rfl,?_⟩;rw[oA hwi hci,S7]
 ·rintro Δ M' ⟨x5,rfl,rfl⟩;rw[bq,W8,<-hcl,W8];have bu:=jc he (ws:=ws) (c:=c);walk_at "rd";refine⟨sz3 2,sz3 1,.lst ((bO ag ws c++[(ay,1)]).map aE),?_,M,rh hq,k⟩;rw[S7];refine if_pos (show((bO ag ws c).map aE).length+1<=E4 from ?_);rw[E7,R6];lia
def fw:SpD:=fun ds M R=>∃(p:E5) (l:List D) (ws:List Str),ds=[.ref p,.tup (ws.map .str)]/\M p=some (.lst l)/\aL l/\ws≠[]/\ws.length<=8/\∀(us:List Str) l',us.length<=8->(∀w∈us,w∈ws)->aL l'->R (.tup (us.map .str)) (ar M p (.lst l'))
theorem ja(F:Fun K "_law_some_words" "_law_some_words" cu f fd) (T:Txt K mg) (G0:FnD P w K mg base "_law_draw" 1 2 bJ):aO P w K mg base CX0 2 f fd ["_law_well_here","_law_names"] (spD K 2 fw):=by
 have nd:=eV.nd;refine F.okR rfl eV (fun cdv A outer s H E hr=>⟨_,(ak (cz (bb C8 (qd G0 hr (ae (af 0) (ae aj ah))) aj nbh) (aw (bc (af 1))) bC)
   (ak (jj (i:=2) nd rfl rfl rfl (ms:=[true,true,false]) (ao:=["_law_k"]) (aM rfl (show aT (ai cu) dm _ _=true from by decide +kernel)) rfl (bp rfl T.b_range (ae (qd G0 hr (ae (af 0) (ae (aK aR (aI bV rfl T.b_len (by kernel_rfl) (ae (af 1) ah)) aj) ah))) ah)) (aP (i:=3) (show(dm++_).Nodup from by decide +kernel) rfl rfl) (fun _ _ _ _=>bI) (fun _ _ _ _=>(aV aX (af 1) (qd G0 hr (ae (af 0) (ae (aI bV rfl T.b_len (by kernel_rfl) (ae (af 1) ah)) ah))) (fun _ _=>rfl))))
   (aw (bc (bA cK rfl T.b_tuple (by kernel_rfl) (ae (af 2) ah)))))),fun ds M R _ hS bk=>?_⟩)
 obtain⟨p,l,ws,rfl,hM,hP,hne,hwl,k⟩:=hS;refine bk ?_;clear bk;walk_at "rd";have hpos:=ac7.mpr hne;rw[E7];refine⟨p,l,4,rfl,hM,hP,by lia,by lia,fun v l1 a0 a1 hP1=>?_⟩;refine⟨_,rfl,_,rfl,cS (fun _=>k ws l1 hwl (fun _ h=>h) hP1) (fun _=>?_)⟩;refine⟨p,l1,_,rfl,aq,hP1,by lia,by lia,fun v2 l2 b0 b1 hP2=>?_⟩;rw[aJ];obtain⟨n,rfl⟩:=K5 b0;refine⟨_,rfl,by lia,by lia,by rw[bq];exact sz3 _ (by lia),?_⟩;rw[Q7];have hc:iO [true,true,false] 1 [some (D.ref p),some (D.tup (ws.map D.str)),none]=[some (D.ref p),some (D.tup (ws.map D.str)),none,none]:=rfl;rw[hc];refine eD (fun i acc Δ M'=>∃(x:Option D) (us:List Str) (l:List D),Δ=[some (D.ref p),some (D.tup (ws.map D.str)),none,x]/\M'=ar M p (.lst l)/\acc=us.map D.str/\us.length=i/\(∀w∈us,w∈ws)/\aL l) ⟨_,[],l2,rfl,rfl,rfl,rfl,fun _ h=>(by cases h),hP2⟩ ?_ ?_
 ·rintro i d acc Δ M' X hd ⟨x,us,l3,rfl,rfl,rfl,hul,hus,hP3⟩ k';obtain⟨hi,rfl⟩:=bT hd;refine⟨_,rfl,?_⟩;simp only[kz,if_true];walk_at "rd";rw[E7];refine⟨p,l3,_,rfl,aq,hP3,by lia,by lia,fun v3 l4 c0 c1 hP4=>?_⟩;rw[aJ];obtain⟨w,hw,e⟩:=c9 c0 c1;exact⟨_,e,k' _ _ _ ⟨_,us++[w],l4,rfl,rfl,by simp,by simp[hul],fun y hy=>by
   rcases L9.mp hy with h|h
   ·exact hus y h
   ·rw[J0.mp h];exact hw,hP4⟩⟩
 ·rintro acc Δ M' ⟨x,us,l3,rfl,rfl,rfl,hul,hus,hP3⟩;rw[bq]at hul;exact k us l3 (by lia) hus hP3
theorem qF{ord:List (Str×Str)}{ay:Str}{ag:List (Str×List Row)}{ws:List Str}{w:Str}{M:DH}{Q:List D->DH->Prop}{XH:Nat->Option E5->DH->Prop}(hL:LxP ord ay ag) (hg:∀v∈ws,cx (.str v)=true) (ho:sU ag ws w)
  (k:∀dd,M dd=none->XH 0 (some dd) (ar M dd (iV "word" dd (.str w)))):∀(vs pre:List Str),ws=pre++vs->(∀v∈pre,v∈ag.map (·.1))->∀(x:Option D) (acc:List D),
  gq (bG 5) (dXC 2 cW (lD (nF 0) (lD (nF 5) uE))) (vs.map D.str) [some (dE ord ay ag),none,none,none,none,x] M acc Q XH
 |[],pre,e,hp,_,_=>by
  obtain⟨i,hi,hno,_⟩:=ho;rw[R7]at e;exact(hno (hp w (by rw[<-e];exact J8 hi))).elim
 |v::vs,pre,e,hp,x,acc=>by
  have hv:ws[pre.length]?=some v:=by rw[e];simp
  have ht:ws.take pre.length=pre:=by rw[e];simp
  rw[J5];simp only[gq];refine⟨_,rfl,?_⟩;simp only[dXC,lD,nF,uE];refine⟨_,rfl,_,rfl,rfl,ord,ay,ag,v,rfl,hL,hg v (J8 hv),fun hin=>⟨fun _=>?_,fun i x e=>absurd e (by simp[isX,cm])⟩,fun hno dd hdd=>⟨fun e=>?_,fun i x e=>?_⟩⟩
  ·exact qF hL hg ho k vs (pre++[v]) (by rw[e];simp) (fun u hu=>by
    rcases L9.mp hu with h|h
    ·exact hp u h
    ·rw[J0.mp h];exact hin) _ _
  ·rw[bD]at e;cases e
  ·rw[bD]at e;cases e;rw[ho.at_ hv (by rw[ht];exact hp) hno];exact k dd hdd
def gE:SpD:=pU 1
theorem kM(F:Fun K "signs_of" "signs_of" bx f fd) (T:Txt K mg) {C0 W fI0:E5} (Y:i3 K mg C0 W fI0) (G6:FnY P w K mg base "kinds_of" 3 2 cW [C0]) (G5:FnD P w K mg base "goals_wish" 1 1 de):aO P w K mg base (CX2 P w [C0]) 4 f fd ["lexicon","words","choice"] (spY K 3 gE [C0]):=by
 have nd:=cL.nd;refine F.okY rfl cL (fun cdv A outer s H E hr=>⟨_,(eN (tM (i:=3) (ms:=[true,false,false,false,false]) (ao:=["word"]) nd rfl rfl rfl (aM rfl (show aT (ai bx) aY _ _=true from by decide +kernel)) rfl rfl rfl rfl xe3 (cb (af 1)) (aP (i:=5) (show(aY++_).Nodup from by decide +kernel) rfl rfl) (fun _ _ _ _=>(fE G6 (hr.mono (by decide)) rfl (fun _ _ h=>h) (ae (af 0) (ae (af 5) ah)))))
   fu),fun ds M R hl hS=>?_⟩)
 obtain⟨ord,ay,ag,ws,w,more,rfl,hm,hL,hg,hwl,ho,k⟩:=hS;obtain⟨z,rfl⟩:=o7 hm;walk_at "rd";exact fun hz=>⟨hz,qF hL hg ho (fun dd hd=>⟨_,fun _ _ e=>e,k dd hd⟩) ws [] rfl (fun _ h=>by cases h) _ _⟩
theorem rJ{ag:List (Str×List Row)}:∀{ws:List Str}{c:List Nat},bO ag ws c=(ws.zip c).flatMap fun p=>(kin ag p.1).getD p.2 []
 |[],c=>by simp[bO]
 |_::_,[]=>by simp[bO]
 |w::ws,k::c=>by rw[bO,rJ,ab1,ah7]
def gV:SpD:=fun ds M R=>∃(ord:List (Str×Str)) (ay:Str) (ag:List (Str×List Row)) (ws:List Str) (c:List Nat),ds=[dE ord ay ag,.tup (ws.map .str),chD c]/\LxP ord ay ag/\(∀w∈ws,w∈ag.map (·.1))/\zS ag ws c/\(bO ag ws c).length<=59/\R (.tup ((bO ag ws c++[(ay,1)]).map aE)) M
theorem kG(F:Fun K "signs_of" "signs_of" bx f fd) (T:Txt K mg) (g_q_kinds_of:FnD P w K mg base "kinds_of" 3 2 hG) (G5:FnD P w K mg base "goals_wish" 1 1 de):aO P w K mg base CX0 4 f fd ["lexicon","words","choice"] (spD K 3 gV):=by
 have nd:=cL.nd;refine F.okR rfl cL (fun cdv A outer s H E hr=>⟨_,(ak (jj (i:=3) nd rfl rfl rfl (ms:=[true,false,false,false,false]) (ao:=["word"]) (aM rfl (show aT (ai bx) aY _ _=true from by decide +kernel)) rfl (cb (af 1)) (aP (i:=5) (show(aY++_).Nodup from by decide +kernel) rfl rfl) (fun _ _ _ _=>bI) (fun _ _ _ _=>(qd g_q_kinds_of hr (ae (af 0) (ae (af 5) ah)))))
   (ak (ui (i:=4) nd rfl rfl rfl (ms:=[false,false,false,false,false]) (ao:=["rows","number","sign"]) (aM rfl (show aT (ai bx) aY _ _=true from by decide +kernel)) rfl (vM rfl T.b_zip (ae (af 3) (ae (af 2) ah))) (uh (n:=2) rfl (jh (aP (i:=5) (show(aY++_).Nodup from by decide +kernel) rfl rfl) (jh (aP (i:=6) (show(aY++_).Nodup from by decide +kernel) rfl rfl) tJ))) (fun _ _ _ _=>bI) (fun _ _ _ _=>(cb (aV aX (af 5) (af 6) (fun _ _=>rfl)))) (aP (i:=7) (show(aY++_).Nodup from by decide +kernel) rfl rfl) (fun _ _ _ _=>bI) (fun _ _ _ _=>(af 7)))
   (aw (bc (aK aR (bA cK rfl T.b_tuple (by kernel_rfl) (ae (af 4) ah)) (qd G5 hr (ae (af 0) ah))))))),fun ds M R _ hS bk=>?_⟩)
 obtain⟨ord,ay,ag,ws,cs,rfl,hL,hw,hc,hs,k⟩:=hS;refine bk ?_;clear bk;simp only[chD];walk_at "rd";refine fun hz=>⟨hz,?_⟩;refine bM D.str (fun _=>true) (fun w=>cm (kin ag w)) (fun Δ=>∃x,Δ=[some (dE ord ay ag),none,none,none,none,x]) ws _ _ (fun w' hw' Δ hΔ=>?_) ⟨none,rfl⟩ ?_
 ·obtain⟨x,rfl⟩:=hΔ;refine⟨_,rfl,⟨_,rfl⟩,fun Q1 q=>q,fun _ Q2 q=>?_⟩;walk_at "rd";exact⟨ord,ay,ag,w',rfl,hL,hw w' hw',q⟩
 rw[O5,V5.mpr (fun _ _=>rfl)];refine⟨_,_,⟨rfl,rfl⟩,_,_,_,rfl,_,rfl,?_⟩;rw[oQ];have ef:(ws.zip cs).flatMap (fun p=>((kin ag p.1).getD p.2 []).map aE)=(bO ag ws cs).map aE:=by rw[rJ,List.map_flatMap]
 refine iH (fun p:Str×Nat=>D.tup [cm (kin ag p.1),D.int (p.2:Int)]) (fun p=>((kin ag p.1).getD p.2 []).map aE) (fun Δ=>∃a b c,Δ=[none,none,none,none,none,a,b,c]) _ _ _ _ ?_ ⟨_,_,_,rfl⟩ (by rw[ef,E7];exact sz3 _ (by simp only[T7];lia)) ?_
 ·rintro p hp Δ ⟨a,b,c,rfl⟩;have hpl:p.2<(kin ag p.1).length:=by
   obtain⟨i,hi⟩:=List.mem_iff_getElem?.mp hp;rw[List.getElem?_zip_eq_some]at hi;exact hc.2 i p.1 p.2 hi.1 hi.2
  have eg:(kin ag p.1)[p.2]?=some ((kin ag p.1).getD p.2 []):=by rw[H0 hpl,U9,H0 hpl];rfl
  refine⟨_,rfl,fun acc Q2 hz q2=>?_⟩;simp only[pk,vy,nF,dOp];refine⟨_,rfl,_,rfl,br ((kin ag p.1).getD p.2 []),bK (xs:=(kin ag p.1).map br) (by rw[L7,eg];rfl),_,rfl,fun _=>?_⟩;refine iH aE (fun s=>[aE s]) (fun Δ=>∃c,Δ=[none,none,none,none,none,some (cm (kin ag p.1)),some (D.int (p.2:Int)),c]) ((kin ag p.1).getD p.2 []) _ _ _ ?_ ⟨_,rfl⟩ (by rw[ju];exact hz) (by rintro Δ' ⟨c,rfl⟩;rw[ju];exact q2 _ ⟨_,_,_,rfl⟩);rintro s hs Δ ⟨c,rfl⟩;refine⟨_,rfl,fun acc2 Q3 hz3 q3=>?_⟩;simp only[qf,nF];exact⟨_,rfl,q3 _ ⟨_,rfl⟩⟩
 ·rintro Δ' -
  rw[ef,O5];refine⟨ord,ay,ag,rfl,?_⟩;simp only[br];walk_at "rd";refine⟨_,if_pos (by rw[E7];exact sz3 _ (by lia)),?_⟩;rw[S7]at k;exact k
def Abv(ord:List (Str×Str)) (av:List Str) (kvs:List (List Key×D)):Prop:=∀a b:Str,a∈av->(cM kvs [.inr a,.inr b]).isSome=rB ord a b
def lg:SpD:=fun ds M Q=>∃(ord:List (Str×Str)) (av:List Str),ds=[.tup (ord.map ck),.lst (av.map .str)]/\ord.length<=20/\av.length<=9 /\
 ∀p kvs,M p=none->Abv ord av kvs->Q (.ref p) (ar M p (.dT kvs))
def i9(L:List Str):List (Key×D):=L.map fun x=>(.inr x,.bl true)
theorem qT{L:List Str}{x:Str}:(cM (i9 L) (.inr x)).isSome=decide (x∈L):=by
 induction L with
 |nil=>rfl
 |cons y L ih =>
  unfold i9 at *
  rw[J5]
  by_cases e:y=x
  ·rw[bB (by rw[e])];simp[e]
  ·rw[bz (by simpa using e),ih];simp[M9 e]
theorem xF{L:List Str}{x:Str}:fO (i9 L) (.inr x) (.bl true)=if x∈L then i9 L else i9 (L++[x]):=by
 unfold fO;rw[hJ,qT]
 by_cases h:x∈L
 ·rw[if_pos (by simp[h]),if_pos h];unfold i9;rw[W1];apply List.map_congr_left;intro y _;simp only[Function.comp_def]
  split<;>rfl
 ·rw[if_neg (by simp[h]),if_neg h];simp[i9]
theorem sD{L S:List Str}(hn:L.Nodup) (hs:∀x∈L,x∈S) (hl:S.length<=L.length):∀x∈S,x∈L:=fun x hx=>by
 by_cases h:x∈L
 ·exact h
 ·have:=fL (x::L) S (ad7.mpr ⟨h,hn⟩) (fun y hy=>by
   rcases E9.mp hy with rfl|hy
   ·exact hx
   ·exact hs y hy)
  simp at this;lia
theorem pj(F:Fun K "_law_above" "_law_above" iq f fd) (T:Txt K mg) :aO P w K mg base CX0 1 f fd ["_law_order_here","_law_marks_here"] (spD K 2 lg):=by
 have nd:=jT.nd;refine F.okR rfl jT (fun cdv A outer s H E hr=>⟨_,(ak (aH (i:=2) nd rfl (N4 rfl) DT)
   (ak (dI P6 rfl (cb (af 1)) (ba (i:=3) nd rfl (N4 rfl)) (ak (aH (i:=4) nd rfl (N4 rfl) (rj (af 3) oR))
   (ak (dI P6 rfl (bp rfl T.b_range (ae (aI bV rfl T.b_len (by kernel_rfl) (ae (af 0) ah)) ah)) (ba (i:=5) nd rfl (N4 rfl)) (aw (dI P6 rfl (cb (af 0)) (oU rfl (di (ba (i:=6) nd rfl (N4 rfl)) (di (ba (i:=7) nd rfl (N4 rfl)) nt))) (aw (cz (zH false rfl hr.units1 (af 6) (af 4) rfl) (aw (Bn hr.units1 (af 4) (af 7) oR)) bC)))))
   (aw (dI P6 rfl (Dp (af 4)) (ba (i:=8) nd rfl (N4 rfl)) (aw (As hr.units1 (af 2) (ae (af 3) (ae (af 8) ah)) oR)))))))
   (aw (bc (af 2))))),fun ds M R _ hS bk=>?_⟩)
 obtain⟨ord,av,rfl,ho,hm,k⟩:=hS;refine bk ?_;clear bk;walk_at "rd";intro p hp hz;refine aQ (fun i Δ M'=>∃(kvs:List (List Key×D)) (x3 x4 x5 x6 x7 x8:Option D),Δ=[some (D.tup (ord.map ck)),some (D.lst (av.map .str)),some (D.ref p),x3,x4,x5,x6,x7,x8]/\M'=ar M p (.dT kvs)/\(∀a b:Str,(cM kvs [.inr a,.inr b]).isSome=(decide (a∈av.take i)&&rB ord a b))/\kvs.length<=50*i)
  ⟨[],_,_,_,_,_,_,rfl,rfl,fun a b=>by simp[wk],O4 _⟩ ?_ ?_
 ·rintro i d Δ M' X hd ⟨kvs,x3,x4,x5,x6,x7,x8,rfl,rfl,hk,hkl⟩ k';obtain⟨a,ha,rfl⟩:=eF hd;have hi:i<av.length:=(F4.mp ha).1;have hai:av[i]=a:=(F4.mp ha).2;simp only[bG];walk_at "rd";intro r hr2;have hpr:r≠p:=by rintro rfl;rw[aq]at hr2;cases hr2
  have hMr:M r=none:=by rw[au hpr]at hr2;exact hr2
  rw[E7];refine⟨by lia,by lia,?_⟩;refine aQ (fun t Δ M'=>∃(L:List Str) (x5 x6 x7:Option D),Δ=[some (D.tup (ord.map ck)),some (D.lst (av.map .str)),some (D.ref p),some (D.str a),some (D.ref r),x5,x6,x7,x8]/\M'=ar (ar M p (.dT kvs)) r (.dK (i9 L))/\L.Nodup/\a∈L/\(∀x∈L,dJ ord a x)/\(∀x∈L,x∈a::ord.map (·.2))/\((∀y∈ord,y.1∈L->y.2∈L)∨t+1<=L.length))
   ⟨[a],_,_,_,rfl,rfl,by simp,by simp,fun x hx=>?_,fun x hx=>?_,.inr (by simp)⟩ ?_ ?_
  ·obtain rfl:x=a:=by simpa using hx
   exact dJ.refl
  ·obtain rfl:x=a:=by simpa using hx
   simp
  ·rintro t d Δ M' X2 hd2 ⟨L0,x5,x6,x7,rfl,rfl,hn0,ha0,hs0,hb0,hc0⟩ k2;simp only[bG];walk_at "rd";intro hz2;refine aQ (fun j Δ M'=>∃(L:List Str) (x5 x6 x7:Option D),Δ=[some (D.tup (ord.map ck)),some (D.lst (av.map .str)),some (D.ref p),some (D.str a),some (D.ref r),x5,x6,x7,x8]/\M'=ar (ar M p (.dT kvs)) r (.dK (i9 L))/\(∃s,L=L0++s)/\L.Nodup/\(∀x∈L,dJ ord a x)/\(∀x∈L,x∈a::ord.map (·.2))/\(∀y∈ord.take j,y.1∈L0->y.2∈L))
    ⟨L0,_,_,_,rfl,rfl,⟨[],by simp⟩,hn0,hs0,hb0,fun y hy=>absurd hy (by simp)⟩ ?_ ?_
   ·rintro j d Δ M' X3 hd3 ⟨L,x5,x6,x7,rfl,rfl,⟨s2,hs2⟩,hn,hs,hb,hc⟩ k3;obtain⟨⟨y1,y2⟩,hy,rfl⟩:=eF hd3;have hjy:ord[j]?=some (y1,y2):=hy;have hmem:(y1,y2)∈ord:=J8 hjy;have htk:ord.take (j+1)=ord.take j++[(y1,y2)]:=by rw[X7,hjy];rfl
    have bu:L.length<=ord.length+1:=by
     have:=fL L (a::ord.map (·.2)) hn hb;simpa using this
    simp only[ck,lu,iE,bG,qU,Option.bind_some];refine⟨_,rfl,?_⟩;walk_at "rd";rw[ae9,qT];refine cS (fun h=>?_) (fun h=>?_)
    ·have hy1:y1∈L:=by simpa using h
     refine⟨by unfold i9;rw[E7];exact J6 (by lia:L.length<1000) (sz3 1000),?_⟩;rw[xF]
     by_cases h2:y2∈L
     ·rw[if_pos h2];refine k3 _ _ ⟨L,_,_,_,rfl,rfl,⟨s2,hs2⟩,hn,hs,hb,fun y hy hy0=>?_⟩;rw[htk]at hy;rcases L9.mp hy with z|z
      ·exact hc y z hy0
      ·obtain rfl:y=(y1,y2):=by simpa using z
       exact h2
     ·rw[if_neg h2];refine k3 _ _ ⟨L++[y2],_,_,_,rfl,rfl,⟨s2++[y2],by rw[hs2,ac0]⟩,?_,fun x hx=>?_,fun x hx=>?_,fun y hy hy0=>?_⟩
      ·rw[List.nodup_append];refine⟨hn,by simp,fun u hu v hv=>?_⟩;obtain rfl:v=y2:=by simpa using hv
       rintro rfl;exact h2 hu
      ·rcases L9.mp hx with z|z
       ·exact hs x z
       ·obtain rfl:x=y2:=by simpa using z
        exact dJ.step (hs y1 hy1) hmem
      ·rcases L9.mp hx with z|z
       ·exact hb x z
       ·obtain rfl:x=y2:=by simpa using z
        exact F7 _ (R3.mpr ⟨_,hmem,rfl⟩)
      ·rw[htk]at hy;rcases L9.mp hy with z|z
       ·exact U4 _ (hc y z hy0)
       ·obtain rfl:y=(y1,y2):=by simpa using z
        simp
    ·have hy1:y1∉L:=by simpa using h
     refine k3 _ _ ⟨L,_,_,_,rfl,rfl,⟨s2,hs2⟩,hn,hs,hb,fun y hy hy0=>?_⟩;rw[htk]at hy;rcases L9.mp hy with z|z
     ·exact hc y z hy0
     ·obtain rfl:y=(y1,y2):=by simpa using z
      exact absurd (by rw[hs2];exact U4 _ hy0) hy1
   ·rintro Δ M' ⟨L,x5,x6,x7,rfl,rfl,⟨s2,hs2⟩,hn,hs,hb,hc⟩;rw[E7,W8]at hc;refine k2 _ _ ⟨L,_,_,_,rfl,rfl,hn,by rw[hs2];exact U4 _ ha0,hs,hb,?_⟩;cases s2 with
    |nil =>
     rw[R7]at hs2;subst hs2;exact .inl hc
    |cons u us =>
     rcases hc0 with h|h
     ·refine .inl fun y hy hy1=>?_;have cl:∀x,dJ ord a x->x∈L0:=fun x hx=>n6 ha0 h hx;exact hc y hy (cl _ (hs _ hy1))
     ·right;rw[hs2];simp;lia
  ·rintro Δ M' ⟨L,x5,x6,x7,rfl,rfl,hn,haL,hs,hb,hc⟩;rw[bq]at hc;have hcl:∀y∈ord,y.1∈L->y.2∈L:=by
    rcases hc with h|h
    ·exact h
    ·intro y hy _;refine sD hn hb (by simpa using h) y.2 (F7 _ (R3.mpr ⟨y,hy,rfl⟩))
   have bu:L.length<=ord.length+1:=by
    have:=fL L (a::ord.map (·.2)) hn hb;simpa using this
   walk_at "rd";rw[gM hr2];have em:List.map (fun p=>kD p.fst) (i9 L)=L.map D.str:=by unfold i9;rw[W1];rfl
   rw[em];refine aQ (fun j Δ M'=>∃(kvs2:List (List Key×D)) (y8:Option D),Δ=[some (D.tup (ord.map ck)),some (D.lst (av.map .str)),some (D.ref p),some (D.str a),some (D.ref r),x5,x6,x7,y8]/\M'=ar M p (.dT kvs2)/\(∀c b:Str,(cM kvs2 [.inr c,.inr b]).isSome=((decide (c∈av.take i)&&rB ord c b) || (decide (c=a)&&decide (b∈L.take j))))/\kvs2.length<=50*i+j)
    ⟨kvs,_,rfl,rfl,fun c b=>by rw[hk c b];simp,by lia⟩ ?_ ?_
   ·rintro j d Δ M' X3 hd3 ⟨kvs2,y8,rfl,rfl,hk2,hkl2⟩ k3;obtain⟨b,hb2,rfl⟩:=eF hd3;have hj:j<L.length:=(F4.mp hb2).1;have htk:L.take (j+1)=L.take j++[b]:=by rw[X7,hb2];rfl
    simp only[bG];walk_at "rd";refine⟨sz3 2,J6 (by lia:kvs2.length<1000) (sz3 1000),?_⟩;refine k3 _ _ ⟨_,_,rfl,rfl,fun c e=>?_,Q0 (og _ _ _) (by lia)⟩;rw[vz,htk]
    by_cases h:c=a/\e=b
    ·obtain⟨rfl,rfl⟩:=h;rw[if_pos rfl];simp
    ·rw[if_neg (by simpa using h),hk2 c e]
     by_cases h1:c=a
     ·have h2:¬ e=b:=fun z=>h ⟨h1,z⟩;simp[h1,h2]
     ·simp[h1]
   ·rintro Δ M' ⟨kvs2,y8,rfl,rfl,hk2,hkl2⟩;rw[E7]at hk2 hkl2;rw[W8]at hk2;refine k' _ _ ⟨kvs2,_,_,_,_,_,_,rfl,rfl,fun c b=>?_,by lia⟩;have htk:av.take (i+1)=av.take i++[a]:=by rw[X7,ha];rfl
    have hL:decide (b∈L)=rB ord a b:=by
     rw[W0,mN,decide_eq_true_eq];exact⟨hs b,fun z=>n6 haL hcl z⟩
    rw[hk2 c b,htk]
    by_cases h1:c=a
    ·subst h1;rw[hL];cases rB ord c b<;>simp
    ·simp[h1]
 ·rintro Δ M' ⟨kvs,x3,x4,x5,x6,x7,x8,rfl,rfl,hk,hkl⟩;rw[E7,W8]at hk;walk_at "rd";exact k p kvs hp fun a b ha=>by rw[hk a b];simp[ha]
def iP:SpD:=fun ds M Q=>∃(ord:List (Str×Str)) (av:List Str) (p:E5) (kvs:List (List Key×D)) (x y:Str×Int),ds=[.ref p,aE x,aE y]/\M p=some (.dT kvs)/\Abv ord av kvs/\x.1∈av/\y.1∈av/\Q (.bl (rel ord x y)) M
theorem mn(F:Fun K "_law_cancels" "_law_cancels" fB f fd) (T:Txt K mg) :aO P w K mg base CX0 1 f fd ["_law_above_here","_law_one","_law_other"] (spD K 3 iP):=by
 have nd:=gL.nd;refine F.okR rfl gL (fun cdv A outer s H E hr=>⟨_,(ak (cz (bb (zK hr.units) (aV aX (af 2) aj (fun _ _=>rfl)) (aK aR (aV aX (af 1) aj (fun _ _=>rfl)) aj) nbh) (aw (bc oR)) bC)
   (ak (cz (bb (gc hr.units) (aK eh (aV aX (af 1) aj (fun _ _=>rfl)) aj) aj nbh) (aw (bc (yX false rfl hr.units1 (ae (aV aX (af 1) aj (fun _ _=>rfl)) (ae (aV aX (af 2) aj (fun _ _=>rfl)) ah)) (af 0) rfl))) bC)
   (aw (bc (yX false rfl hr.units1 (ae (aV aX (af 2) aj (fun _ _=>rfl)) (ae (aV aX (af 1) aj (fun _ _=>rfl)) ah)) (af 0) rfl))))),fun ds M R _ hS bk=>?_⟩)
 obtain⟨ord,av,p,kvs,⟨a,t⟩,⟨b,u⟩,rfl,hM,hA,ha,hb,k⟩:=hS;refine bk ?_;clear bk;simp only[aE];walk_at "rd";refine cS (fun h=>?_) (fun h=>?_)
 ·have hne:¬ t+1=u:=fun z=>by simp[z]at h
  have e:rel ord (a,t) (b,u)=false:=by simp[rel,hne]
  rw[e]at k;exact k
 ·have heq:t+1=u:=by
   have:u=t+1:=by simpa using h
   exact this.symm
  refine cS (fun h'=>⟨sz3 2,kvs,hM,?_⟩) (fun h'=>⟨sz3 2,kvs,hM,?_⟩)
  ·have e:rel ord (a,t) (b,u)=rB ord a b:=by simp[rel,heq,xr (ord:=ord) (a:=a) (b:=b) (show t % 2=0 by simpa using h')]
   rw[ae9,hA a b ha,<-e];exact k
  ·have e:rel ord (a,t) (b,u)=rB ord b a:=by simp[rel,heq,Aa (ord:=ord) (a:=a) (b:=b) (show ¬ t % 2=0 by simpa using h')]
   rw[ae9,hA b a hb,<-e];exact k
def j3:SpD:=fun ds M Q=>∃(p:E5) (l:List D) (av:List Str) (w:Int),ds=[.ref p,.lst (av.map .str),.int w]/\M p=some (.lst l)/\aL l/\av≠[]/\av.length<=9/\0<=w/\w<=100/\∀(m:Str) (t:Int) l',m∈av->aL l'->Q (aE (m,t)) (ar M p (.lst l'))
theorem sX(F:Fun K "_law_sign" "_law_sign" jB f fd) (T:Txt K mg) (G0:FnD P w K mg base "_law_draw" 1 2 bJ):aO P w K mg base CX0 2 f fd ["_law_well_here","_law_marks_here","_law_wide"] (spD K 3 j3):=by
 have nd:=lO.nd;refine F.okR rfl lO (fun cdv A outer s H E hr=>⟨_,(aw (bc (cR (ae (aV aX (af 1) (qd G0 hr (ae (af 0) (ae (aI bV rfl T.b_len (by kernel_rfl) (ae (af 1) ah)) ah))) (fun _ _=>rfl)) (ae (aK zc (qd G0 hr (ae (af 0) (ae (aK aR (aK cc aj (af 2)) aj) ah))) (af 2)) ah))))),fun ds M R _ hS bk=>?_⟩);obtain⟨p,l,av,w,rfl,hM,hP,hm,hml,h0,h1,k⟩:=hS;refine bk ?_;clear bk;walk_at "rd";rw[E7];have hmp:=ac7.mpr hm;refine⟨p,l,_,rfl,hM,hP,by lia,by lia,fun v l1 a0 a1 hP1=>?_⟩;obtain⟨m,hm1,e1⟩:=c9 a0 a1;refine⟨_,e1,p,l1,_,rfl,aq,hP1,by lia,by lia,fun v2 l2 b0 b1 hP2=>?_⟩;rw[aJ];exact⟨_,rfl,sz3 2,k m _ l2 hm1 hP2⟩
def iL:SpD:=fun ds M Q=>∃(ord:List (Str×Str)) (p pa:E5) (l:List D) (kvs:List (List Key×D)) (av:List Str) (x:Str×Int),ds=[.ref p,.ref pa,.lst (av.map .str),aE x]/\M p=some (.lst l)/\M pa=some (.dT kvs)/\aL l/\Abv ord av kvs/\av.length<=9/\x.1∈av /\
 ∀(y:Str×Int) l',y.1∈av->aL l'->Q (aE y) (ar M p (.lst l'))
theorem mO(F:Fun K "_law_partner" "_law_partner" dM f fd) (T:Txt K mg) (Y8:FnD P w K mg base "_law_cancels" 1 3 iP) (G0:FnD P w K mg base "_law_draw" 1 2 bJ):aO P w K mg base CX0 2 f fd ["_law_well_here","_law_above_here","_law_marks_here","_law_sign_here"] (spD K 4 iL):=by
 have nd:=gB.nd;refine F.okR rfl gB (fun cdv A outer s H E hr=>⟨_,(ak (jj (i:=4) nd rfl rfl rfl (ms:=[false,true,false,true,false]) (ao:=["_law_mark"]) (aM rfl (show aT (ai dM) fj _ _=true from by decide +kernel)) rfl (cb (af 2)) (aP (i:=5) (show(fj++_).Nodup from by decide +kernel) rfl rfl) (fun _ _ _ _=>(uV (gr (qd Y8 hr (ae (af 1) (ae (af 3) (ae (cR (ae (af 5) (ae (aK aR (aV aX (af 3) aj (fun _ _=>rfl)) aj) ah))) ah))))))) (fun _ _ _ _=>(af 5)))
   (aw (iG (cR (ae (aV aX (af 4) (qd G0 hr (ae (af 0) (ae (aI bV rfl T.b_len (by kernel_rfl) (ae (af 4) ah)) ah))) (fun _ _=>rfl)) (ae (aK aR (aV aX (af 3) aj (fun _ _=>rfl)) aj) ah)))))),fun ds M R _ hS bk=>?_⟩)
 obtain⟨ord,p,pa,l,kvs,av,⟨a,t⟩,rfl,hM,hMa,hP,hA,hml,hx,k⟩:=hS;refine bk ?_;clear bk;simp only[aE];walk_at "rd";intro hz;refine⟨hz,bM D.str (fun m=>rel ord (a,t) (m,t+1)) D.str (fun Δ=>∃x,Δ=[none,some (D.ref pa),none,some (D.tup [D.str a,D.int t]),none,x]) av _ _ (fun m hm Δ hΔ=>?_) ⟨none,rfl⟩ ?_⟩
 ·obtain⟨x,rfl⟩:=hΔ;refine⟨_,rfl,⟨_,rfl⟩,fun Q1 q=>?_,fun _ Q2 q=>?_⟩
  ·walk_at "rd";exact⟨sz3 2,ord,av,pa,kvs,(a,t),(m,t+1),rfl,hMa,hA,hx,hm,_,rfl,q⟩
  ·walk_at "rd";exact q
 ·rw[O5];have hmem:a∈av.filter (fun m=>rel ord (a,t) (m,t+1)):=ad3.mpr ⟨hx,by simp[rel,yA]⟩;have hsub:∀m∈av.filter (fun m=>rel ord (a,t) (m,t+1)),m∈av:=fun m h=>(ad3.mp h).1;have bu:(av.filter (fun m=>rel ord (a,t) (m,t+1))).length<=av.length:=List.length_filter_le _ _;generalize av.filter (fun m=>rel ord (a,t) (m,t+1))=F at hmem hsub bu;have hpos:=List.length_pos_of_mem hmem;rw[E7];refine⟨p,l,_,rfl,hM,hP,by lia,by lia,fun v l1 a0 a1 hP1=>?_⟩;obtain⟨m,hm1,e1⟩:=c9 a0 a1;exact⟨_,e1,sz3 2,_,LeM.refl,k (m,t+1) l1 (hsub m hm1) hP1⟩
noncomputable def bU:List Nat:=[104,101,115,116,119,111,114,100,97,98,99,102,103,105,106,107,108,109,110,112,113,117,118,120,121,122]
theorem yB:L4 "hestwordabcfgijklmnpquvxyz"=tx bU:=by decide +kernel
theorem qS:∀a<26,∀b<26,a≠b->bU.getD a 0≠bU.getD b 0:=by decide +kernel
theorem oE:∀a<26,bU.getD a 0∈kU:=by decide +kernel
theorem w9{v:Int}(h0:0<=v) (h1:v<26):ixD (.str (L4 "hestwordabcfgijklmnpquvxyz")) (.int v)=some (.str (tx [bU.getD v.toNat 0])):=by
 obtain⟨n,rfl⟩:=K5 h0;have hn:n<26:=by lia
 rw[yB,y9,if_pos (show(tx bU).length<=E4 from by decide +kernel)];have e:(tx bU).cps.toList[n]?=some (bU.getD n 0):=by
  show bU[n]?=_;rw[U9,H0 (by simpa[bU]using hn)];rfl
 rw[bK e];rfl
theorem ow{c:Nat}:∀(n:Nat) (acc:Array Nat),((E6 n #[c]).foldl (·++·) acc).toList=acc.toList++E6 n c
 |0,acc=>by simp
 |n+1,acc=>by
  rw[N5,List.foldl_cons,ow n,N5];simp
theorem uF{c:Nat}{n:Int}(h:0<=n):Txt.mul (tx [c]) n=tx (E6 n.toNat c):=by
 unfold Txt.mul
 by_cases h1:n<1
 ·rw[if_pos h1,show n.toNat=0 by lia];rfl
 ·rw[if_neg h1]
  by_cases h2:n=1
  ·rw[if_pos (by simp[h2]),h2];rfl
  ·rw[if_neg (by
    have:(tx [c]).length=1:=rfl;simp[h2,this])]
   show Str.mk _=Str.mk _;congr 1;apply Array.ext';have:=ow (c:=c) n.toNat #[];rw[O5]at this;exact this
theorem oh{g:Nat->Str}{n f pos:Nat}(hn:n<=26) (h:∀k<n,(g k).cps.toList[pos]?=some (bU.getD ((f+k) % 26) 0)):((W3 n).map g).Nodup:=by
 unfold List.Nodup;rw[List.pairwise_map,List.pairwise_iff_getElem];intro i j hi hj hij;simp only[List.length_range]at hi hj;simp only[List.getElem_range];intro e;have h1:=h i hi;rw[e,h j hj]at h1;exact qS _ (aj2 _ (by decide)) _ (aj2 _ (by decide)) (by lia) (N3 h1)
theorem qi{cs:List Nat}(h1:1<=cs.length) (h2:cs.length<=8) (h3:∀c∈cs,c∈kU):mY (tx cs):=by
 have e:(tx cs).length=cs.length:=rfl;unfold mY cn;rw[e,mJ,decide_eq_true h1,decide_eq_true h2];simpa using h3
def Nq(ws:List Str):Prop:=∀w0,ws[0]?=some w0->w0++tx [113]∉ws
def wA(f k:Nat):Str:=tx (E6 (1+k % 8) (bU.getD ((f+k) % 26) 0))
def wB(f k:Nat):Str:=tx (119::bU.getD ((f+k) % 26) 0::E6 (k % 3) 115)
theorem mH{a b:List Nat}:tx a++tx b=tx (a++b):=by
 show Str.mk _=Str.mk _;congr 1;apply Array.ext';simp[tx]
def zqz:Str:=tx [122,113,122]
theorem AR:L4 "zqz"=zqz:=by decide +kernel
def k7:SpD:=fun ds M R=>∃(p:E5) (l:List D) (n:Nat),ds=[.ref p,.int (n:Int)]/\M p=some (.lst l)/\aL l/\n<=8/\∀(ws:List Str) l',ws.length=n->ws.Nodup->(∀w∈ws,mY w/\w≠zqz)->Nq ws->aL l'->R (.lst (ws.map .str)) (ar M p (.lst l'))
theorem pd(F:Fun K "_law_words" "_law_words" dU f fd) (T:Txt K mg) (G0:FnD P w K mg base "_law_draw" 1 2 bJ):aO P w K mg base CX0 2 f fd ["_law_well_here","_law_size"] (spD K 2 k7):=by
 have nd:=jV.nd;refine F.okR rfl jV (fun cdv A outer s H E hr=>⟨_,(ak (aH (i:=2) nd rfl (am2 rfl) gX)
   (ak (aH (i:=3) nd rfl (am2 rfl) (qd G0 hr (ae (af 0) (ae aj ah))))
   (ak (cz (bb (gc hr.units) (qd G0 hr (ae (af 0) (ae aj ah))) aj nbh) (aw (bc (ic (ms:=[false,false,true,true]) (ao:=["_law_k"]) (aM rfl (show aT (ai dU) eB _ _=true from by decide +kernel)) rfl (bp rfl T.b_range (ae (af 1) ah)) (aP (i:=4) (show(eB++_).Nodup from by decide +kernel) rfl rfl) (fun _ _ _ _=>bI) (fun _ _ _ _=>(aK cc (aV aX (af 2) (aK eh (aK aR (af 3) (af 4)) aj) (fun _ _=>rfl)) (aK aR aj (aK eh (af 4) aj))))))) bC)
   (aw (bc (ic (ms:=[false,false,true,true]) (ao:=["_law_k"]) (aM rfl (show aT (ai dU) eB _ _=true from by decide +kernel)) rfl (bp rfl T.b_range (ae (af 1) ah)) (aP (i:=4) (show(eB++_).Nodup from by decide +kernel) rfl rfl) (fun _ _ _ _=>bI) (fun _ _ _ _=>(aK aR (aK aR gX (aV aX (af 2) (aK eh (aK aR (af 3) (af 4)) aj) (fun _ _=>rfl))) (aK cc gX (aK eh (af 4) aj)))))))))),fun ds M R _ hS bk=>?_⟩)
 obtain⟨p,l,n,rfl,hM,hP,hn,k⟩:=hS;refine bk ?_;clear bk;walk_at "rd";refine⟨p,l,26,rfl,hM,hP,by lia,by lia,fun v l1 a0 a1 hP1=>?_⟩;obtain⟨f,rfl⟩:=K5 a0;refine⟨p,l1,2,rfl,aq,hP1,by lia,by lia,fun v2 l2 b0 b1 hP2=>?_⟩;rw[aJ];have hz:(iX 0 (n:Int).toNat).length<=E4:=by rw[bq];exact sz3 _ (by lia)
 have hc:iO [false,false,true,true] 1 [some (D.ref p),some (D.int (n:Int)),some (D.str (L4 "hestwordabcfgijklmnpquvxyz")),some (D.int (f:Int))]=[none,none,some (D.str (L4 "hestwordabcfgijklmnpquvxyz")),some (D.int (f:Int)),none]:=rfl;have hix:∀i:Nat,ixD (.str (L4 "hestwordabcfgijklmnpquvxyz")) (.int (((f:Int)+(0+(i:Int))) % 26))=some (.str (tx [bU.getD ((f+i) % 26) 0])):=fun i=>by
  rw[w9 (by lia) (by lia)];have:(((f:Int)+(0+(i:Int))) % 26).toNat=(f+i) % 26:=by lia
  rw[this]
 rw[hc];refine⟨_,rfl,_,rfl,cS (fun _=>⟨by lia,by lia,hz,?_⟩) (fun _=>⟨by lia,by lia,hz,?_⟩)⟩
 ·rw[Q7,iX];refine bM (fun(i:Nat)=>D.int (0+(i:Int))) (fun _=>true) (fun i=>D.str (wA f i)) (fun Δ=>∃x,Δ=[none,none,some (D.str (L4 "hestwordabcfgijklmnpquvxyz")),some (D.int (f:Int)),x]) _ _ _ ?_ ⟨_,rfl⟩ ?_
  ·rintro i hi Δ ⟨x,rfl⟩;refine⟨_,rfl,⟨_,rfl⟩,fun Q1 q=>q,fun _ Q2 q=>?_⟩;walk_at "rd";refine⟨_,hix i,.str (wA f i),?_,q⟩;have hm:Txt.mul (tx [bU.getD ((f+i) % 26) 0]) (1+(0+(i:Int)) % 8)=wA f i:=by
    rw[uF (by lia),wA,show(1+(0+(i:Int)) % 8).toNat=1+i % 8 by lia]
   rw[<-hm];have hl1:(tx [bU.getD ((f+i) % 26) 0]).length=1:=rfl;exact if_pos ⟨by rw[hl1];decide,by lia,by lia,by rw[hl1];lia⟩
  ·rw[V5.mpr (fun _ _=>rfl),O5];have e:((W3 n).map fun i=>D.str (wA f i))=((W3 n).map (wA f)).map D.str:=by rw[W1];rfl
   rw[e];refine k _ l2 (by simp) (oh (pos:=0) (f:=f) (by lia) fun k hk=>?_) (fun w hw=>?_) (fun w0 h0 hin=>?_) hP2
   ·show(E6 (1+k % 8) (bU.getD ((f+k) % 26) 0))[0]?=_;rw[Nat.add_comm,N5];rfl
   ·obtain⟨i,_,rfl⟩:=R3.mp hw;refine⟨qi (by simp) (by simp;lia) fun c hc=>?_,fun e=>?_⟩
    rotate_left
    ·have e':E6 (1+i % 8) (bU.getD ((f+i) % 26) 0)=[122,113,122]:=congrArg (fun s:Str=>s.cps.toList) e;have h1:=P3 (show 122∈E6 (1+i % 8) (bU.getD ((f+i) % 26) 0)by rw[e'];simp);have h2:=P3 (show 113∈E6 (1+i % 8) (bU.getD ((f+i) % 26) 0)by rw[e'];simp)
     lia
    rw[P3 hc];exact oE _ (aj2 _ (by decide))
   ·obtain⟨i,hi,e⟩:=R3.mp hin;have hi':=ah8.mp hi;have h0':w0=wA f 0:=by
     rw[L7,List.getElem?_range (by lia)]at h0;exact(N3 h0).symm
    subst h0';have e1:wA f i=tx ([bU.getD ((f+0) % 26) 0]++[113]):=e.trans mH;have e':E6 (1+i % 8) (bU.getD ((f+i) % 26) 0)=[bU.getD ((f+0) % 26) 0,113]:=congrArg (fun s:Str=>s.cps.toList) e1;have m1:=P3 (show bU.getD ((f+0) % 26) 0∈E6 (1+i % 8) (bU.getD ((f+i) % 26) 0)by rw[e'];simp);have l1:=congrArg V3 e';simp at l1;exact qS ((f+0) % 26) (aj2 _ (by decide)) ((f+i) % 26) (aj2 _ (by decide)) (by lia) m1
 ·rw[Q7,iX];refine bM (fun(i:Nat)=>D.int (0+(i:Int))) (fun _=>true) (fun i=>D.str (wB f i)) (fun Δ=>∃x,Δ=[none,none,some (D.str (L4 "hestwordabcfgijklmnpquvxyz")),some (D.int (f:Int)),x]) _ _ _ ?_ ⟨_,rfl⟩ ?_
  ·rintro i hi Δ ⟨x,rfl⟩;refine⟨_,rfl,⟨_,rfl⟩,fun Q1 q=>q,fun _ Q2 q=>?_⟩;walk_at "rd";have hm:Txt.mul (L4 "s") ((0+(i:Int)) % 3)=tx (E6 (i % 3) 115):=by
    rw[show L4 "s"=tx [115]from rfl,uF (by lia),show((0+(i:Int)) % 3).toNat=i % 3 by lia]
   have hl1:(tx [bU.getD ((f+i) % 26) 0]).length=1:=rfl;have hl2:(tx (E6 (i % 3) 115)).length=i % 3:=by show(E6 (i % 3) 115).toArray.size=_;simp
   refine⟨_,hix i,tx [119,bU.getD ((f+i) % 26) 0] |> D.str,?_,.str (tx (E6 (i % 3) 115)),?_,.str (wB f i),?_,q⟩
   ·rw[gU,je,if_pos (by rw[hl1,R6];decide)];rfl
   ·rw[<-hm];exact if_pos ⟨by decide,by lia,by lia,by
     have:(L4 "s").length=1:=rfl;rw[this];lia⟩
   ·rw[gU,gU,je,if_pos (by
     have:(tx [119,bU.getD ((f+i) % 26) 0]).length=2:=rfl;rw[this,hl2,R6];lia),mH]
    rfl
  ·rw[V5.mpr (fun _ _=>rfl),O5];have e:((W3 n).map fun i=>D.str (wB f i))=((W3 n).map (wB f)).map D.str:=by rw[W1];rfl
   rw[e];refine k _ l2 (by simp) (oh (pos:=1) (f:=f) (by lia) fun k hk=>rfl) (fun w hw=>?_) (fun w0 h0 hin=>?_) hP2
   ·obtain⟨i,_,rfl⟩:=R3.mp hw;refine⟨qi (by simp) (by simp;lia) fun c hc=>?_,fun e=>?_⟩
    rotate_left
    ·have e':119::bU.getD ((f+i) % 26) 0::E6 (i % 3) 115=[122,113,122]:=congrArg (fun s:Str=>s.cps.toList) e;injection e' with e1
     exact absurd e1 (by decide)
    rcases E9.mp hc with e|hc
    ·rw[e];decide
    ·rcases E9.mp hc with e|hc
     ·rw[e];exact oE _ (aj2 _ (by decide))
     ·rw[P3 hc];decide
   ·obtain⟨i,hi,e⟩:=R3.mp hin;have hi':=ah8.mp hi;have h0':w0=wB f 0:=by
     rw[L7,List.getElem?_range (by lia)]at h0;exact(N3 h0).symm
    subst h0';have e1:wB f i=tx ([119,bU.getD ((f+0) % 26) 0]++[113]):=e.trans mH;have e':119::bU.getD ((f+i) % 26) 0::E6 (i % 3) 115=[119,bU.getD ((f+0) % 26) 0,113]:=congrArg (fun s:Str=>s.cps.toList) e1;injection e' with _ e2
    injection e2 with _ e3
    have:=P3 (show 113∈E6 (i % 3) 115 by rw[e3];simp)
    lia
def fT:SpD:=fun ds M Q=>∃(ord:List (Str×Str)) (p pa:E5) (l:List D) (kvs:List (List Key×D)) (av:List Str) (ay:Str) (n:Nat),ds=[.ref p,.ref pa,.lst (av.map .str),.str ay,.int (n:Int)]/\M p=some (.lst l)/\M pa=some (.dT kvs)/\aL l/\Abv ord av kvs/\av≠[]/\av.length<=9/\ay∈av/\n<=100 /\
 ∀(row:Row) l' q,row.length=2*n+1->(∀x∈row,x.1∈av)->aL l'->M q=none->Q (.ref q) (ar (ar M p (.lst l')) q (.lst (row.map aE)))
theorem uz{xs:List D}(h:xs≠[]):L2.b7 xs none (some (-1))=xs.take (xs.length-1):=by
 unfold L2.b7;rw[HT.sIx_none,List.drop_zero,Nat.sub_zero];congr 1;have:=ac7.mpr h;unfold HT.sIx;simp
 lia
theorem jr(F:Fun K "_law_whole_row" "_law_whole_row" cJ f fd) (T:Txt K mg) (G0:FnD P w K mg base "_law_draw" 1 2 bJ) (G3:FnD P w K mg base "_law_sign" 2 3 j3) (Y6:FnD P w K mg base "_law_partner" 2 4 iL):aO P w K mg base CX0 3 f fd ["_law_well_here","_law_above_here","_law_marks_here","_law_goal","_law_pairs"] (spD K 5 fT):=by
 have nd:=fo.nd;refine F.okR rfl fo (fun cdv A outer s H E hr=>⟨_,(ak (jj (i:=5) nd rfl rfl rfl (ms:=[false,true,false,true,false,false,false,false,false,false]) (ao:=["_law_mark"]) (aM rfl (show aT (ai cJ) dR _ _=true from by decide +kernel)) rfl (cb (af 2)) (aP (i:=10) (show(dR++_).Nodup from by decide +kernel) rfl rfl) (fun _ _ _ _=>(uV (Ap false rfl hr.units1 (ae (af 10) (ae (af 3) ah)) (af 1) rfl))) (fun _ _ _ _=>(af 10)))
   (aU (ak (aH (i:=6) nd rfl (N4 rfl) (gb (ae (cR (ae (aV aX (af 5) (qd G0 hr (ae (af 0) (ae (aI bV rfl T.b_len (by kernel_rfl) (ae (af 5) ah)) ah))) (fun _ _=>rfl)) (ae aj ah))) (ae (cR (ae (af 3) (ae aj ah))) ah))))
   (aU (ak (dI P6 rfl (bp rfl T.b_range (ae (af 4) ah)) (ba (i:=7) nd rfl (N4 rfl)) (ak (aH (i:=8) nd rfl (N4 rfl) (qd G0 hr (ae (af 0) (ae (aI bV rfl T.b_len (by kernel_rfl) (ae (af 6) ah)) ah))))
   (aU (ak (aH (i:=9) nd rfl (N4 rfl) (qd G3 hr (ae (af 0) (ae (af 2) (ae aj ah)))))
   (aU (aw (aH (i:=6) nd rfl (N4 rfl) (aK aR (aK aR (bX (af 6) cH (bY (af 8))) (gb (ae (af 9) (ae (qd Y6 hr (ae (af 0) (ae (af 1) (ae (af 2) (ae (af 9) ah))))) ah)))) (bX (af 6) (bY (af 8)) cH)))))))))
   (aU (aw (bc (tP (af 6) cH (bY (Br AO aj))))))))))),fun ds M R _ hS bk=>?_⟩)
 obtain⟨ord,p,pa,l,kvs,av,ay,n,rfl,hM,hMa,hP,hA,hm,hml,hg,hn,k⟩:=hS;refine bk ?_;clear bk;have hap:pa≠p:=by rintro rfl;rw[hM]at hMa;cases hMa
 walk_at "rd";intro hz;refine⟨hz,bM D.str (fun m=>rB ord m ay) D.str (fun Δ=>∃x,Δ=[none,some (D.ref pa),none,some (D.str ay),none,none,none,none,none,none,x]) av _ _ (fun m hm' Δ hΔ=>?_) ⟨none,rfl⟩ ?_⟩
 ·obtain⟨x,rfl⟩:=hΔ;refine⟨_,rfl,⟨_,rfl⟩,fun Q1 q=>?_,fun _ Q2 q=>⟨_,rfl,q⟩⟩;walk_at "rd";refine⟨sz3 2,kvs,hMa,?_⟩;rw[hA m ay hm',ae9];exact q
 rw[O5];have hmem:ay∈av.filter (fun m=>rB ord m ay):=ad3.mpr ⟨hg,mN.mpr .refl⟩;have hsub:∀m∈av.filter (fun m=>rB ord m ay),m∈av:=fun m h=>(ad3.mp h).1;have bu:(av.filter (fun m=>rB ord m ay)).length<=av.length:=List.length_filter_le _ _;generalize av.filter (fun m=>rB ord m ay)=F at hmem hsub bu;refine aG ?_;walk_at "rd";have hpos:=List.length_pos_of_mem hmem;rw[E7];refine⟨p,l,_,rfl,hM,hP,by lia,by lia,fun v l1 a0 a1 hP1=>?_⟩;obtain⟨m1,hm1,e1⟩:=c9 a0 a1;refine⟨_,e1,sz3 2,sz3 2,sz3 2,aG ?_⟩;walk_at "rd";refine⟨by lia,by lia,?_⟩;rw[Q7];refine aQ (fun i Δ M'=>∃x7 x8 x9 l row,Δ=[some (D.ref p),some (D.ref pa),some (D.lst (av.map D.str)),some (D.str ay),some (D.int (n:Int)),some (D.lst (F.map D.str)),some (D.lst (row.map aE)),x7,x8,x9]/\M'=ar M p (.lst l)/\aL l/\row.length=2*i+2/\∀x∈row,x.1∈av)
  ⟨_,_,_,l1,[(m1,0),(ay,1)],rfl,rfl,hP1,rfl,fun x hx=>?_⟩ ?_ ?_
 ·rcases E9.mp hx with e|hx
  ·rw[e];exact hsub _ hm1
  ·rw[J0.mp hx];exact hg
 ·intro i d Δ M' X hd hI k';refine shr fun _ bk=>?_;obtain⟨x7,x8,x9,l2,row,rfl,rfl,hP2,hrl,hrm⟩:=hI;refine bk ?_;clear bk;obtain⟨hi,rfl⟩:=bT hd;simp only[bG];walk_at "rd";rw[E7];refine⟨p,l2,_,rfl,aq,hP2,by lia,by lia,fun v2 l3 b0 b1 hP3=>?_⟩;rw[aJ];obtain⟨at_,rfl⟩:=K5 b0;have hat:at_<row.length:=by lia
  refine aG ?_;walk_at "rd";refine⟨p,l3,av,1,rfl,aq,hP3,hm,hml,by lia,by lia,fun m t l4 hmm hP4=>?_⟩;rw[aJ];refine aG ?_;walk_at "rd";refine⟨ord,p,pa,l4,kvs,av,(m,t),rfl,aq,by rw[au hap];exact hMa,hP4,hA,hml,hmm,fun y l5 hy hP5=>?_⟩;rw[aJ];have c1:L2.b7 (row.map aE) none (some (at_:Int))=(row.take at_).map aE:=by rw[ip,ab3]
  have c2:L2.b7 (row.map aE) (some (at_:Int)) none=(row.drop at_).map aE:=by rw[jX,aj1]
  refine⟨sz3 2,.lst ((row.take at_++[(m,t),y]).map aE),?_,.lst ((row.take at_++[(m,t),y]++row.drop at_).map aE),?_,k' _ _ ⟨_,_,_,l5,_,rfl,rfl,hP5,?_,fun x hx=>?_⟩⟩
  ·show iS (.lst (L2.b7 (row.map aE) none (some (at_:Int)))) (.lst [aE (m,t),aE y])=_;rw[c1];refine(if_pos (show V3 _+V3 _<=E4 by rw[E7,K9,R6];simp;lia)).trans ?_;rw[S7];rfl
  ·show iS (.lst ((row.take at_++[(m,t),y]).map aE)) (.lst (L2.b7 (row.map aE) (some (at_:Int)) none))=_;rw[c2];refine(if_pos (show V3 _+V3 _<=E4 by rw[E7,E7,W5,K7,K9,R6];simp;lia)).trans ?_;simp only[S7]
  ·simp only[K7,K9,W5,N6,T7];lia
  ·rcases L9.mp hx with h|h
   ·rcases L9.mp h with h|h
    ·exact hrm x (Q5 h)
    ·rcases E9.mp h with e|h
     ·rw[e];exact hmm
     ·rw[J0.mp h];exact hy
   ·exact hrm x (ae5 h)
 ·intro Δ M' hI;refine shr fun _ bk=>?_;obtain⟨x7,x8,x9,l2,row,rfl,rfl,hP2,hrl,hrm⟩:=hI;refine bk ?_;clear bk;rw[bq]at hrl;refine aG ?_;walk_at "rd";intro q hq;have hne:row.map aE≠[]:=by intro z;have:=congrArg V3 z;simp at this;rw[this]at hrl;simp at hrl
  have hpq:q≠p:=nn hq aq;rw[uz hne,E7,<-ab3];refine k _ l2 q (by rw[K9];lia) (fun x hx=>hrm x (Q5 hx)) hP2 (by rw[au hpq]at hq;exact hq)
theorem vH{S:List Nat}(h5:∀x∈S,x<=5) (hs:S.sum<5*S.length):∃i,∃h:i<S.length,S[i]≠5:=by
 induction S with
 |nil=>simp at hs
 |cons a l ih =>
  by_cases c:a=5
  ·obtain⟨i,h,e⟩:=ih (fun x hx=>h5 x (.tail _ hx)) (by simp at hs;lia);exact⟨i+1,by simp;lia,by simpa using e⟩
  ·exact⟨0,by simp,c⟩
theorem wV{S:List Nat}{i v:Nat}(h:i<S.length):(S.set i v).sum+S[i]=S.sum+v:=by
 induction S generalizing i with
 |nil=>simp at h
 |cons a l ih =>
  cases i with
  |zero=>simp;lia
  |succ i =>
   have:=ih (i:=i) (by simpa using h);simp at this ⊢
   lia
def dh(S:List Nat):List D:=S.map fun(n:Nat)=>D.int (n:Int)
theorem qX{S:List Nat}{i:Nat}(h:i<S.length):atI (dh S) (i:Int)=some (.int (S[i]:Nat)):=bK (by simp[dh,h])
theorem nS{α:Type}{a:α}:∀n:Nat,(E6 n [a]).flatten=E6 n a
 |0=>rfl
 |n+1=>by rw[N5,V4,nS n,N5];rfl
theorem qR{n i:Nat}(h:i<n):ixN n (i:Int)=some i:=by simp[ixN]<;>lia
theorem vg{a m n:Nat}(hm:m≠0):((a+1) % n+(m-1)) % n=(a+m) % n:=by
 rw[Nat.mod_add_mod];congr 1
 lia
def jK:SpD:=fun ds M Q=>∃(p:E5) (l:List D) (row:Row) (n:Nat),ds=[.ref p,.lst (row.map aE),.int (n:Int)]/\M p=some (.lst l)/\aL l/\1<=n/\n<=8/\row.length<=5*n /\
 ∀(ks:List Row) l',ks.length=n->(∀r∈ks,r.length<=5/\∀x∈r,x∈row)->aL l'->Q (.lst (ks.map br)) (ar M p (.lst l'))
theorem nq(F:Fun K "_law_pieces" "_law_pieces" gA f fd) (T:Txt K mg) (G0:FnD P w K mg base "_law_draw" 1 2 bJ):aO P w K mg base CX0 2 f fd ["_law_well_here","_law_row","_law_size"] (spD K 3 jK):=by
 have nd:=iK.nd;refine F.okR rfl iK (fun cdv A outer s H E hr=>⟨_,(ak (aH (i:=3) nd rfl (N4 rfl) (AH (gb (ae aj ah)) (af 2)))
   (ak (dI P6 rfl (cb (af 1)) (ba (i:=4) nd rfl (N4 rfl)) (ak (aH (i:=5) nd rfl (N4 rfl) (qd G0 hr (ae (af 0) (ae (af 2) ah))))
   (ak (xh P6 (bb (gc hr.units) (aV aX (af 3) (af 5) (fun _ _=>rfl)) aj nbh) (aw (aH (i:=5) nd rfl (N4 rfl) (aK eh (aK aR (af 5) aj) (af 2)))))
   (aw (rC (af 3) (af 5) (aK aR (aV aX (af 3) (af 5) (fun _ _=>rfl)) aj))))))
   (ak (aH (i:=6) nd rfl (N4 rfl) (gy ah))
   (rH 3 (ak (dI P6 rfl (cb (af 3)) (ba (i:=7) nd rfl (N4 rfl)) (ak (jk (tQ (af 6) (bA cK rfl T.b_tuple (by kernel_rfl) (ae (bX (af 1) cH (bY (af 7))) ah))))
   (aw (aH (i:=1) nd rfl (N4 rfl) (bX (af 1) (bY (af 7)) cH)))))
   (aw (AJ (af 6)))))))),fun ds M R _ hS bk=>?_⟩)
 obtain⟨p,l,row,n,rfl,hM,hP,hn1,hn6,hrow,k⟩:=hS;refine bk ?_;clear bk;walk_at "rd";refine⟨sz3 1,by lia,by lia,by rw[R6];lia,fun q hq _=>?_⟩;have hpq:p≠q:=(nn hq hM).symm;have h00:(E6 (n:Int).toNat [D.int 0]).flatten=dh (E6 n 0):=by
  rw[Q7];unfold dh;rw[List.map_replicate];exact nS n
 rw[h00];have hcm:∀l3 l4 es,ar (ar (ar M p (.lst l3)) q (.lst es)) p (.lst l4)=ar (ar M p (.lst l4)) q (.lst es):=fun l3 l4 es=>by
  rw[<-bN hpq,aJ]
 refine aQ (fun i Δ M'=>∃x4 x5 l S,Δ=[some (D.ref p),some (D.lst (row.map aE)),some (D.int (n:Int)),some (D.ref q),x4,x5,none,none]/\M'=ar (ar M p (.lst l)) q (.lst (dh S))/\aL l/\S.length=n/\S.sum=i/\∀x∈S,x<=5)
  ⟨_,_,l,E6 n 0,rfl,by rw[ly hM],hP,by simp,by simp,fun x hx=>by rw[P3 hx];lia⟩ ?_ ?_
 ·intro i d Δ M' X hd hI k';refine shr fun _ bk=>?_;obtain⟨x4,x5,l2,S,rfl,rfl,hP2,hSl,hSs,hS5⟩:=hI;refine bk ?_;clear bk;obtain⟨x,hx,rfl⟩:=eF hd;have hi:i<row.length:=(F4.mp hx).1;simp only[bG];walk_at "rd";refine⟨p,l2,_,rfl,by rw[au hpq,aq],hP2,by lia,by lia,fun v l3 a0 a1 hP3=>?_⟩;rw[hcm];obtain⟨a,rfl⟩:=K5 a0;obtain⟨j,hj,hj5⟩:=vH hS5 (by lia);have han:a<n:=by lia
  refine⟨fun m Δ' M''=>∃a:Nat,a<n/\Δ'=[some (D.ref p),some (D.lst (row.map aE)),some (D.int (n:Int)),some (D.ref q),some (aE x),some (D.int (a:Int)),none,none]/\M''=ar (ar M p (.lst l3)) q (.lst (dh S))/\S.getD ((a+m) % n) 5≠5,⟨j+n-a,a,han,rfl,rfl,?_⟩,?_⟩
  ·have e:(a+(j+n-a)) % n=j:=by
    rw[show a+(j+n-a)=j+n by lia,Nat.add_mod_right,Nat.mod_eq_of_lt (by lia)]
   rw[e,U9,H0 hj];exact hj5
  rintro m Δ' M'' ⟨a,han,rfl,rfl,hne⟩;have ha:a<S.length:=by lia
  have hrd:rdM (ar (ar M p (.lst l3)) q (.lst (dh S))) (.ref q)=.lst (dh S):=dF aq;refine⟨_,rfl,_,rfl,.int (S[a]:Nat),by rw[hrd];exact qX ha,_,rfl,_,rfl,cS (fun c=>?_) (fun c=>?_)⟩
  ·have c5:S[a]=5:=by
    have:((S[a]:Nat):Int)=5:=by simpa[rdM,eqD]using c
    lia
   have hm:m≠0:=by
    rintro rfl;rw[Nat.add_zero,Nat.mod_eq_of_lt han,U9,H0 ha]at hne;exact hne c5
   refine⟨_,rfl,_,rfl,_,rfl,.int (((a:Int)+1) % (n:Int)),?_,m-1,by lia,(a+1) % n,aj2 _ (by lia),?_,rfl,?_⟩
   ·show(if 0<(n:Int)then some (D.int (((a:Int)+1) % (n:Int)))else none)=_;rw[if_pos (by lia)]
   ·rw[Int.natCast_emod,Int.natCast_add];rfl
   ·rw[vg hm];exact hne
  ·have c5:S[a]≠5:=fun z=>c (by simp[rdM,eqD,z]);have hle:=hS5 _ (W6 ha);refine⟨_,rfl,_,rfl,.int (S[a]:Nat),by rw[hrd];exact qX ha,.int ((S[a]:Nat)+1),rfl,_,rfl,_,rfl,q,rfl,_,_,rfl,aq,a,?_,?_⟩
   ·have bu:(dh S).length=S.length:=by simp[dh]
    rw[bu];exact qR ha
   ·rw[aJ];refine k' _ _ ⟨_,_,l3,S.set a (S[a]+1),rfl,?_,hP3,by simp[hSl],?_,fun y hy=>?_⟩
    ·unfold dh;rw[List.map_set,Int.natCast_add];rfl
    ·have:=wV (v:=S[a]+1) ha
     lia
    ·rcases List.mem_or_eq_of_mem_set hy with h|h
     ·exact hS5 y h
     ·lia
 ·intro Δ M' hI;refine shr fun _ bk=>?_;obtain⟨x4,x5,l2,S,rfl,rfl,hP2,hSl,hSs,hS5⟩:=hI;refine bk ?_;clear bk;walk_at "rd";refine⟨O4 _,fun r hr2=>?_⟩;have hqr:q≠r:=(nn hr2 aq).symm;have hpr:p≠r:=(nn hr2 (by rw[au hpq,aq])).symm;have hMr:M r=none:=by rw[au (M9 hqr),au (M9 hpr)]at hr2;exact hr2
  have hMq:ar M p (.lst l2) q=none:=by rw[au (M9 hpq)];exact hq
  have hdel:∀es,fR (ar (ar (ar M p (.lst l2)) q (.lst (dh S))) r (.lst es)) q=ar (ar M p (.lst l2)) r (.lst es):=fun es=>by
   rw[bN hqr,gM (by rw[au hqr];exact hMq)]
  refine⟨_,by rw[au hqr,aq],fun _=>?_⟩;rw[hdel];refine aQ (fun i Δ M'=>∃(x7:Option D) (row':Row) (ks:List Row),Δ=[some (D.ref p),some (D.lst (row'.map aE)),some (D.int (n:Int)),some (D.lst (dh S)),x4,x5,some (D.ref r),x7]/\M'=ar (ar M p (.lst l2)) r (.lst (ks.map br))/\ks.length=i/\(∀y∈ks,y.length<=5/\∀x∈y,x∈row)/\∀x∈row',x∈row)
   ⟨_,row,[],rfl,rfl,rfl,fun _ h=>(by cases h),fun _ h=>h⟩ ?_ ?_
  ·intro i d Δ M' X hd hI k';refine shr fun _ bk=>?_;obtain⟨x7,row',ks,rfl,rfl,hkl,hks,hr'⟩:=hI;refine bk ?_;clear bk;obtain⟨m,hm,rfl⟩:=eF hd;have hi:i<S.length:=(F4.mp hm).1;have hm5:=hS5 m (J8 hm);simp only[bG];walk_at "rd";have c1:L2.b7 (row'.map aE) none (some (m:Int))=(row'.take m).map aE:=by rw[ip,ab3]
   have c2:L2.b7 (row'.map aE) (some (m:Int)) none=(row'.drop m).map aE:=by rw[jX,aj1]
   rw[c1,c2];refine⟨by rw[E7,R6];lia,k' _ _ ⟨_,row'.drop m,ks++[row'.take m],rfl,?_,by simp[hkl],fun y hy=>?_,fun x hx=>hr' x (ae5 hx)⟩⟩
   ·rw[S7];rfl
   ·rcases L9.mp hy with h|h
    ·exact hks y h
    ·rw[J0.mp h];exact⟨by rw[K9];lia,fun x hx=>hr' x (Q5 hx)⟩
  ·intro Δ M' hI;refine shr fun _ bk=>?_;obtain⟨x7,row',ks,rfl,rfl,hkl,hks,hr'⟩:=hI;refine bk ?_;clear bk;have hl:(dh S).length=n:=by simp[dh,hSl]
   rw[hl]at hkl;walk_at "rd";rw[gM (by rw[au (M9 hpr)];exact hMr)];exact k ks l2 hkl hks hP2
theorem nK{α:Type} [Inhabited α] {l:List α}{i:Nat}(h:i<l.length):l[i]?=some (l[i]?.getD ap6):=by rw[H0 h];rfl
def CS(e:Str×List Row):Prop:=1<=e.2.length/\e.2.length<=4/\(∀r∈e.2,r.length<=5)/\mY e.1/\e.1≠zqz
structure CD(ag:List (Str×List Row)):Prop where
 nd:(ag.map (·.1)).Nodup
 few:ag.length<=8
 g:∀e∈ag,CS e
 q:Nq (ag.map (·.1))
theorem nR{r:Row}:dLe (br r) 59=true:=by
 show bL (r.map aE) 58=true;rw[g6];intro d hd;obtain⟨x,_,rfl⟩:=R3.mp hd;rfl
theorem jJ{a b:TSd}{E:cP}{Δ:DE}{M:DH}(C:DE->DH->Prop) (h1:∀nx,(∀ Δ' M',C Δ' M'->nx Δ' M')->a { E with nx:=nx } Δ M) (h2:∀ Δ' M',C Δ' M'->b E Δ' M'):yi a b E Δ M:=h1 _ h2
theorem fk:∀as bs:List D,(dB as bs).length=min as.length bs.length
 |[],bs=>by simp[dB]
 |_::_,[]=>by simp[dB]
 |a::as,b::bs=>by simp[dB,fk as bs]
def iM:SpD:=fun ds M Q=>∃(p:E5) (l:List D) (n most:Nat),ds=[.ref p,.int (n:Int),.int (most:Int)]/\M p=some (.lst l)/\aL l/\1<=n/\n<=8 /\
 ∀(ord:List (Str×Str)) (ay:Str) (ag:List (Str×List Row)) (pa:E5) (kvs:List (List Key×D)) (l':List D),ord.length<=8->CD ag->1<=ag.length->aL l'->M pa=none ->
  Q (.tup [dE ord ay ag,.ref pa,.tup ((ag.map (·.1)).map .str)]) (ar (ar M p (.lst l')) pa (.dT kvs))
theorem mL(F:Fun K "_law_lexicon" "_law_lexicon" dH f fd) (T:Txt K mg) (ga4:FnD P w K mg base "_law_marks" 2 1 lX) (ga5:FnD P w K mg base "_law_order" 2 2 lY) (ga6:FnD P w K mg base "_law_above" 1 2 lg) (G0:FnD P w K mg base "_law_draw" 1 2 bJ) (Y3:FnD P w K mg base "_law_whole_row" 3 5 fT) (G3:FnD P w K mg base "_law_sign" 2 3 j3) (ga7:FnD P w K mg base "_law_words" 2 2 k7) (Y9:FnD P w K mg base "_law_pieces" 2 3 jK):aO P w K mg base CX0 4 f fd ["_law_well_here","_law_size","_law_most"] (spD K 3 iM):=by
 have nd:=gS.nd;refine F.okR rfl gS (fun cdv A outer s H E hr=>⟨_,(ak (aH (i:=3) nd rfl (am2 rfl) (qd ga4 hr (ae (af 0) ah)))
   (aU (ak (aH (i:=4) nd rfl (N4 rfl) (qd ga5 hr (ae (af 0) (ae (af 3) ah))))
   (aU (ak (aH (i:=5) nd rfl (N4 rfl) (qd ga6 hr (ae (af 4) (ae (af 3) ah))))
   (aU (ak (aH (i:=6) nd rfl (N4 rfl) (aV aX (af 3) (qd G0 hr (ae (af 0) (ae (aI bV rfl T.b_len (by kernel_rfl) (ae (af 3) ah)) ah))) (fun _ _=>rfl)))
   (aU (ak (aH (i:=7) nd rfl (N4 rfl) (qd Y3 hr (ae (af 0) (ae (af 5) (ae (af 3) (ae (af 6) (ae (aI (y7 rfl) rfl T.b_min (by kernel_rfl) (ae (qd G0 hr (ae (af 0) (ae (aK aR (aK cc aj (af 1)) aj) ah))) (ae (aK p7 (aK zc (aK cc aj (af 1)) aj) aj) ah))) ah)))))))
   (aU (ak (cz (bb (gc hr.units) (qd G0 hr (ae (af 0) (ae aj ah))) aj nbh) (aw (rC (af 7) (qd G0 hr (ae (af 0) (ae (aI bV rfl T.b_len (by kernel_rfl) (ae (af 7) ah)) ah))) (qd G3 hr (ae (af 0) (ae (af 3) (ae aj ah)))))) bC)
   (aU (ak (aH (i:=8) nd rfl (N4 rfl) (qd ga7 hr (ae (af 0) (ae (af 1) ah))))
   (aU (ak (aH (i:=9) nd rfl (N4 rfl) aj)
   (aU (ak (aH (i:=10) nd rfl (N4 rfl) (gy ah))
   (aU (rH 7 (ak (dI P6 rfl (vM rfl T.b_zip (ae (af 8) (ae (qd Y9 hr (ae (af 0) (ae (af 7) (ae (af 1) ah)))) ah))) (oU rfl (di (ba (i:=11) nd rfl (N4 rfl)) (di (ba (i:=12) nd rfl (N4 rfl)) nt))) (ak (aH (i:=13) nd rfl (N4 rfl) (gy (ae (af 12) ah)))
   (aU (ak (dI P6 rfl (bp rfl T.b_range (ae (qd G0 hr (ae (af 0) (ae aj ah))) ah)) (ba (i:=14) nd rfl (N4 rfl)) (ak (aH (i:=15) nd rfl (N4 rfl) (bA cK rfl T.b_tuple (by kernel_rfl) (ae (ic (ms:=[true,false,false,true,false,false,false,false,false,false,false,false,false,false,false,false]) (ao:=["_law_k"]) (aM rfl (show aT (ai dH) fv _ _=true from by decide +kernel)) rfl (bp rfl T.b_range (ae (qd G0 hr (ae (af 0) (ae aj ah))) ah)) (aP (i:=16) (show(fv++_).Nodup from by decide +kernel) rfl rfl) (fun _ _ _ _=>bI) (fun _ _ _ _=>(qd G3 hr (ae (af 0) (ae (af 3) (ae aj ah)))))) ah)))
   (aU (ak (cz (bb (gc hr.units) (qd G0 hr (ae (af 0) (ae aj ah))) aj nbh) (aw (aH (i:=15) nd rfl (N4 rfl) (bX (uG (af 12) (Br AO aj)) cH (bY aj)))) bC)
   (aU (aw (cz (wy (An (bb (wc hr.units) (af 15) (af 13) rfl) (yq (bb zO (aK cc (af 9) (aK aR (aI bV rfl T.b_len (by kernel_rfl) (ae (af 13) ah)) aj)) (af 2) nbh)))) (aw (jk (BP (af 13) (qd G0 hr (ae (af 0) (ae (aK aR (aI bV rfl T.b_len (by kernel_rfl) (ae (af 13) ah)) aj) ah))) (af 15)))) bC)))))))
   (aU (ak (aH (i:=9) nd rfl (N4 rfl) (aK cc (af 9) (aI bV rfl T.b_len (by kernel_rfl) (ae (af 13) ah))))
   (aw (jk (tQ (af 10) (cR (ae (af 11) (ae (bA cK rfl T.b_tuple (by kernel_rfl) (ae (af 13) ah)) ah))))))))))))
   (aw (iG (cR (ae (cR (ae (af 4) (ae (af 6) (ae (bA cK rfl T.b_tuple (by kernel_rfl) (ae (af 10) ah)) ah)))) (ae (af 5) (ae (bA cK rfl T.b_tuple (by kernel_rfl) (ae (af 8) ah)) ah)))))))))))))))))))))))))),fun ds M R _ hS bk=>?_⟩)
 obtain⟨p,l,n,most,rfl,hM,hP,hn1,hn6,k⟩:=hS;refine bk ?_;clear bk;walk_at "rd";refine⟨p,l,rfl,hM,hP,fun av l1 hm hml hP1=>aG ?_⟩;walk_at "rd";refine⟨p,l1,av,rfl,aq,hP1,hm,by lia,fun ord l2 ho homk hP2=>aG ?_⟩;rw[aJ];walk_at "rd";refine⟨ord,av,rfl,by lia,by lia,fun pa kvs hpa hA=>aG ?_⟩;have hap:pa≠p:=nn hpa aq;have hMpa:M pa=none:=by rw[au hap]at hpa;exact hpa
 have hmp:=ac7.mpr hm;have hcm:∀l3 l4,ar (ar (ar M p (.lst l3)) pa (.dT kvs)) p (.lst l4)=ar (ar M p (.lst l4)) pa (.dT kvs):=fun l3 l4=>by
  rw[<-bN (M9 hap),aJ]
 have hpp:∀l3,ar (ar M p (.lst l3)) pa (.dT kvs) p=some (.lst l3):=fun l3=>by rw[au (M9 hap),aq]
 walk_at "rd";rw[E7];refine⟨p,l2,_,rfl,hpp _,hP2,by lia,by lia,fun v l3 a0 a1 hP3=>?_⟩;rw[hcm];obtain⟨ay,hg,eg⟩:=c9 a0 a1;refine⟨_,eg,aG ?_⟩;walk_at "rd";refine⟨p,l3,_,rfl,hpp _,hP3,by lia,by lia,fun v2 l4 b0 b1 hP4=>?_⟩;rw[hcm];obtain⟨m,hm2,em⟩:∃m:Nat,2*m+1<=5*n/\tm [.int v2,.int ((5*(n:Int)-1) / 2)]=some (.int (m:Int)):=by
  by_cases c:(5*(n:Int)-1) / 2<v2
  ·exact⟨((5*(n:Int)-1) / 2).toNat,by lia,by simp[tm,c];lia⟩
  ·exact⟨v2.toNat,by lia,by simp[tm,c];lia⟩
 refine⟨_,em,ord,p,pa,l4,kvs,av,ay,m,rfl,hpp _,aq,hP4,hA,hm,by lia,hg,by lia,fun row l5 q hrl hrm hP5 hq=>aG ?_⟩;have hqa:q≠pa:=nn hq aq;have hqp:q≠p:=nn hq (hpp _);have hMq:M q=none:=by rw[au hqa,au hqp]at hq;exact hq
 rw[hcm];have hcm2:∀l3 l4 u,ar (ar (ar (ar M p (.lst l3)) pa (.dT kvs)) q u) p (.lst l4)=ar (ar (ar M p (.lst l4)) pa (.dT kvs)) q u:=fun l3 l4 u=>by
  rw[bN hqp,hcm]
 have hpp2:∀l3 u,ar (ar (ar M p (.lst l3)) pa (.dT kvs)) q u p=some (.lst l3):=fun l3 u=>by rw[au (M9 hqp),hpp]
 refine jJ (fun Δ' M'=>∃(row:Row) (l':List D),Δ'=[some (D.ref p),some (D.int (n:Int)),some (D.int (most:Int)),some (D.lst (av.map D.str)),some (D.tup (ord.map ck)),some (D.ref pa),some (D.str ay),some (D.ref q),none,none,none,none,none,none,none,none]/\M'=ar (ar (ar M p (.lst l')) pa (.dT kvs)) q (.lst (row.map aE))/\row.length<=5*n/\(∀x∈row,x.1∈av)/\aL l') (fun nx knx=>?_) ?_
 ·walk_at "rd";refine⟨p,l5,3,rfl,hpp2 _ _,hP5,by lia,by lia,fun v3 l6 c0 c1 hP6=>?_⟩;rw[hcm2];refine⟨_,rfl,_,rfl,cS (fun _=>?_) (fun _=>knx _ _ ⟨row,l6,rfl,rfl,by lia,hrm,hP6⟩)⟩;refine⟨p,l6,av,1,rfl,hpp2 _ _,hP6,hm,by lia,by lia,by lia,fun sm st l7 hsm hP7=>?_⟩;rw[hcm2];refine⟨.int (row.length:Int),by rw[dF aq];simp[iU],p,l7,_,rfl,hpp2 _ _,hP7,by lia,by lia,fun v4 l8 d0 d1 hP8=>?_⟩;rw[hcm2];obtain⟨j,rfl⟩:=K5 d0;refine⟨_,_,rfl,aq,j,by rw[E7];exact qR (by lia),?_⟩;rw[aJ];refine knx _ _ ⟨row.set j (sm,st),l8,rfl,by rw[List.map_set],by rw[List.length_set];lia,fun x hx=>?_,hP8⟩;rcases List.mem_or_eq_of_mem_set hx with h|h
  ·exact hrm x h
  ·rw[h];exact hsm
 intro Δ' M' hI;refine shr fun _ bk=>?_;obtain⟨row,l6,rfl,rfl,hrl6,hrm6,hP6⟩:=hI;refine bk ?_;clear bk;refine aG ?_;walk_at "rd";refine⟨p,l6,n,rfl,hpp2 _ _,hP6,hn6,fun names l7 hnl hnn hnw hnq hP7=>aG ?_⟩;rw[hcm2];walk_at "rd";refine aG ?_;walk_at "rd";refine⟨O4 _,fun r hr2=>aG ?_⟩;have hrq:r≠q:=nn hr2 aq;have hra:r≠pa:=nn hr2 (by rw[au hqa.symm,aq]);have hrp:r≠p:=nn hr2 (hpp2 _ _);have hMr:M r=none:=by rw[au hrq,au hra,au hrp]at hr2;exact hr2
 have hdel:∀es,fR (ar (ar (ar (ar M p (.lst l7)) pa (.dT kvs)) q (.lst (row.map aE))) r (.lst es)) q=ar (ar (ar M p (.lst l7)) pa (.dT kvs)) r (.lst es):=fun es=>by
  rw[bN (M9 hrq),gM (by rw[au (M9 hrq),au hqa,au hqp];exact hMq)]
 have hcm3:∀l3 l4 u,ar (ar (ar (ar M p (.lst l3)) pa (.dT kvs)) r u) p (.lst l4)=ar (ar (ar M p (.lst l4)) pa (.dT kvs)) r u:=fun l3 l4 u=>by
  rw[bN hrp,hcm]
 have hpp3:∀l3 u,ar (ar (ar M p (.lst l3)) pa (.dT kvs)) r u p=some (.lst l3):=fun l3 u=>by rw[au (M9 hrp),hpp]
 walk_at "rd";refine⟨_,by rw[au (M9 hrq),aq],?_⟩;rw[hdel];refine⟨p,l7,row,n,rfl,hpp3 _ _,hP7,hn1,hn6,hrl6,fun ks l8 hkl hks hP8=>?_⟩;rw[hcm3];refine⟨_,_,⟨rfl,rfl⟩,_,_,_,rfl,_,rfl,?_⟩;have hzl:(dB (names.map D.str) (ks.map br)).length=n:=by rw[fk,E7,E7];lia
 refine aQ (fun i Δ M'=>∃(x11 x12 x13 x14 x15:Option D) (ch:Int) (l:List D) (ag:List (Str×List Row)),Δ=[some (D.ref p),some (D.int (n:Int)),some (D.int (most:Int)),some (D.lst (av.map D.str)),some (D.tup (ord.map ck)),some (D.ref pa),some (D.str ay),some (D.lst (row.map aE)),some (D.lst (names.map D.str)),some (D.int ch),some (D.ref r),x11,x12,x13,x14,x15]/\M' p=some (.lst l)/\M' pa=some (.dT kvs)/\M' r=some (.lst (ag.map gp))/\(∀a u,a≠p->M a=some u->M' a=some u)/\aL l/\ag.map (·.1)=names.take i/\∀e∈ag,CS e)
  ⟨_,_,_,_,_,1,l8,[],rfl,hpp3 _ _,by rw[au (M9 hra),aq],by rw[aq];rfl,fun a u ha e=>?_,hP8,rfl,fun _ h=>(by cases h)⟩ ?_ ?_
 ·have h1:a≠pa:=(nn hMpa e).symm;have h2:a≠r:=(nn hMr e).symm;rw[au h2,au h1,au ha];exact e
 ·intro i d Δ M' X hd hI k';refine shr fun _ bk=>?_;obtain⟨x11,x12,x13,x14,x15,ch,l9,ag,rfl,m1,m2,m3,m4,hP9,hen,heg⟩:=hI;refine bk ?_;clear bk;have hi:i<n:=by have:=(F4.mp hd).1;lia
  have hwi:=nK (show i<names.length by lia);have hki:=nK (show i<ks.length by lia);generalize names[i]?.getD ap6=wd at hwi;generalize ks[i]?.getD ap6=k0 at hki;have hdd:d=.tup [.str wd,br k0]:=by
   have:(dB (names.map D.str) (ks.map br))[i]?=some (.tup [.str wd,br k0]):=by
    rw[jW,L7,L7,hwi,hki];rfl
   rw[this]at hd;exact(N3 hd).symm
  subst hdd;have hk0:=hks k0 (J8 hki);have hk0m:∀x∈k0,x.1∈av:=fun x hx=>hrm6 x (hk0.2 x hx);refine⟨_,rfl,?_⟩;walk_at "rd";refine⟨sz3 1,fun s hs=>aG ?_⟩;have hsp:s≠p:=nn hs m1;have hsa:s≠pa:=nn hs m2;have hsr:s≠r:=nn hs m3;refine jJ (fun Δ' M2=>∃(x14 x15:Option D) (l:List D) (kl:List Row),Δ'=[some (D.ref p),some (D.int (n:Int)),some (D.int (most:Int)),some (D.lst (av.map D.str)),some (D.tup (ord.map ck)),some (D.ref pa),some (D.str ay),some (D.lst (row.map aE)),some (D.lst (names.map D.str)),some (D.int ch),some (D.ref r),some (D.str wd),some (br k0),some (D.ref s),x14,x15]/\M2 p=some (.lst l)/\M2 pa=some (.dT kvs)/\M2 r=some (.lst (ag.map gp))/\M2 s=some (.lst (kl.map br))/\(∀a u,a≠p->M a=some u->M2 a=some u)/\aL l/\(1<=kl.length/\kl.length<=4)/\∀y∈kl,y.length<=5/\∀x∈y,x.1∈av) (fun nx knx=>?_) ?_
  ·walk_at "rd";refine⟨p,l9,4,rfl,by rw[au (M9 hsp)];exact m1,hP9,by lia,by lia,fun v5 la e0 e1 hPa=>?_⟩;obtain⟨tn,rfl⟩:=K5 e0;refine⟨_,rfl,by lia,by lia,?_⟩;rw[Q7];refine aQ (fun t Δ' M2=>∃(x14 x15:Option D) (l:List D) (kl:List Row),Δ'=[some (D.ref p),some (D.int (n:Int)),some (D.int (most:Int)),some (D.lst (av.map D.str)),some (D.tup (ord.map ck)),some (D.ref pa),some (D.str ay),some (D.lst (row.map aE)),some (D.lst (names.map D.str)),some (D.int ch),some (D.ref r),some (D.str wd),some (br k0),some (D.ref s),x14,x15]/\M2 p=some (.lst l)/\M2 pa=some (.dT kvs)/\M2 r=some (.lst (ag.map gp))/\M2 s=some (.lst (kl.map br))/\(∀a u,a≠p->M a=some u->M2 a=some u)/\aL l/\(1<=kl.length/\kl.length<=1+t)/\∀y∈kl,y.length<=5/\∀x∈y,x.1∈av)
    ⟨_,_,la,[k0],rfl,aq,by rw[au hap,au (M9 hsa)];exact m2,by rw[au hrp,au (M9 hsr)];exact m3,by rw[au hsp,aq];rfl,fun a u ha e=>?_,hPa,⟨F5 _,F5 _⟩,fun y hy=>by rw[J0.mp hy];exact⟨hk0.1,hk0m⟩⟩ ?_ ?_
   ·have h4:=m4 a u ha e;have h2:a≠s:=(nn hs h4).symm;rw[au ha,au h2];exact h4
   ·intro t d Δ' M2 X2 hd2 hI k2;refine shr fun _ bk=>?_;obtain⟨y14,y15,lb,kl,rfl,b1,b2,b3,b4,b5,hPb,hkl2,hkg⟩:=hI;refine bk ?_;clear bk;obtain⟨ht,rfl⟩:=bT hd2;have up:∀lc,ar M2 p (.lst lc) p=some (.lst lc)/\ar M2 p (.lst lc) pa=some (.dT kvs)/\ar M2 p (.lst lc) r=some (.lst (ag.map gp))/\ar M2 p (.lst lc) s=some (.lst (kl.map br))/\∀a u,a≠p->M a=some u->ar M2 p (.lst lc) a=some u:=fun lc=>⟨aq,by rw[au hap];exact b2,by rw[au hrp];exact b3,by rw[au hsp];exact b4,fun a u ha e=>by rw[au ha];exact b5 a u ha e⟩;simp only[bG];walk_at "rd";refine⟨p,lb,4,rfl,b1,hPb,by lia,by lia,fun v6 lc f0 f1 hPc=>?_⟩;obtain⟨sn,rfl⟩:=K5 f0;refine⟨_,rfl,by lia,by lia,by rw[bq];exact sz3 _ (by lia),?_⟩;rw[Q7];refine eD (fun u acc Δ' M3=>∃(x:Option D) (ms:Row) (l:List D),Δ'=[some (D.ref p),none,none,some (D.lst (av.map D.str)),none,none,none,none,none,none,none,none,none,none,none,none,x]/\M3=ar M2 p (.lst l)/\acc=ms.map aE/\ms.length=u/\(∀x∈ms,x.1∈av)/\aL l) ⟨_,[],lc,rfl,rfl,rfl,rfl,fun _ h=>(by cases h),hPc⟩ ?_ ?_
    ·intro u d acc Δ' M3 X3 hd3 hI k3;refine shr fun _ bk=>?_;obtain⟨x,ms,ld,rfl,rfl,rfl,hul,hms,hPd⟩:=hI;refine bk ?_;clear bk;refine⟨_,rfl,?_⟩;simp only[kz,if_true];walk_at "rd";refine⟨p,ld,av,1,rfl,aq,hPd,hm,by lia,by lia,by lia,fun sm st le hsm hPe=>?_⟩;rw[aJ];exact k3 _ _ _ ⟨_,ms++[(sm,st)],le,rfl,rfl,by simp,by simp[hul],fun y hy=>by
      rcases L9.mp hy with h|h
      ·exact hms y h
      ·rw[J0.mp h];exact hsm,hPe⟩
    intro acc Δ' M3 hI;refine shr fun _ bk=>?_;obtain⟨x,ms,ld,rfl,rfl,rfl,hul,hms,hPd⟩:=hI;refine bk ?_;clear bk;rw[bq]at hul;refine aG ?_;refine jJ (fun Δ' M3=>∃(mo:Row) (l:List D),Δ'=[some (D.ref p),some (D.int (n:Int)),some (D.int (most:Int)),some (D.lst (av.map D.str)),some (D.tup (ord.map ck)),some (D.ref pa),some (D.str ay),some (D.lst (row.map aE)),some (D.lst (names.map D.str)),some (D.int ch),some (D.ref r),some (D.str wd),some (br k0),some (D.ref s),some (D.int (0+(t:Int))),some (br mo)]/\M3=ar M2 p (.lst l)/\aL l/\mo.length<=5/\∀x∈mo,x.1∈av) (fun nx2 knx2=>?_) ?_
    ·walk_at "rd";refine⟨p,ld,2,rfl,aq,hPd,by lia,by lia,fun v7 le g0 g1 hPe=>?_⟩;rw[aJ];refine⟨_,rfl,_,rfl,cS (fun _=>?_) (fun _=>knx2 _ _ ⟨ms,le,rfl,rfl,hPe,by lia,hms⟩)⟩;refine⟨_,rfl,?_⟩;have c1:L2.b7 (k0.map aE).reverse none (some 2)=(k0.reverse.take 2).map aE:=by
      rw[<-List.map_reverse,show(some (2:Int))=some ((2:Nat):Int)from rfl,ip,ab3]
     rw[c1];exact knx2 _ _ ⟨k0.reverse.take 2,le,rfl,rfl,hPe,by rw[K9];lia,fun x hx=>hk0m x (List.mem_reverse.mp (Q5 hx))⟩
    intro Δ' M3 hI;refine shr fun _ bk=>?_;obtain⟨mo,le,rfl,rfl,hPe,hmo,hmm⟩:=hI;refine bk ?_;clear bk;obtain⟨c1,c2,c3,c4,c5⟩:=up le;refine aG ?_;walk_at "rd";have hstay:X2 [some (D.ref p),some (D.int (n:Int)),some (D.int (most:Int)),some (D.lst (av.map D.str)),some (D.tup (ord.map ck)),some (D.ref pa),some (D.str ay),some (D.lst (row.map aE)),some (D.lst (names.map D.str)),some (D.int ch),some (D.ref r),some (D.str wd),some (br k0),some (D.ref s),some (D.int (0+(t:Int))),some (br mo)] (ar M2 p (.lst le)):=k2 _ _ ⟨_,_,le,kl,rfl,c1,c2,c3,c4,c5,hPe,by lia,hkg⟩;have hrd:=dF c4;have hcml:fA ch ((kl.length:Int)+1):=by
     have:fA ch ((kl.length:Int)+1)=True:=vA (by lia);rw[this];trivial
    rw[hrd];refine⟨_,(vt).trans (if_pos ⟨nR,nL br fun _=>nR⟩),_,rfl,cS (fun _=>?_) (fun _=>hstay)⟩;refine⟨.int (kl.length:Int),by simp[iU],.int ((kl.length:Int)+1),rfl,.int (ch*((kl.length:Int)+1)),by rw[mU,ml,if_pos hcml],_,rfl,_,rfl,cS (fun _=>?_) (fun _=>hstay)⟩;refine⟨_,c4,.int (kl.length:Int),by simp[iU],.int ((kl.length:Int)+1),rfl,p,le,_,rfl,c1,hPe,by lia,by lia,fun v8 lf h0 h1 hPf=>?_⟩;rw[aJ];obtain⟨j,rfl⟩:=K5 h0;obtain⟨d1,d2,d3,d4,d5⟩:=up lf;refine⟨_,j,rfl,d4,by rw[E7];lia,by rw[E7,R6];lia,k2 _ _ ⟨_,_,lf,kl.take j++mo::kl.drop j,rfl,by rw[au (M9 hsp)];exact d1,by rw[au (M9 hsa)];exact d2,by rw[au (M9 hsr)];exact d3,?_,fun a u ha e=>?_,hPf,?_,fun y hy=>?_⟩⟩
    ·rw[aq];simp[ab3,aj1]
    ·have h5:=d5 a u ha e;have h2:a≠s:=fun z=>by
      have:=m4 a u ha e;rw[z,hs]at this;cases this
     rw[au h2];exact h5
    ·simp only[K7,K9,N6,W5];lia
    ·rcases L9.mp hy with h|h
     ·exact hkg y (Q5 h)
     ·rcases E9.mp h with e|h
      ·rw[e];exact⟨hmo,hmm⟩
      ·exact hkg y (ae5 h)
   ·intro Δ' M2 hI;refine shr fun _ bk=>?_;obtain⟨y14,y15,lb,kl,rfl,b1,b2,b3,b4,b5,hPb,hkl2,hkg⟩:=hI;refine bk ?_;clear bk;rw[bq]at hkl2;exact knx _ _ ⟨_,_,lb,kl,rfl,b1,b2,b3,b4,b5,hPb,by lia,hkg⟩
  intro Δ' M2 hI;refine shr fun _ bk=>?_;obtain⟨y14,y15,lb,kl,rfl,b1,b2,b3,b4,b5,hPb,hkl2,hkg⟩:=hI;refine bk ?_;clear bk;refine aG ?_;walk_at "rd";have hcml:fA ch (kl.length:Int):=by
   have:fA ch (kl.length:Int)=True:=vA (by lia);rw[this];trivial
  refine⟨.int (kl.length:Int),by rw[dF b4];simp[iU],.int (ch*(kl.length:Int)),by show ni _ _=_;rw[mU,ml,if_pos hcml],_,b3,cm kl,by rw[dF b4];rfl,sz3 2,_,b3,by
   have:=congrArg V3 hen;rw[E7,K9]at this;rw[E7,R6];lia,k' _ _ ⟨_,_,_,_,_,_,lb,ag++[(wd,kl)],rfl,by rw[au (M9 hrp)];exact b1,by rw[au (M9 hra)];exact b2,by rw[aq,S7];rfl,fun a u ha e=>?_,hPb,?_,fun e he=>?_⟩⟩
  ·have h2:a≠r:=(nn hMr e).symm;rw[au h2];exact b5 a u ha e
  ·rw[S7,hen,X7,hwi];rfl
  ·rcases L9.mp he with h|h
   ·exact heg e h
   ·rw[J0.mp h];exact⟨hkl2.1,hkl2.2,fun r hr=>(hkg r hr).1,hnw wd (J8 hwi)⟩
 ·intro Δ M' hI;refine shr fun _ bk=>?_;obtain⟨x11,x12,x13,x14,x15,ch,l9,ag,rfl,m1,m2,m3,m4,hP9,hen,heg⟩:=hI;refine bk ?_;clear bk;rw[hzl,<-hnl,W8]at hen;walk_at "rd";refine⟨.tup (ag.map gp),by rw[dF m3];rfl,sz3 3,sz3 3,ar (ar M p (.lst l9)) pa (.dT kvs),fun a u e=>?_,?_⟩
  ·by_cases h1:a=pa
   ·rw[h1,aq]at e;rw[h1,m2];exact e
   ·rw[au h1]at e
    by_cases h2:a=p
    ·rw[h2,aq]at e;rw[h2,m1];exact e
    ·rw[au h2]at e;exact m4 a u h2 e
  ·have hel:ag.length=n:=by have:=congrArg V3 hen;rw[E7]at this;lia
   have:=k ord ay ag pa kvs l9 (by lia) ⟨by rw[hen];exact hnn,by lia,heg,by rw[hen];exact hnq⟩ (by lia) hP9 hMpa;rw[hen]at this;exact this
def oz(C0:E5):SpD:=fun ds M R=>∃(a dd:E5),ds=[.ref a,.int 2]/\M a=some (exY [C0] 0 (some dd) a)/\R (.bl true) M
theorem sv(F:Fun K "_law_only" "_law_only" gY f fd) (T:Txt K mg) {C0 W fI0:E5} (Y:i3 K mg C0 W fI0) :aO P w K mg base CX0 1 f fd ["_law_e","_law_at"] (spD K 2 (oz C0)):=by
 have nd:=lL.nd;refine F.okR rfl lL (fun cdv A outer s H E hr=>⟨_,(ak (aH (i:=2) nd rfl (N4 rfl) (gb (ae (dO Y.z rfl T.b_isinstance rfl Y.k_NoText (af 0)) (ae (dO Y.z rfl T.b_isinstance rfl Y.k_NoStep (af 0)) (ae (dO Y.z rfl T.b_isinstance rfl Y.k_NoWord (af 0)) (ae (dO Y.z rfl T.b_isinstance rfl Y.k_NoNumber (af 0)) ah))))))
   (aU (ak (aH (i:=2) nd rfl (N4 rfl) (aK aR (af 2) (gb (ae (dO Y.z rfl T.b_isinstance rfl Y.k_NoDrawing (af 0)) (ae (dO Y.z rfl T.b_isinstance rfl Y.k_NoWorld (af 0)) (ae (dO Y.z rfl T.b_isinstance rfl Y.k_NoLexicon (af 0)) ah))))))
   (aU (ak (aH (i:=2) nd rfl (N4 rfl) (aK aR (af 2) (gb (ae (dO Y.z rfl T.b_isinstance rfl Y.k_NoRow (af 0)) (ae (dO Y.z rfl T.b_isinstance rfl Y.k_NoKept (af 0)) ah)))))
   (aU (ak (cz (wy (qK (iJ (gr (dO Y.z rfl T.b_isinstance rfl Y.k_WishError (af 0)))) (mj (iJ (gr (Bf Y.z rfl T.b_isinstance rfl T.b_ValueError rfl Y.k_ValueError (af 0))))))) (aw (bc oR)) bC)
   (aw (bc (qP (gc hr.units) (af 2) (ic (ms:=[false,true,false]) (ao:=["_law_k"]) (aM rfl (show aT (ai gY) kf _ _=true from by decide +kernel)) rfl (bp rfl T.b_range (ae aj ah)) (aP (i:=3) (show(kf++_).Nodup from by decide +kernel) rfl rfl) (fun _ _ _ _=>bI) (fun _ _ _ _=>(qP (gc hr.units) (af 3) (af 1) nbh))) nbh)))))))))),fun ds M R _ hS bk=>?_⟩)
 obtain⟨a,dd,rfl,hM,k⟩:=hS;refine bk ?_;clear bk;walk_at "rd";refine⟨_,_,hM,_,_,hM,_,_,hM,_,_,hM,sz3 4,aG ?_⟩;walk_at "rd";refine⟨_,_,hM,_,_,hM,_,_,hM,sz3 3,_,if_pos (sz3 7),aG ?_⟩;walk_at "rd";refine⟨_,_,hM,_,_,hM,sz3 2,_,if_pos (sz3 9),aG ?_⟩;walk_at "rd";refine⟨_,_,hM,?_⟩;rw[if_neg (by decide)];refine⟨_,_,hM,?_⟩;rw[if_neg (by decide)];refine⟨sz3 9,?_⟩;refine eD (fun i acc Δ M'=>∃x,Δ=[none,some (D.int 2),none,x]/\M'=M/\acc=(W3 i).map fun(k:Nat)=>D.bl ((k:Int)==2)) ⟨none,rfl,rfl,rfl⟩ ?_ ?_
 ·rintro i d acc Δ M' X hd ⟨x,rfl,rfl,rfl⟩ k';obtain⟨hi,rfl⟩:=bT hd;refine⟨_,rfl,?_⟩;rw[Int.zero_add];simp only[kz];walk_at "rd";refine k' _ _ _ ⟨_,rfl,rfl,?_⟩;rw[List.range_succ,S7];rfl
 ·rintro acc Δ M' ⟨x,rfl,rfl,rfl⟩;exact⟨_,rfl,k⟩
def lw(C0:E5):SpD:=fun ds M R=>∃(ord:List (Str×Str)) (ay:Str) (ag:List (Str×List Row)) (ws:List Str) (w:Str) (i:Nat),ds=[dE ord ay ag,.tup (ws.map .str),.int (i:Int)]/\LxP ord ay ag/\(∀v∈ws,cx (.str v)=true)/\ws.length<=50/\sU ag ws w /\
 ∀dd a,M dd=none->M a=none->dd≠a->R (.ref a) (ar (ar M dd (iV "word" dd (.str w))) a (exY [C0] 0 (some dd) a))
theorem pF(F:Fun K "_law_asked" "_law_asked" ix f fd) (T:Txt K mg) {C0 W fI0:E5} (Y:i3 K mg C0 W fI0) (Y5:FnY P w K mg base "signs_of" 4 3 gE [C0]) (Y4:FnY P w K mg base "sentence" 6 2 g9 [C0]) (ga9:FnY P w K mg base "many" 6 2 nI [C0]) (Y0:FnY P w K mg base "drawing_at" 6 3 fc [C0]) (Y2:FnY P w K mg base "number_of" 6 3 fY [C0]):aO P w K mg base CX0 7 f fd ["_law_lexicon_here","_law_words_here","_law_way"] (spD K 3 (lw C0)):=by
 have nd:=jU.nd;refine F.okR rfl jU (fun cdv A outer s H E hr=>⟨_,(ak (aH (i:=3) nd rfl (N4 rfl) zk)
   (ak (Bq (j:=4) (fun _ _ h=>h) rfl rfl rfl rfl Y.gH Y.lC Y.lW nd rfl rfl (qy (fun _ _ h=>h) (bb (gc hr.units) (af 2) aj nbh) (gO (fE Y5 (hr.mono (by decide)) rfl (fun _ _ h=>h) (ae (af 0) (ae (af 1) (ae (aK AK (cR (ae aj ah)) (aI bV rfl T.b_len (by kernel_rfl) (ae (af 1) ah))) ah))))) (qy (fun _ _ h=>h) (bb (gc hr.units) (af 2) aj nbh) (gO (fE Y4 (hr.mono (by decide)) rfl (fun _ _ h=>h) (ae (af 0) (ae (af 1) ah)))) (qy (fun _ _ h=>h) (bb (gc hr.units) (af 2) aj nbh) (gO (fE ga9 (hr.mono (by decide)) rfl (fun _ _ h=>h) (ae (af 0) (ae (af 1) ah)))) (qy (fun _ _ h=>h) (bb (gc hr.units) (af 2) aj nbh) (gO (fE Y0 (hr.mono (by decide)) rfl (fun _ _ h=>h) (ae (af 0) (ae (af 1) (ae (Br AO aj) ah))))) (gO (fE Y2 (hr.mono (by decide)) rfl (fun _ _ h=>h) (ae (af 0) (ae (af 1) (ae zk ah))))))))) fun a=>(aw (aH (i:=3) nd rfl (N4 rfl) (af 4))))
   (aw (iG (af 3))))),fun ds M R _ hS bk=>?_⟩)
 obtain⟨ord,ay,ag,ws,w,i,rfl,hL,hg,hwl,ho,k⟩:=hS;refine bk ?_;clear bk;have hwp:1<=ws.length:=by
  obtain⟨j,hj,_⟩:=ho;have:=(F4.mp hj).1
  lia
 walk_at "rd";have fin:∀dd,M dd=none->((isX (xA 0 (some dd))=none->∃M2,LeM M2 (ar M dd (iV "word" dd (.str w)))/\R D.non M2)/\∀(i:Nat) (x:Option E5),isX (xA 0 (some dd))=some (i,x)->∀a,ar M dd (iV "word" dd (.str w)) a=none->∃M3,LeM M3 (ar (ar M dd (iV "word" dd (.str w))) a (exY [C0] i x a))/\∃M2,LeM M2 M3/\R (D.ref a) M2):=fun dd hd=>⟨fun e=>(by rw[bD]at e;cases e),fun i x e a ha=>by
  rw[bD]at e;cases e;have hda:dd≠a:=fun z=>by rw[<-z,aq]at ha;cases ha
  exact⟨_,fun _ _ e=>e,_,fun _ _ e=>e,k dd a hd (by rw[au (M9 hda)]at ha;exact ha) hda⟩⟩
 refine cS (fun _=>?_) (fun _=>cS (fun _=>?_) (fun _=>cS (fun _=>?_) (fun _=>cS (fun _=>?_) (fun _=>?_))))
 ·refine⟨sz3 1,_,by rw[E7];exact zM hwp (sz3 _ (by lia)),ord,ay,ag,ws,w,[_],rfl,rfl,hL,hg,hwl,ho,fin⟩
 ·exact⟨ord,ay,ag,ws,w,[],rfl,rfl,hL,hg,hwl,ho,fin⟩
 ·exact⟨ord,ay,ag,ws,w,[],rfl,rfl,hL,hg,hwl,ho,fin⟩
 ·exact⟨ord,ay,ag,ws,w,[_],rfl,rfl,hL,hg,hwl,ho,fin⟩
 ·exact⟨ord,ay,ag,ws,w,[_],rfl,rfl,hL,hg,hwl,ho,fin⟩
def me:SpD:=fun ds M Q=>∃(p:E5) (l:List D),ds=[.ref p]/\M p=some (.lst l)/\aL l/\Q (.bl true) noM
theorem wM{v:Int}(h0:0<=v) (h1:v<8):∃n:Nat,1<=n/\n<=8/\atI [D.int 1,D.int 2,D.int 3,D.int 4,D.int 5,D.int 3,D.int 4,D.int 8] v=some (.int (n:Int)):=by
 obtain⟨i,rfl⟩:=K5 h0;have hi:i<8:=by lia
 match i,hi with
 |0,_=>exact⟨1,by decide,by decide,rfl⟩
 |1,_=>exact⟨2,by decide,by decide,rfl⟩
 |2,_=>exact⟨3,by decide,by decide,rfl⟩
 |3,_=>exact⟨4,by decide,by decide,rfl⟩
 |4,_=>exact⟨5,by decide,by decide,rfl⟩
 |5,_=>exact⟨3,by decide,by decide,rfl⟩
 |6,_=>exact⟨4,by decide,by decide,rfl⟩
 |7,_=>exact⟨8,by decide,by decide,rfl⟩
theorem yz{r:Row}:neF (.tup (r.map aE)) (.tup (r.map aE))=some (.bl false):=by
 have h:dLe (.tup (r.map aE)) 60=true:=by
  show bL (r.map aE) 59=true;rw[g6];intro d hd;obtain⟨x,_,rfl⟩:=R3.mp hd;rfl
 have e:∀r:Row,dY (r.map aE) (r.map aE)=true:=fun r=>by
  induction r with
  |nil=>rfl
  |cons x r ih=>rw[J5,dY,ih];simp[aE,eqD,dY]
 rw[neF,if_pos ⟨h,h⟩];rw[eqD,e];rfl
theorem Cp:L4 "q"=tx [113]:=by decide +kernel
theorem A6{ag:List (Str×List Row)}{w0:Str}(hL:CD ag) (h0:(ag.map (·.1))[0]?=some w0) (hl:w0.length<=8) {v:Int}(a0:0<=v) (a1:v<4) :
  ∃od:Str,atI [D.str (L4 "zqz"),D.str (L4 ""),D.str (L4 "W"),D.str (w0++tx [113])] v=some (.str od)/\od∉ag.map (·.1)/\od.length<=100:=by
 obtain⟨i,rfl⟩:=K5 a0;have hi:i<4:=by lia
 match i,hi with
 | 0,_ => exact ⟨_,rfl,fun h => by
   obtain⟨e,he,z⟩:=R3.mp h;exact(hL.g e he).2.2.2.2 (z.trans AR),by decide⟩
 | 1,_ => exact ⟨_,rfl,fun h => by
   obtain⟨e,he,z⟩:=R3.mp h;have h1:cn e.1=true:=(hL.g e he).2.2.2.1;rw[z]at h1;exact absurd h1 (by decide +kernel),by decide⟩
 | 2,_ => exact ⟨_,rfl,fun h => by
   obtain⟨e,he,z⟩:=R3.mp h;have h1:cn e.1=true:=(hL.g e he).2.2.2.1;rw[z]at h1;exact absurd h1 (by decide +kernel),by decide⟩
 | 3,_ => exact ⟨_,rfl,hL.q w0 h0,by
   have:(w0++tx [113]).length=w0.length+1:=by
    show(w0.cps++#[113]).size=_;rw[Array.size_append];rfl
   lia⟩
theorem o3(F:Fun K "_law_right" "_law_right" dZ f fd) (T:Txt K mg) {C0 W fI0:E5} (Y:i3 K mg C0 W fI0) (Y7:FnD P w K mg base "_law_lexicon" 4 3 iM) (G0:FnD P w K mg base "_law_draw" 1 2 bJ) (Y1:FnD P w K mg base "_law_some_words" 2 2 fw) (g_q_signs_of:FnD P w K mg base "signs_of" 4 3 gV) (ga3:FnD P w K mg base "_law_signs" 1 3 lh) (ga2:FnD P w K mg base "_law_asked" 7 3 (lw C0)) (ga8:FnD P w K mg base "_law_only" 1 2 (oz C0)):aO P w K mg base CX0 8 f fd ["_law_well_here"] (spD K 1 me):=by
 have nd:=jY.nd;refine F.okR rfl jY (fun cdv A outer s H E hr=>⟨_,(ak (zi (qd Y7 hr (ae (af 0) (ae (aV aX (gb (ae aj (ae aj (ae aj (ae aj (ae aj (ae aj (ae aj (ae aj ah))))))))) (qd G0 hr (ae (af 0) (ae aj ah))) (fun _ _=>rfl)) (ae aj ah)))) (oU rfl (di (ba (i:=1) nd rfl (N4 rfl)) (di (ba (i:=2) nd rfl (N4 rfl)) (di (ba (i:=3) nd rfl (N4 rfl)) nt)))))
   (aU (ak (aH (i:=4) nd rfl (N4 rfl) (qd Y1 hr (ae (af 0) (ae (af 3) ah))))
   (aU (ak (aH (i:=5) nd rfl (am2 rfl) (bA (wz rfl) rfl T.b_dict (by kernel_rfl) (ae (aV aX (af 1) aj (fun _ _=>rfl)) ah)))
   (aU (ak (cz (bb DX (aI (zb rfl) rfl T.b_sum (by kernel_rfl) (ae (ic (ms:=[false,false,false,false,false,true,false,false,false,false,false,false]) (ao:=["_law_word"]) (aM rfl (show aT (ai dZ) cB _ _=true from by decide +kernel)) rfl (cb (af 4)) (aP (i:=12) (show(cB++_).Nodup from by decide +kernel) rfl rfl) (fun _ _ _ _=>bI) (fun _ _ _ _=>(aI (zb rfl) rfl T.b_sum (by kernel_rfl) (ae (ic (ms:=[false,false,false,false,false,false,false,false,false,false,false,false,false]) (ao:=["_law_row"]) (se (show m7 (cB++(["_law_word"]:List Str)) _ _=true from by decide +kernel)) rfl (cb (pS hr.units1 (af 5) (af 12) (fun _ _=>rfl))) (aP (i:=13) (show((cB++(["_law_word"]:List Str))++_).Nodup from by decide +kernel) rfl rfl) (fun _ _ _ _=>bI) (fun _ _ _ _=>(aI bV rfl T.b_len (by kernel_rfl) (ae (af 13) ah)))) ah)))) ah)) aj nbh) (aw (aH (i:=4) nd rfl (N4 rfl) (bX (af 4) cH (bY aj)))) bC)
   (aU (ak (aH (i:=6) nd rfl (N4 rfl) (bA cK rfl T.b_tuple (by kernel_rfl) (ae (ic (ms:=[true,false,false,false,false,true,false,false,false,false,false,false]) (ao:=["_law_word"]) (aM rfl (show aT (ai dZ) cB _ _=true from by decide +kernel)) rfl (cb (af 4)) (aP (i:=12) (show(cB++_).Nodup from by decide +kernel) rfl rfl) (fun _ _ _ _=>bI) (fun _ _ _ _=>(qd G0 hr (ae (af 0) (ae (aI bV rfl T.b_len (by kernel_rfl) (ae (pS hr.units1 (af 5) (af 12) (fun _ _=>rfl)) ah)) ah))))) ah)))
   (aU (ak (aH (i:=7) nd rfl (N4 rfl) (qd g_q_signs_of hr (ae (af 1) (ae (af 4) (ae (af 6) ah)))))
   (aU (ak (cz (wy (qK (iJ (gr (yL (Tn:="tuple") (by decide) rfl T.b_isinstance rfl T.b_tuple (by kernel_rfl) (af 7)))) (mj (bb (zK hr.units) (af 7) (bA cK rfl T.b_tuple (by kernel_rfl) (ae (qd ga3 hr (ae (af 1) (ae (af 4) (ae (af 6) ah)))) ah)) nbh)))) (aw (bc oR)) bC)
   (aU (ak (aH (i:=4) nd rfl (N4 rfl) (bX (af 4) cH (bY aj)))
   (aU (ak (aH (i:=8) nd rfl (N4 rfl) (qd G0 hr (ae (af 0) (ae (aK aR (aI bV rfl T.b_len (by kernel_rfl) (ae (af 4) ah)) aj) ah))))
   (aU (ak (aH (i:=9) nd rfl (N4 rfl) (aV aX (gb (ae gX (ae gX (ae gX (ae (aK aR (aV aX (af 3) aj (fun _ _=>rfl)) gX) ah))))) (qd G0 hr (ae (af 0) (ae aj ah))) (fun _ _=>rfl)))
   (aU (ak (cz (bb (gc hr.units) (qd G0 hr (ae (af 0) (ae aj ah))) aj nbh) (aw (aH (i:=4) nd rfl (N4 rfl) (aK aR (af 4) (cR (ae gX ah))))) bC)
   (aU (ak (aH (i:=4) nd rfl (N4 rfl) (aK aR (aK aR (bX (af 4) cH (bY (af 8))) (cR (ae (af 9) ah))) (bX (af 4) (bY (af 8)) cH)))
   (aU (ak (dI P6 rfl (bp rfl T.b_range (ae aj ah)) (ba (i:=10) nd rfl (N4 rfl)) (ak (aH (i:=11) nd rfl (N4 rfl) (qd ga2 hr (ae (af 1) (ae (af 4) (ae (af 10) ah)))))
   (aw (cz (wy (qK (iJ (gr (qd ga8 hr (ae (af 11) (ae aj ah))))) (mj (bb (zK hr.units) (Cr (Cs:=[C0]) 0 rfl (Y.z _ (by simp)) Y.g0 (af 11)) (af 9) nbh)))) (aw (bc oR)) bC))))
   (aw (iG oR))))))))))))))))))))))))))),fun ds M R _ hS bk=>?_⟩)
 obtain⟨p,l,rfl,hM,hP,k⟩:=hS;refine bk ?_;clear bk;walk_at "rd";refine⟨sz3 8,p,l,8,rfl,hM,hP,by lia,by lia,fun v l1 a0 a1 hP1=>?_⟩;obtain⟨n,n1,n8,hn⟩:=wM a0 a1;refine⟨_,hn,p,l1,n,24,rfl,aq,hP1,n1,n8,fun ord ay ag pa kvs l2 ho hL hel hP2 hpa=>⟨_,rfl,aG ?_⟩⟩;have hap:pa≠p:=nn hpa aq;rw[aJ];have hcm:∀l3 l4,ar (ar (ar M p (.lst l3)) pa (.dT kvs)) p (.lst l4)=ar (ar M p (.lst l4)) pa (.dT kvs):=fun l3 l4=>by
  rw[<-bN (M9 hap),aJ]
 have hpp:∀l3,ar (ar M p (.lst l3)) pa (.dT kvs) p=some (.lst l3):=fun l3=>by rw[au (M9 hap),aq]
 have hf:=hL.few;have hX:LxP ord ay ag:=⟨hf,fun e he=>⟨(hL.g e he).2.2.2.1,trivial⟩⟩;have hE:uN ag 4 5:=fun e he=>⟨(hL.g e he).2.1,(hL.g e he).2.2.1⟩;walk_at "rd";refine⟨p,l2,_,rfl,hpp _,hP2,by intro z;have:=congrArg V3 z;simp at this;subst this;simp at hel,by simpa using hf,fun us l3 ul uin hP3=>aG ?_⟩;rw[hcm];walk_at "rd";refine⟨_,rfl,_,kW hL.nd,aG ?_⟩;have hc0:∀w:Str,(kin ag w).length<=4:=fun w=>(mz (ag:=ag) (w:=w) (P:=fun rs=>rs.length<=4/\∀r∈rs,r.length<=5) ⟨O4 _,fun _ h=>by cases h⟩ hE).1;have hk1:∀w∈ag.map (·.1),1<=(kin ag w).length:=fun w hw=>by
  obtain⟨j,e,_,q2,q3⟩:=oV (Nat.lt_of_le_of_lt hf (by decide)) hw;rw[<-q3];exact(hL.g e (J8 q2)).1
 refine jJ (fun Δ' M'=>∃us':List Str,Δ'=[some (D.ref p),some (dE ord ay ag),some (D.ref pa),some (D.tup ((ag.map (·.1)).map D.str)),some (D.tup (us'.map D.str)),some (iA (jH ag)),none,none,none,none,none,none]/\M'=ar (ar M p (.lst l3)) pa (.dT kvs)/\us'.length<=8/\∀w∈us',w∈ag.map (·.1)) (fun nx knx=>?_) ?_
 ·walk_at "rd";refine fun hz=>⟨hz,?_⟩;refine bM D.str (fun _=>true) (fun w=>D.int (((kin ag w).map fun r=>(r.length:Int)).sum)) (fun Δ=>∃x,Δ=[none,none,none,none,none,some (iA (jH ag)),none,none,none,none,none,none,x]) _ _ _ ?_ ⟨_,rfl⟩ ?_
  ·rintro w hw Δ ⟨x,rfl⟩;refine⟨_,rfl,⟨_,rfl⟩,fun Q1 q1=>q1,fun _ Q2 q1=>?_⟩;walk_at "rd";refine⟨_,ka,_,gI (uin w hw),(kin ag w).map br,rfl,fun hz2=>⟨hz2,?_⟩⟩;refine bM br (fun _=>true) (fun r=>D.int (r.length:Int)) (fun Δ=>∃x,Δ=[none,none,none,none,none,none,none,none,none,none,none,none,none,x]) _ _ _ ?_ ⟨_,rfl⟩ ?_
   ·rintro r hr' Δ ⟨x,rfl⟩;refine⟨_,rfl,⟨_,rfl⟩,fun Q1 q2=>q2,fun _ Q2 q2=>?_⟩;exact⟨_,rfl,.int (r.length:Int),by simp[nc,rdM,br,iU],q2⟩
   ·rw[V5.mpr (fun _ _=>rfl),O5];refine⟨_,?_,q1⟩;have:=vC (ns:=(kin ag w).map fun r=>(r.length:Int));rw[W1]at this;exact this
  ·rw[V5.mpr (fun _ _=>rfl),O5];refine⟨.int (us.map fun w=>((kin ag w).map fun r=>(r.length:Int)).sum).sum,?_,_,rfl,_,rfl,cS (fun _=>?_) (fun _=>knx _ _ ⟨us,rfl,rfl,ul,uin⟩)⟩
   ·have:=vC (ns:=us.map fun w=>((kin ag w).map fun r=>(r.length:Int)).sum);rw[W1]at this;exact this
   ·rw[show(some (2:Int))=some ((2:Nat):Int)from rfl,ip,<-ab3];exact knx _ _ ⟨us.take 2,rfl,rfl,by rw[K9];lia,fun w hw=>uin w (Q5 hw)⟩
 intro Δ' M' hI;refine shr fun _ bk=>?_;obtain⟨vs,rfl,rfl,vl,vin⟩:=hI;refine bk ?_;clear bk;refine aG ?_;walk_at "rd";refine fun hz=>⟨hz,?_⟩;refine eD (fun i acc Δ M'=>∃(x:Option D) (c:List Nat) (l:List D),Δ=[some (D.ref p),none,none,none,none,some (iA (jH ag)),none,none,none,none,none,none,x]/\M'=ar (ar M p (.lst l)) pa (.dT kvs)/\aL l/\acc=c.map (fun(k:Nat)=>D.int (k:Int))/\c.length=i/\∀(j:Nat) (w:Str) (k:Nat),vs[j]?=some w->c[j]?=some k->k<(kin ag w).length) ⟨_,[],l3,rfl,rfl,hP3,rfl,rfl,fun _ _ _ _ h=>by simp at h⟩ ?_ ?_
 ·rintro i d acc Δ M' X hd ⟨x,c,l4,rfl,rfl,hP4,rfl,hcl,hcc⟩ k';obtain⟨w,hw,rfl⟩:=eF hd;refine⟨_,rfl,?_⟩;simp only[kz];walk_at "rd";have hwi:=vin w (J8 hw);refine⟨_,ka,_,gI hwi,.int ((kin ag w).length:Int),by simp[rdM,cm,iU],p,l4,_,rfl,hpp _,hP4,by have:=hk1 w hwi;lia,by have:=hc0 w;lia,fun v5 l5 b0 b1 hP5=>?_⟩;rw[hcm];obtain⟨kk,rfl⟩:=K5 b0;refine k' _ _ _ ⟨_,c++[kk],l5,rfl,rfl,hP5,by rw[S7];rfl,by simp[hcl],fun j w' k2 h1 h2=>?_⟩
  by_cases hj:j<c.length
  ·rw[P9 hj]at h2;exact hcc j w' k2 h1 h2
  ·have hjl:=(F4.mp h2).1;simp at hjl;have:j=i:=by lia
   subst this;rw[hw]at h1;cases h1;rw[S3 (by lia),hcl]at h2;have:kk=k2:=by simpa using h2
   lia
 intro acc Δ M' hI;refine shr fun _ bk=>?_;obtain⟨x,c,l4,rfl,rfl,hP4,rfl,hcl,hcc⟩:=hI;refine bk ?_;clear bk;rw[E7]at hcl;have hC:zS ag vs c:=⟨hcl,hcc⟩;have hsl:=jc hE (ws:=vs) (c:=c);refine aG ?_;walk_at "rd";refine⟨ord,ay,ag,vs,c,rfl,hX,vin,hC,by lia,aG ?_⟩;walk_at "rd";refine⟨true,rfl,?_⟩;rw[if_neg (by decide)];refine⟨ord,ay,ag,vs,c,rfl,hL.nd,hE,vl,vin,hC,_,rfl,_,yz,_,rfl,?_⟩;rw[if_neg (by decide)];refine aG ?_;walk_at "rd";rw[show(some (6:Int))=some ((6:Nat):Int)from rfl,ip,<-ab3];have us6:(vs.take 6).length<=6:=by rw[K9];lia
 have uin6:∀w∈vs.take 6,w∈ag.map (·.1):=fun w hw=>vin w (Q5 hw);generalize vs.take 6=ws at us6 uin6;refine aG ?_;walk_at "rd";refine⟨p,l4,_,rfl,hpp _,hP4,by lia,by rw[E7];lia,fun v5 l5 b0 b1 hP5=>aG ?_⟩;rw[hcm];rw[E7]at b1;obtain⟨at_,rfl⟩:=K5 b0;have hat:at_<=ws.length:=by lia
 walk_at "rd";have bu:∀w∈ag.map (·.1),w.length<=8:=fun w hw=>by
  obtain⟨e,he,rfl⟩:=R3.mp hw;have h2:cn e.1=true:=(hL.g e he).2.2.2.1;simp only[cn,N7,decide_eq_true_eq]at h2
  lia
 obtain⟨w0,hw0⟩:∃w0,(ag.map (·.1))[0]?=some w0:=⟨_,H0 (by rw[E7];lia)⟩;have hw0l:=bu w0 (J8 hw0);have hq:iS (.str w0) (.str (L4 "q"))=some (.str (w0++tx [113])):=by
  rw[Cp,je,if_pos (show w0.length+(tx [113]).length<=E4 by rw[R6,show(tx [113]).length=1 from rfl];lia)]
 have hx0:atI ((ag.map (·.1)).map D.str) 0=some (.str w0):=bK (xs:=(ag.map (·.1)).map D.str) (by rw[L7,hw0];rfl);refine⟨.str w0,hx0,_,hq,sz3 4,p,l5,4,rfl,hpp _,hP5,by lia,by lia,fun v6 l6 c0 c1 hP6=>?_⟩;rw[hcm];obtain⟨od,ho1,ho2,ho3⟩:=A6 hL hw0 hw0l c0 c1;refine⟨_,ho1,aG ?_⟩;refine jJ (fun Δ' M'=>∃(ws2:List Str) (l:List D),Δ'=[some (D.ref p),some (dE ord ay ag),some (D.ref pa),some (D.tup ((ag.map (·.1)).map D.str)),some (D.tup (ws2.map D.str)),some (iA (jH ag)),some (D.tup (c.map fun(k:Nat)=>D.int (k:Int))),some (D.tup ((bO ag vs c++[(ay,1)]).map aE)),some (D.int (at_:Int)),some (D.str od),none,none]/\ws2.length<=7/\at_<=ws2.length/\(∀w∈ws2.take at_,w∈ag.map (·.1))/\∀w∈ws2,w.length<=8) (fun nx knx=>?_) ?_
 ·walk_at "rd";refine⟨p,l6,2,rfl,hpp _,hP6,by lia,by lia,fun v7 l7 d0 d1 hP7=>⟨_,rfl,_,rfl,cS (fun _=>?_) (fun _=>knx _ _ ⟨ws,l7,rfl,by lia,hat,fun w hw=>uin6 w (Q5 hw),fun w hw=>bu w (uin6 w hw)⟩)⟩⟩;refine⟨sz3 1,.tup ((ws++[L4 "zqzq"]).map D.str),?_,knx _ _ ⟨ws++[L4 "zqzq"],l7,rfl,by simp;lia,by simp;lia,fun w hw=>?_,fun w hw=>?_⟩⟩
  ·rw[if_pos (by rw[E7];exact sz3 _ (by lia)),S7];rfl
  ·rw[List.take_append_of_le_length hat]at hw;exact uin6 w (Q5 hw)
  ·rcases L9.mp hw with h|h
   ·exact bu w (uin6 w h)
   ·rw[J0.mp h];decide
 intro Δ' M' hI;refine shr fun _ bk=>?_;obtain⟨ws2,l7,rfl,w7,hat2,hin2,hl2⟩:=hI;refine bk ?_;clear bk;refine aG ?_;walk_at "rd";rw[ip,jX,<-ab3,<-aj1];have e3:iS (D.tup ((ws2.take at_).map D.str++[D.str od])) (.tup ((ws2.drop at_).map D.str))=some (.tup ((ws2.take at_++od::ws2.drop at_).map D.str)):=by
  rw[qz,if_pos (by simp only[K7,E7,K9,W5,N6,T7];exact sz3 _ (by lia))];simp
 refine⟨sz3 1,_,if_pos (by rw[E7,K9];exact sz3 _ (by lia)),_,e3,aG ?_⟩;have hodd:sU ag (ws2.take at_++od::ws2.drop at_) od:=⟨at_,by rw[S3 (by rw[K9];lia),K9,Nat.min_eq_left hat2,Nat.sub_self];rfl,ho2,by
  rw[List.take_append_of_le_length (by rw[K9];lia),List.take_take,Nat.min_self];exact hin2⟩
 have hgood:∀v∈ws2.take at_++od::ws2.drop at_,cx (.str v)=true:=fun v hv=>by
  have:v.length<=100:=by
   rcases L9.mp hv with h|h
   ·have:=hl2 v (Q5 h);lia
   ·rcases E9.mp h with h|h
    ·rw[h];exact ho3
    ·have:=hl2 v (ae5 h);lia
  simp only[cx,decide_eq_true_eq];lia
 have hln:(ws2.take at_++od::ws2.drop at_).length<=50:=by
  simp only[K7,K9,W5,N6];lia
 generalize ws2.take at_++od::ws2.drop at_=ws3 at hodd hgood hln;walk_at "rd";refine aQ (fun i Δ _=>∃x10 x11:Option D,Δ=[some (D.ref p),some (dE ord ay ag),some (D.ref pa),some (D.tup ((ag.map (·.1)).map D.str)),some (D.tup (ws3.map D.str)),some (iA (jH ag)),some (D.tup (c.map fun(k:Nat)=>D.int (k:Int))),some (D.tup ((bO ag vs c++[(ay,1)]).map aE)),some (D.int (at_:Int)),some (D.str od),x10,x11]) ⟨_,_,rfl⟩ ?_ ?_
 ·rintro i d Δ M2 X hd ⟨x10,x11,rfl⟩ k';obtain⟨hi,rfl⟩:=bT hd;refine⟨_,rfl,?_⟩;walk_at "rd";rw[Int.zero_add];refine⟨ord,ay,ag,ws3,od,i,rfl,hX,hgood,hln,hodd,fun dd a hd ha hda=>?_⟩;refine⟨a,dd,rfl,aq,true,rfl,?_⟩;rw[if_neg (by decide)];refine⟨a,rfl,dd,aq,.str od,by rw[au hda,aq],.bl false,?_,false,rfl,?_⟩
  ·rw[gU,tO];simp
  rw[if_neg (by decide)];exact k' _ _ ⟨_,_,rfl⟩
 ·rintro Δ M2 ⟨x10,x11,rfl⟩;walk_at "rd";exact⟨noM,fun _ _ e=>(by cases e),k⟩
def S_law:SpD:=fun ds M R=>∃ns:List Int,ds=[.scr (ns.map .int)]/\M=noM/\ns.length<=63/\∀M',R (.bl true) M'
theorem zD(F:Fun K "law" "law" rf f fd) (T:Txt K mg) (ga1:FnD P w K mg base "_law_right" 8 1 me) (gb0:FnD P w K mg base "_law_well" 1 2 ng):aO P w K mg base CX0 9 f fd ["_law_script"] (spD K 1 S_law):=by
 have nd:=vv.nd;refine F.okR rfl vv (fun cdv A outer s H E hr=>⟨_,(aw (bc (aI (yI rfl) rfl T.b_all (by kernel_rfl) (ae (ic (ms:=[true]) (ao:=["_law_k"]) (aM rfl (show aT (ai rf) uB _ _=true from by decide +kernel)) rfl (bp rfl T.b_range (ae (aI (BJ rfl) rfl T.b_max (by kernel_rfl) (ae aj (ae (aI (y7 rfl) rfl T.b_min (by kernel_rfl) (ae (aI bV rfl T.b_len (by kernel_rfl) (ae (af 0) ah)) (ae aj ah))) ah))) ah)) (aP (i:=1) (show(uB++_).Nodup from by decide +kernel) rfl rfl) (fun _ _ _ _=>bI) (fun _ _ _ _=>(qd ga1 hr (ae (qd gb0 hr (ae (af 0) (ae (af 1) ah))) ah)))) ah)))),fun ds M R _ hS bk=>?_⟩);obtain⟨ns,rfl,rfl,hn,k⟩:=hS;refine bk ?_;clear bk;walk_at "rd";rw[E7];obtain⟨c,hc,ec⟩:∃c:Nat,c<=8/\(if(if 8<(ns.length:Int)then 8 else(ns.length:Int)) > 1 then if 8<(ns.length:Int)then 8 else(ns.length:Int)else 1)=(c:Int):=by
  by_cases h1:8<(ns.length:Int)
  ·exact⟨8,by lia,by simp[h1]⟩
  ·by_cases h2:(ns.length:Int) > 1
   ·exact⟨ns.length,by lia,by rw[if_neg h1,if_pos h2]⟩
   ·exact⟨1,by lia,by rw[if_neg h1,if_neg h2];rfl⟩
 rw[ec];refine⟨by lia,by lia,by rw[bq];exact sz3 _ (by lia),?_⟩;refine eD (fun i acc Δ M'=>∃x:Option D,Δ=[some (D.scr (ns.map .int)),x]/\M'=noM/\acc=E6 i (D.bl true)) ⟨_,rfl,rfl,rfl⟩ ?_ ?_
 ·rintro i d acc Δ M' X hd ⟨x,rfl,rfl,rfl⟩ k';obtain⟨hi,rfl⟩:=bT hd;refine⟨_,rfl,?_⟩;walk_at "rd";simp only[kz,if_true];refine⟨ns,_,rfl,hn,by lia,by lia,fun p l hp hP=>?_⟩;exact⟨p,l,rfl,aq,hP,k' _ _ _ ⟨_,rfl,rfl,by rw[List.replicate_succ']⟩⟩
 ·rintro acc Δ M' ⟨x,rfl,rfl,rfl⟩;refine⟨_,?_,k _⟩;have h1:∀n,(E6 n (D.bl true)).all uM=true:=fun n=>by rw[S9];intro d hd;rw[P3 hd];rfl
  have h2:∀n,(E6 n (D.bl true)).all sg=true:=fun n=>by rw[S9];intro d hd;rw[P3 hd];rfl
  simp only[v9,h1,h2,if_true]
end
theorem Cv:BY S_law:=fun ns R hn hR=>⟨ns,rfl,rfl,hn,hR⟩
theorem AF{l:PySem.W.OpenLaw}{w:O3}{K:u8}{h:I0}{mg:Str->Option s0}{fa:E5}(X:K.In h) (G:h.Ns F9 mg) (hfa:mg "law"=some (.ref fa))
  {C:E5}
  {f0:E5} {d0:K1}
  {f1:E5} {d1:K1}
  {f2:E5} {d2:K1}
  {f3:E5} {d3:K1}
  {f4:E5} {d4:K1}
  {f5:E5} {d5:K1}
  {f6:E5} {d6:K1}
  {f7:E5} {d7:K1}
  {f8:E5} {d8:K1}
  {f9:E5} {d9:K1}
  {f10:E5} {d10:K1}
  {f11:E5} {d11:K1}
  {f12:E5} {d12:K1}
  {f13:E5} {d13:K1}
  {f14:E5} {d14:K1}
  {f15:E5} {d15:K1}
  {f16:E5} {d16:K1}
  {f17:E5} {d17:K1}
  {f18:E5} {d18:K1}
  {f19:E5} {d19:K1}
  {f20:E5} {d20:K1}
  {f21:E5} {d21:K1}
  {f22:E5} {d22:K1}
  {f23:E5} {d23:K1}
  {f24:E5} {d24:K1}
  {f25:E5} {d25:K1}
  {f26:E5} {d26:K1}
  {f27:E5} {d27:K1}
  {f28:E5} {d28:K1}
  {f29:E5} {d29:K1}
  {f30:E5} {d30:K1}
  {f31:E5} {d31:K1}
  {ad_START:E5} {nn_START:Nat} {ss_START:Array (Option s0)} {tk_START0 tk_START1 tk_START2:Tok}
  {tk_SMALL_LETTERS:Tok}
  {tk_MOST_LETTERS:Tok}
  {W WN:E5} {wn wq:Str} {wbs:List s0} {wh:Bool} {wsn:List Str} {wsub:List s0} {wab:Bool} {wcol:Option Bool} {wdd:Option E5} {w0 w1 w2 w3 w5:Option s0} {wnew:String} {wnc:s0} {wnd:Option E5} {wes:Array am1} {wep:Nat} {wsl:Array (Option s0)}
  {C_NoText:E5}
  {C_NoStep:E5}
  {C_NoWord:E5}
  {C_NoNumber:E5}
  {C_NoDrawing:E5}
  {C_NoWorld:E5}
  {C_NoLexicon:E5}
  {C_NoRow:E5}
  {C_NoKept:E5}
  {C_WishError:E5}
  {C0 CN0:E5} {xn0 xq0:Str} {xbs0:List s0}  {xsn0:List Str} {xsub0:List s0} {xab0:Bool} {xcol0:Option Bool} {xdd0:Option E5} {xa0 xb0 xc0 xd0 xe0:Option s0}
  {fI0:E5} {odI0 anI0:Option E5} {slI0:Array (Option s0)} {kVI0 dcI0 pmI0 cdI0 ctI0:s0}
  (x0:bH K "is_short_word" bE f0 d0)
  (x1:bH K "words_of" cV f1 d1)
  (x2:bH K "goals_wish" dn f2 d2)
  (x3:bH K "count_of_all" dX f3 d3)
  (x4:bH K "_law_well" jC f4 d4)
  (x5:bH K "_law_draw" jM f5 d5)
  (x6:bH K "_law_above" iq f6 d6)
  (x7:bH K "_law_cancels" fB f7 d7)
  (x8:bH K "_law_signs" hV f8 d8)
  (x9:bH K "_law_only" gY f9 d9)
  (x10:bH K "has_word" eP f10 d10)
  (m0:K6 K F9 "Chart"=some (some (.ref C))) (m1:PySem.W.makesIn K C=true) (m2:N8 K (.ref C) "__init__"=some (some (.ref f11))) (m3:PySem.W.isFn K (.ref f11)=true) (m4:S5 K (.ref C)=true)
  (y1:PySem.W.plainGet K C Str.empty=true) (y2:ag8 K C=true) (y3:PySem.W.plainOver K C=true) (y4:N8 K (.ref C) "__setattr__"=some (some (.builtin "object.__setattr__")))
  (x11:Fun K "__init__" "Chart.__init__" lZ f11 d11)
  (x12:bH K "_law_marks" c8 f12 d12)
  (x13:bH K "_law_order" iu f13 d13)
  (x14:bH K "_law_sign" jB f14 d14)
  (x15:bH K "_law_partner" dM f15 d15)
  (x16:bH K "_law_words" dU f16 d16)
  (x17:bH K "_law_pieces" gA f17 d17)
  (x18:bH K "_law_some_words" cu f18 d18)
  (x19:bH K "kinds_of" cZ f19 d19)
  (x20:bH K "_law_whole_row" cJ f20 d20)
  (x21:bH K "kinds_by_number" bS f21 d21)
  (x22:bH K "signs_of" bx f22 d22)
  (x23:bH K "_law_lexicon" dH f23 d23)
  (x24:bH K "chart_of" eJ f24 d24)
  (x25:bH K "sentence" eG f25 d25)
  (x26:bH K "many" jw f26 d26)
  (x27:bH K "drawing_at" dj f27 d27)
  (x28:bH K "number_of" dQ f28 d28)
  (x29:bH K "_law_asked" ix f29 d29)
  (x30:bH K "_law_right" dZ f30 d30)
  (x31:bH K "law" rf f31 d31)
  (z_isinstance:K6 K F9 "isinstance"=some none)
  (z_str:K6 K F9 "str"=some none)
  (z_all:K6 K F9 "all"=some none)
  (z_len:K6 K F9 "len"=some none)
  (z_enumerate:K6 K F9 "enumerate"=some none)
  (z_tuple:K6 K F9 "tuple"=some none)
  (z_zip:K6 K F9 "zip"=some none)
  (z_abs:K6 K F9 "abs"=some none)
  (z_range:K6 K F9 "range"=some none)
  (z_divmod:K6 K F9 "divmod"=some none)
  (z_min:K6 K F9 "min"=some none)
  (z_dict:K6 K F9 "dict"=some none)
  (z_ValueError:K6 K F9 "ValueError"=some none)
  (z_sum:K6 K F9 "sum"=some none)
  (z_max:K6 K F9 "max"=some none)
  (z_reversed:K6 K F9 "reversed"=some none)
  (z_START:K6 K F9 "START"=some (some (.ref ad_START))) (w_START:K.lookup ad_START=some ⟨.type "tuple",none,.seq #[.int (-1) tk_START0,.int (0) tk_START1,.int (0) tk_START2] nn_START,ss_START⟩)
  (z_SMALL_LETTERS:K6 K F9 "SMALL_LETTERS"=some (some (.str "abcdefghijklmnopqrstuvwxyz" tk_SMALL_LETTERS)))
  (z_MOST_LETTERS:K6 K F9 "MOST_LETTERS"=some (some (.int 8 tk_MOST_LETTERS)))
  (aW:K6 K F9 "WishError"=some (some (.ref W)))
  (lW:K.lookup W=some (T1 wn wq W WN wbs [.type "ValueError",.type "Exception",.type "BaseException",.type "object"] wh wsn wsub wab wcol wdd w0 w1 w2 w3 w5 wnew))
  (nW:K.lookup WN=some ⟨wnc,wnd,.dict wes wep,wsl⟩)
  (hW:wes.toList.all (fun e=>e.key.isStr "__init__"==false&&match e.key with|.str _ _=>true|_=>false)=true)
  (sW:ah6 K (.ref W) "__getattribute__"=some (some (.builtin "type.__getattribute__")))
  (rW:PySem.W.readsIn K W (.type "type")=true)
  (fW:PySem.W.findCls K (.ref W) (.type "type") "__init__"=some (.val (.builtin "ValueError.__init__")))
  (i4:ah6 K (.builtin "object.__class__") "__get__"=some (some (.builtin "getset_descriptor.__get__")))
  (i5:PySem.W.takesIn K (.builtin "object.__class__")=some true)
  (a_NoText:K6 K F9 "NoText"=some (some (.ref C_NoText)))
  (a_NoStep:K6 K F9 "NoStep"=some (some (.ref C_NoStep)))
  (a_NoWord:K6 K F9 "NoWord"=some (some (.ref C_NoWord)))
  (a_NoNumber:K6 K F9 "NoNumber"=some (some (.ref C_NoNumber)))
  (a_NoDrawing:K6 K F9 "NoDrawing"=some (some (.ref C_NoDrawing)))
  (a_NoWorld:K6 K F9 "NoWorld"=some (some (.ref C_NoWorld)))
  (a_NoLexicon:K6 K F9 "NoLexicon"=some (some (.ref C_NoLexicon)))
  (a_NoRow:K6 K F9 "NoRow"=some (some (.ref C_NoRow)))
  (a_NoKept:K6 K F9 "NoKept"=some (some (.ref C_NoKept)))
  (a_WishError:K6 K F9 "WishError"=some (some (.ref C_WishError)))
  (aC0:K6 K F9 "NoWord"=some (some (.ref C0)))
  (kC0:S5 K (.ref C0)=true)
  (lC0:K.lookup C0=some (T1 xn0 xq0 C0 CN0 xbs0 [.ref W,.type "ValueError",.type "Exception",.type "BaseException",.type "object"] true xsn0 xsub0 xab0 xcol0 xdd0 xa0 xb0 xc0 xd0 xe0 "ValueError.__new__"))
  (ia0:N8 K (.ref C0) "__getattribute__"=some (some (.builtin "BaseException.__getattribute__")))
  (ib0:N8 K (.ref C0) "__getattr__"=some none)
  (ic0:aj0 K C0 (.type "BaseException")=some true)
  (id0:(PySem.W.clsIn K C0).isSome=true)
  (ie0:N8 K (.ref C0) "__class__"=some (some (.builtin "object.__class__")))
  (ig0:aj0 K C0 (.type "object")=some true)
  (kV0:L6 K (.ref C0) (.type "ValueError")=some true)
  (k0_NoText:L6 K (.ref C0) (.ref C_NoText)=some false)
  (k0_NoStep:L6 K (.ref C0) (.ref C_NoStep)=some false)
  (k0_NoWord:L6 K (.ref C0) (.ref C_NoWord)=some true)
  (k0_NoNumber:L6 K (.ref C0) (.ref C_NoNumber)=some false)
  (k0_NoDrawing:L6 K (.ref C0) (.ref C_NoDrawing)=some false)
  (k0_NoWorld:L6 K (.ref C0) (.ref C_NoWorld)=some false)
  (k0_NoLexicon:L6 K (.ref C0) (.ref C_NoLexicon)=some false)
  (k0_NoRow:L6 K (.ref C0) (.ref C_NoRow)=some false)
  (k0_NoKept:L6 K (.ref C0) (.ref C_NoKept)=some false)
  (k0_WishError:L6 K (.ref C0) (.ref C_WishError)=some true)
  (iC0:N8 K (.ref C0) "__init__"=some (some (.ref fI0)))
  (lI0:K.lookup fI0=some ⟨.type "function",odI0,.func (aa9 "__init__" "NoWord.__init__" (dG fK) (bZ fK) (ai fK) .none kVI0 dcI0 pmI0 anI0 cdI0 ctI0),slI0⟩)
  (cI0:ah9 K cdI0 "NoWord.__init__"=true)
  (kI0:S5 K (.ref fI0)=true)
  (sC0:N8 K (.ref C0) "__setattr__"=some (some (.builtin "object.__setattr__")))
  (tC0:N8 K (.ref C0) "word"=some none)
  (hd0:ag8 K C0=true)
 :∃fd:K1,(∀(s:E2) (v:s0),ao4 s fd ⟨[v],[]⟩ [("_law_script",v)])/\∀base:I0,K.In base->base.Ns F9 mg->aO l.prog w K mg base CX0 9 fa fd ["_law_script"] (spD K 1 S_law):=by
 have T:Txt K mg:=⟨⟨_,O2 X G z_START,.inr ⟨_,_,_,w_START,⟨rfl,rfl⟩,rfl,szB 3,(.cons ⟨_,rfl⟩ (.cons ⟨_,rfl⟩ (.cons ⟨_,rfl⟩ .nil)))⟩⟩,M7 X G z_isinstance,M7 X G z_str,M7 X G z_all,M7 X G z_len,M7 X G z_enumerate,M7 X G z_tuple,M7 X G z_zip,M7 X G z_abs,M7 X G z_range,M7 X G z_divmod,M7 X G z_min,M7 X G z_dict,M7 X G z_ValueError,M7 X G z_sum,M7 X G z_max,M7 X G z_reversed,⟨_,O2 X G z_SMALL_LETTERS⟩,⟨_,O2 X G z_MOST_LETTERS⟩⟩;have Z:yx K C:=⟨⟨y1,y2,y3,y4⟩⟩;have Y:i3 K mg C0 W fI0:=⟨⟨O2 X G aC0,O2 X G aW,kC0,⟨_,_,_,_,_,_,_,_,_,_,_,_,_,_,lC0⟩,iC0,⟨_,_,_,_,_,_,_,_,_,lW,nW,hW⟩,sW,rW,fW,sC0,ig0,tC0⟩,⟨hd0,tC0⟩,O2 X G aW,al1 ⟨_,_,_,_,_,_,_,_,_,_,_,_,_,_,_,_,_,lC0,by simp⟩,⟨_,_,_,_,_,_,_,_,_,_,_,_,_,_,_,_,_,lW,by simp⟩,al1 ⟨ia0,ib0,ic0,id0,ie0,i4,i5,ig0⟩,ix1 kV0,⟨_,O2 X G a_NoText,ix1 k0_NoText⟩,⟨_,O2 X G a_NoStep,ix1 k0_NoStep⟩,⟨_,O2 X G a_NoWord,ix1 k0_NoWord⟩,⟨_,O2 X G a_NoNumber,ix1 k0_NoNumber⟩,⟨_,O2 X G a_NoDrawing,ix1 k0_NoDrawing⟩,⟨_,O2 X G a_NoWorld,ix1 k0_NoWorld⟩,⟨_,O2 X G a_NoLexicon,ix1 k0_NoLexicon⟩,⟨_,O2 X G a_NoRow,ix1 k0_NoRow⟩,⟨_,O2 X G a_NoKept,ix1 k0_NoKept⟩,⟨_,O2 X G a_WishError,ix1 k0_WishError⟩⟩;have FI0:=o9 (st:=fK) lI0 cI0 kI0;have hbI0:=bd2 FI0 fun _ _ _ _ _ _ _ _=>rfl;refine Bv X G hfa x31 (fun _ _ _ _ _ _ _=>rfl) fun base=>?_;have G8:=fg X G x0 (gx (P:=l.prog) (w:=w) (base:=base) x0.F T ) (bd1 x0.F fun _ _ _ _ _ _ _=>rfl);have G2:=fg X G x1 (ku (P:=l.prog) (w:=w) (base:=base) x1.F T ) (bd1 x1.F fun _ _ _ _ _ _ _=>rfl);have G5:=fg X G x2 (jb (P:=l.prog) (w:=w) (base:=base) x2.F T ) (bd1 x2.F fun _ _ _ _ _ _ _=>rfl);have G9:=fg X G x3 (gG (P:=l.prog) (w:=w) (base:=base) x3.F T ) (bd1 x3.F fun _ _ _ _ _ _ _=>rfl);have gb0:=fg X G x4 (su (P:=l.prog) (w:=w) (base:=base) x4.F T ) (bd2 x4.F fun _ _ _ _ _ _ _ _=>rfl);have G0:=fg X G x5 (rV (P:=l.prog) (w:=w) (base:=base) x5.F T ) (bd2 x5.F fun _ _ _ _ _ _ _ _=>rfl);have ga6:=fg X G x6 (pj (P:=l.prog) (w:=w) (base:=base) x6.F T ) (bd2 x6.F fun _ _ _ _ _ _ _ _=>rfl);have Y8:=fg X G x7 (mn (P:=l.prog) (w:=w) (base:=base) x7.F T ) (bd3 x7.F fun _ _ _ _ _ _ _ _ _=>rfl);have ga3:=fg X G x8 (oX (P:=l.prog) (w:=w) (base:=base) x8.F T ) (bd3 x8.F fun _ _ _ _ _ _ _ _ _=>rfl);have ga8:=fg X G x9 (sv (P:=l.prog) (w:=w) (base:=base) x9.F T Y ) (bd2 x9.F fun _ _ _ _ _ _ _ _=>rfl);have G4:=fg X G x10 (kK (P:=l.prog) (w:=w) (base:=base) x10.F T G8 G2) (bd2 x10.F fun _ _ _ _ _ _ _ _=>rfl);have ga0:MkD l.prog w K mg base "Chart" C 1 3 ie:=⟨_,_,_,⟨m1,m2,m3,m4⟩,pJ x11 T ,O2 X G m0,bd3 x11 fun _ _ _ _ _ _ _ _ _=>rfl⟩;have ga4:=fg X G x12 (pO (P:=l.prog) (w:=w) (base:=base) x12.F T G0) (bd1 x12.F fun _ _ _ _ _ _ _=>rfl);have ga5:=fg X G x13 (pQ (P:=l.prog) (w:=w) (base:=base) x13.F T G0) (bd2 x13.F fun _ _ _ _ _ _ _ _=>rfl);have G3:=fg X G x14 (sX (P:=l.prog) (w:=w) (base:=base) x14.F T G0) (bd3 x14.F fun _ _ _ _ _ _ _ _ _=>rfl);have Y6:=fg X G x15 (mO (P:=l.prog) (w:=w) (base:=base) x15.F T Y8 G0) (bd4 x15.F fun _ _ _ _ _ _ _ _ _ _=>rfl);have ga7:=fg X G x16 (pd (P:=l.prog) (w:=w) (base:=base) x16.F T G0) (bd2 x16.F fun _ _ _ _ _ _ _ _=>rfl);have Y9:=fg X G x17 (nq (P:=l.prog) (w:=w) (base:=base) x17.F T G0) (bd3 x17.F fun _ _ _ _ _ _ _ _ _=>rfl);have Y1:=fg X G x18 (ja (P:=l.prog) (w:=w) (base:=base) x18.F T G0) (bd2 x18.F fun _ _ _ _ _ _ _ _=>rfl);have g_q_kinds_of:=fg X G x19 (kR (P:=l.prog) (w:=w) (base:=base) x19.F T G4 G2) (bd2 x19.F fun _ _ _ _ _ _ _ _=>rfl);have G6:=fgY X G x19 (kO (P:=l.prog) (w:=w) (base:=base) x19.F T Y (vb FI0 Y.p0) hbI0 ⟨_,lI0,rfl⟩ G4 G2) (bd2 x19.F fun _ _ _ _ _ _ _ _=>rfl);have Y3:=fg X G x20 (jr (P:=l.prog) (w:=w) (base:=base) x20.F T G0 G3 Y6) (bd5 x20.F fun _ _ _ _ _ _ _ _ _ _ _=>rfl);have G7:=fgY X G x21 (eX (P:=l.prog) (w:=w) (base:=base) x21.F T Y G6) (bd2 x21.F fun _ _ _ _ _ _ _ _=>rfl);have g_q_signs_of:=fg X G x22 (kG (P:=l.prog) (w:=w) (base:=base) x22.F T g_q_kinds_of G5) (bd3 x22.F fun _ _ _ _ _ _ _ _ _=>rfl);have Y5:=fgY X G x22 (kM (P:=l.prog) (w:=w) (base:=base) x22.F T Y G6 G5) (bd3 x22.F fun _ _ _ _ _ _ _ _ _=>rfl);have Y7:=fg X G x23 (mL (P:=l.prog) (w:=w) (base:=base) x23.F T ga4 ga5 ga6 G0 Y3 G3 ga7 Y9) (bd3 x23.F fun _ _ _ _ _ _ _ _ _=>rfl);have G1:=fgY X G x24 (kn (P:=l.prog) (w:=w) (base:=base) x24.F T Y ga0 G7) (bd2 x24.F fun _ _ _ _ _ _ _ _=>rfl);have Y4:=fgY X G x25 (kQ (P:=l.prog) (w:=w) (base:=base) x25.F T Y G1) (bd2 x25.F fun _ _ _ _ _ _ _ _=>rfl);have ga9:=fgY X G x26 (sI (P:=l.prog) (w:=w) (base:=base) x26.F T Y G9 G1) (bd2 x26.F fun _ _ _ _ _ _ _ _=>rfl);have Y0:=fgY X G x27 (iR (P:=l.prog) (w:=w) (base:=base) x27.F T Y G1) (bd3 x27.F fun _ _ _ _ _ _ _ _ _=>rfl);have Y2:=fgY X G x28 (j6 (P:=l.prog) (w:=w) (base:=base) x28.F T Y G1) (bd3 x28.F fun _ _ _ _ _ _ _ _ _=>rfl);have ga2:=fg X G x29 (pF (P:=l.prog) (w:=w) (base:=base) x29.F T Y Y5 Y4 ga9 Y0 Y2) (bd3 x29.F fun _ _ _ _ _ _ _ _ _=>rfl);have ga1:=fg X G x30 (o3 (P:=l.prog) (w:=w) (base:=base) x30.F T Y Y7 G0 Y1 g_q_signs_of ga3 ga2 ga8) (bd1 x30.F fun _ _ _ _ _ _ _=>rfl);exact zD x31.F T ga1 gb0
end My
namespace PySem.W.Fast
def tw10022568594695141983:=Nat
def tw10051818781699684262:=Nat
def tw10065246158350793007:=Nat
def tw10074598552676748331:=Nat
def tw10139027500737692553:=Nat
def tw10144817632853026177:=Nat
def tw10155668349693537552:=Nat
def tw1027861169777933509:=Nat
def tw10325007913221769812:=Nat
def tw10346000216520361122:=Nat
def tw10352311923169403892:=Nat
def tw10380408895532005365:=Nat
def tw10382591719583404436:=Nat
def tw10425065973945876338:=Nat
def tw10437867217362826005:=Nat
def tw10511569090890477186:=Nat
def tw10539869080545856391:=Nat
def tw10581837732902266360:=Nat
def tw10611494724015273635:=Nat
def tw10677812043719001058:=Nat
def tw10700553954869458272:=Nat
def tw10704781780745524268:=Nat
def tw10708877145706366373:=Nat
def tw10814302255077946088:=Nat
def tw1081726127166837701:=Nat
def tw10875737715934164682:=Nat
def tw10876102506948305679:=Nat
def tw11003356788444430850:=Nat
def tw11036855413019388392:=Nat
def tw11071662050915665072:=Nat
def tw11087194765780767046:=Nat
def tw11242077644875012864:=Nat
def tw1125203100572213922:=Nat
def tw11305484915720807667:=Nat
def tw11308384300405711181:=Nat
def tw11335132424784502574:=Nat
def tw11341985333118132527:=Nat
def tw11377776055261439121:=Nat
def tw11455148950081548739:=Nat
def tw11469277744746624996:=Nat
def tw11474554784261711677:=Nat
def tw1150512828024690813:=Nat
def tw11544413500143053476:=Nat
def tw11553011031665601529:=Nat
def tw1161738355140956561:=Nat
def tw11624083258116481593:=Nat
def tw11706944726516823183:=Nat
def tw11728071535797551659:=Nat
def tw11732181521555241179:=Nat
def tw11845445670874168327:=Nat
def tw11949757230347764644:=Nat
def tw11966263442162745242:=Nat
def tw12062442797407808642:=Nat
def tw12214650236194128128:=Nat
def tw12269409713579582892:=Nat
def tw12323428563688282061:=Nat
def tw12335636442510964985:=Nat
def tw12359799853735538780:=Nat
def tw12366794730280270482:=Nat
def tw12384768983765916399:=Nat
def tw1238895863828984270:=Nat
def tw12464584634627619605:=Nat
def tw1250287654444447246:=Nat
def tw12624881915922471978:=Nat
def tw12668498874936781878:=Nat
def tw12682129583544184294:=Nat
def tw12888229795674723992:=Nat
def tw13010400976186052748:=Nat
def tw13050795611432328980:=Nat
def tw13063414275671971755:=Nat
def tw13072834386135255983:=Nat
def tw13093539651798734028:=Nat
def tw13160081834841199712:=Nat
def tw13227293398526664842:=Nat
def tw13236787341755711260:=Nat
def tw13348734895305082941:=Nat
def tw13433875530625835102:=Nat
def tw13435567002394667068:=Nat
def tw13437481620753793912:=Nat
def tw13463911514610951091:=Nat
def tw13539105078687292916:=Nat
def tw13585565169575872779:=Nat
def tw13684226169093021735:=Nat
def tw13705962605712566877:=Nat
def tw13717305771859237232:=Nat
def tw13739056960908452890:=Nat
def tw13820684781226193793:=Nat
def tw13838793654904738190:=Nat
def tw13850191840398381094:=Nat
def tw13883020380519279103:=Nat
def tw13900744324835189884:=Nat
def tw13925614648491533798:=Nat
def tw13952439901194506267:=Nat
def tw13983104247405062090:=Nat
def tw14025114753524441224:=Nat
def tw14102903958875837964:=Nat
def tw14172088289461956516:=Nat
def tw14242183187184319616:=Nat
def tw14311140703209718153:=Nat
def tw1432636304366943664:=Nat
def tw14351022658481037155:=Nat
def tw1435809216472578802:=Nat
def tw14373877878168973438:=Nat
def tw14374401541138973363:=Nat
def tw14406109170103344861:=Nat
def tw14473604062377703833:=Nat
def tw14508010005634195929:=Nat
def tw14553566824570485209:=Nat
def tw14564765701281734427:=Nat
def tw14597372772750567323:=Nat
def tw14636378503763156582:=Nat
def tw14667659739970341200:=Nat
def tw14685199891562263897:=Nat
def tw14707738787845183219:=Nat
def tw14721967762175898570:=Nat
def tw14724373790086170065:=Nat
def tw14730605750825329672:=Nat
def tw14805929237449548344:=Nat
def tw14822525632451971544:=Nat
def tw14847676599659639656:=Nat
def tw1484882169690175911:=Nat
def tw14877655202494691198:=Nat
def tw14901033371271612094:=Nat
def tw14902438928718062102:=Nat
def tw15018823886708501779:=Nat
def tw15036187643159173795:=Nat
def tw15040109420753360527:=Nat
def tw15064843155442914687:=Nat
def tw15142537984027142687:=Nat
def tw15191691847282258684:=Nat
def tw1523743368270985676:=Nat
def tw15282599947565164156:=Nat
def tw15301396438867787264:=Nat
def tw15304058038426531278:=Nat
def tw1532715058543429449:=Nat
def tw1535789117276258477:=Nat
def tw15387631685906772704:=Nat
def tw15462480581454382529:=Nat
def tw15510425225656849501:=Nat
def tw15543527177088312952:=Nat
def tw15592451186147336459:=Nat
def tw15616622384468856327:=Nat
def tw1569333712857482939:=Nat
def tw15699450276632427770:=Nat
def tw15705827677033976021:=Nat
def tw15709817469955146998:=Nat
def tw15717087670103763603:=Nat
def tw15856584165192662724:=Nat
def tw15860229071075521129:=Nat
def tw15890040628182955086:=Nat
def tw15898751746606054389:=Nat
def tw1590155439675568138:=Nat
def tw15910362502485796127:=Nat
def tw15954996894446728904:=Nat
def tw16098263198692106665:=Nat
def tw16103505149565795841:=Nat
def tw16111333287815265149:=Nat
def tw16126815217250051016:=Nat
def tw1615849889275017221:=Nat
def tw16223496460075806982:=Nat
def tw16226384318628632343:=Nat
def tw16240487850007451332:=Nat
def tw16253877389894925083:=Nat
def tw16287122914270651587:=Nat
def tw1634187253007616089:=Nat
def tw16411172131985472908:=Nat
def tw16414685107463055562:=Nat
def tw16436898872116365500:=Nat
def tw16556137993404861978:=Nat
def tw16576711768873444640:=Nat
def tw16594981377650796329:=Nat
def tw16606832042948099859:=Nat
def tw16621449493511431745:=Nat
def tw16705541092933071330:=Nat
def tw16835408556199038930:=Nat
def tw16856875633305468769:=Nat
def tw16859624246839378154:=Nat
def tw16860399096964400002:=Nat
def tw16870220772026693088:=Nat
def tw16904669180426049312:=Nat
def tw16995980902973374078:=Nat
def tw17003719557495799144:=Nat
def tw17057580848038550408:=Nat
def tw17161596999582983248:=Nat
def tw17211808414009372014:=Nat
def tw17271324927623906634:=Nat
def tw17296456498192221458:=Nat
def tw17297205345917923534:=Nat
def tw17346049725828450854:=Nat
def tw17386278674582996039:=Nat
def tw17512034859753424505:=Nat
def tw17568362053035676330:=Nat
def tw17595776682625873751:=Nat
def tw17718274087512241973:=Nat
def tw177582609212749382:=Nat
def tw17853584051678171821:=Nat
def tw179365741741216706:=Nat
def tw1798417549379693553:=Nat
def tw18055337788552210236:=Nat
def tw18088772179672364344:=Nat
def tw18117528156760889199:=Nat
def tw18138314261521243220:=Nat
def tw18218929751789235193:=Nat
def tw18284589016844284188:=Nat
def tw18298495716924630708:=Nat
def tw18328869178931983617:=Nat
def tw18402949859304559630:=Nat
def tw1920724024449759963:=Nat
def tw1920908231238715730:=Nat
def tw1969111943240343093:=Nat
def tw198010231762444642:=Nat
def tw2001586171973081668:=Nat
def tw2041518289762648523:=Nat
def tw2064032785093608257:=Nat
def tw2066874100010244580:=Nat
def tw2078628820381419593:=Nat
def tw2160622911117390865:=Nat
def tw2239555747131003365:=Nat
def tw2239759117214867888:=Nat
def tw2244592706339690188:=Nat
def tw2257873826554739301:=Nat
def tw2312770970700114463:=Nat
def tw240042889932808150:=Nat
def tw2554910538977999818:=Nat
def tw260460610033286006:=Nat
def tw2609132223195044979:=Nat
def tw2671088490438505260:=Nat
def tw2752850585006408348:=Nat
def tw2754907877118746867:=Nat
def tw2767645379739604100:=Nat
def tw2783125354056057201:=Nat
def tw2828252439316265255:=Nat
def tw2866741245645279576:=Nat
def tw2867152142794215865:=Nat
def tw2891958367943250541:=Nat
def tw2893647096154388966:=Nat
def tw299603376169525325:=Nat
def tw3028644140062399485:=Nat
def tw3199764110919226262:=Nat
def tw3285277467195334282:=Nat
def tw3314810883784111549:=Nat
def tw3343341218055436568:=Nat
def tw3385439736998017868:=Nat
def tw3395352499994897686:=Nat
def tw3568791133785526339:=Nat
def tw3582250285331032022:=Nat
def tw3597985955404113054:=Nat
def tw3611039825014825281:=Nat
def tw3634403306516125899:=Nat
def tw3709496953118788218:=Nat
def tw3735711497865996737:=Nat
def tw3741982624392601799:=Nat
def tw3752294892064486813:=Nat
def tw3753416146712911158:=Nat
def tw3755544763536595018:=Nat
def tw3903585929122506154:=Nat
def tw3977654498642894055:=Nat
def tw4138984283407612890:=Nat
def tw4194536761438315052:=Nat
def tw4235913518883943129:=Nat
def tw4258938679792820097:=Nat
def tw4293757784440479942:=Nat
def tw4487887744129131173:=Nat
def tw4521940257059273071:=Nat
def tw4545688491906676529:=Nat
def tw4574096424610595140:=Nat
def tw4615516332233133370:=Nat
def tw4649953479979528624:=Nat
def tw4692834541896160484:=Nat
def tw4748706177246350485:=Nat
def tw4795678263872078241:=Nat
def tw4799871104839794991:=Nat
def tw4832024029202472282:=Nat
def tw4871994887135304962:=Nat
def tw4924194728728715712:=Nat
def tw4948552405423790656:=Nat
def tw4962485703289866308:=Nat
def tw4998314787730238819:=Nat
def tw5001631565686293158:=Nat
def tw5004682305134230185:=Nat
def tw5104604661380601031:=Nat
def tw5178045073326399208:=Nat
def tw5184522425470500609:=Nat
def tw5310620042286929207:=Nat
def tw5416339327651132393:=Nat
def tw5485189043520448650:=Nat
def tw5485669245801242186:=Nat
def tw552232463375172244:=Nat
def tw5594168225689911714:=Nat
def tw5605897102575710529:=Nat
def tw5627301100288928872:=Nat
def tw5681926734164878204:=Nat
def tw5689848638448975346:=Nat
def tw5729735908269310508:=Nat
def tw57896383811599858:=Nat
def tw585883352064595584:=Nat
def tw5871138490230558138:=Nat
def tw5897512950537079339:=Nat
def tw5987442765569001707:=Nat
def tw6010902276745345154:=Nat
def tw606081399599260822:=Nat
def tw6147506089931010589:=Nat
def tw6194569706112958992:=Nat
def tw6210005221089155484:=Nat
def tw6241214505849695803:=Nat
def tw6258674978611235204:=Nat
def tw6301203407103767154:=Nat
def tw6302310258027590120:=Nat
def tw6383204907270590060:=Nat
def tw6433851120936172654:=Nat
def tw6469441808703509358:=Nat
def tw6473218841131631355:=Nat
def tw6544474164853962264:=Nat
def tw6621652891604795644:=Nat
def tw6656681994462060108:=Nat
def tw6669290334468284824:=Nat
def tw6713994810891958101:=Nat
def tw6728971483250779217:=Nat
def tw6780894453642176797:=Nat
def tw6797739305210306291:=Nat
def tw6808169123399470218:=Nat
def tw6824812539897003274:=Nat
def tw6884363608563941360:=Nat
def tw6910592578494809981:=Nat
def tw6934164590752787640:=Nat
def tw6949481117996013083:=Nat
def tw6961557517069384628:=Nat
def tw6999108119480125337:=Nat
def tw701977616570031601:=Nat
def tw709703922708754096:=Nat
def tw7132950319997487967:=Nat
def tw7235618262346903627:=Nat
def tw727074733359248754:=Nat
def tw736201021879728449:=Nat
def tw7388365413170876091:=Nat
def tw7398123344442048847:=Nat
def tw740974023986293492:=Nat
def tw7426124668886093528:=Nat
def tw7448363083147845259:=Nat
def tw7493102554008974138:=Nat
def tw7561357250694794310:=Nat
def tw7615863724268745847:=Nat
def tw762771328491634135:=Nat
def tw7821925473395837073:=Nat
def tw7844262077527735423:=Nat
def tw7856792404164557544:=Nat
def tw8032204976656182254:=Nat
def tw8059110911607704549:=Nat
def tw8096694998384721288:=Nat
def tw8134093399043019057:=Nat
def tw813915924153097454:=Nat
def tw8208051816659512338:=Nat
def tw8255546000626952836:=Nat
def tw830938898402429478:=Nat
def tw8331014473459288632:=Nat
def tw8340211731116055844:=Nat
def tw840208427721833843:=Nat
def tw8446905892344610100:=Nat
def tw8464052547706496453:=Nat
def tw8467785899018703738:=Nat
def tw8694152344408595418:=Nat
def tw8755947793895928462:=Nat
def tw8811154959589340275:=Nat
def tw8850303103159373394:=Nat
def tw8866942949157752101:=Nat
def tw8904047222606541688:=Nat
def tw8905448979301655332:=Nat
def tw9010685303924690741:=Nat
def tw9010725227752933533:=Nat
def tw908489639009724175:=Nat
def tw9210612058808151244:=Nat
def tw9245574566690232772:=Nat
def tw9253888390035979355:=Nat
def tw9360974610310459090:=Nat
def tw9363183381504618218:=Nat
def tw9464880831057264889:=Nat
def tw95981197306191428:=Nat
def tw9662303612379269004:=Nat
def tw9663258248412546060:=Nat
def tw9722587980421959406:=Nat
def tw9734872577027864427:=Nat
def tw978781269650214782:=Nat
def tw9821579754994420540:=Nat
def tw9846135936052762739:=Nat
def tw9864162535690172002:=Nat
def tw9891806711042737078:=Nat
end PySem.W.Fast
open PySem PySem.W PyProof.Rows
set_option maxRecDepth 100000 in
set_option maxHeartbeats 0 in
theorem PySem.Challenge.cw_wordwishes_k21_signs_of_choices_holds : PySem.Challenge.rw_wordwishes_k21_signs_of_choices.Holds := by
 w_on;o_law;z_head;(case hw=>w_witness2)
 k_fill
 refine L2.vD (fun _=>rfl) ?_;refine L2.Cj (S:=My.S_law) My.Cv (k:=9) (x:="_law_script") (l:=PySem.Challenge.rw_wordwishes_k21_signs_of_choices) ⟨rfl,by decide,by decide⟩ rfl rfl (fun w h Y=>Y) ?F
 case F =>
  intro w mg fa h KX G hmg
  refine' My.AF KX G hmg ?_ ?_ ?_ ?_ ?_ ?_ ?_ ?_ ?_ ?_ ?_ ?_ ?_ ?_ ?_ ?_ ?_ ?_ ?_ ?_ ?_ ?_ ?_ ?_ ?_ ?_ ?_ ?_ ?_ ?_ ?_ ?_ ?_ ?_ ?_ ?_ ?_ ?_ ?_ ?_ ?_ ?_ ?_ ?_ ?_ ?_ ?_ ?_ ?_ ?_ ?_ ?_ ?_ ?_ ?_ ?_ ?_ ?_ ?_ ?_ ?_ ?_ ?_ ?_ ?_ ?_ ?_ ?_ ?_ ?_ ?_ ?_ ?_ ?_ ?_ ?_ ?_ ?_ ?_ ?_ ?_ ?_ ?_ ?_ ?_ ?_ ?_ ?_ ?_ ?_ ?_ ?_ ?_ ?_ ?_ ?_ ?_ ?_ ?_ ?_ ?_ ?_ ?_ ?_ ?_ ?_ ?_
  all_goals try first|exact L2.Ck (by k_is) (by k_is) (by k_is) (by k_is)|exact L2.o9 (by k_is) (by k_is) (by k_is)|k_is|exact rfl
