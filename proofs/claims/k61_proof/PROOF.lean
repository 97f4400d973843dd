import PyProof.Rows.All
import Wide.All
import OpenK.AllK
import Wide.FinOn
import Lean
import PyProof.EqAt
import PyProof.EqKinds
import PyProof.TupleCall
import KE.KRevIter
import PyProof.NeKinds
import PyProof.Draws
import PyProof.EnumMake
import KE.KSortTup
import PyProof.ZipIter
import KE.KDictList
import PyProof.AttrMissHeap
import KE.KDictOf
import PyProof.Rows.SetFrom
import PyProof.Rows.SortRunsK
import PyProof.IsRules
import PyProof.SetRoads
import KE.KSortKey
import PyProof.RulesDel
import PyProof.DelItemList
import PySem.Challenge.RW_wordwishes_k61_drawings_judged
set_option Elab.async false
set_option linter.all false
set_option maxRecDepth 100000
set_option maxHeartbeats 4000000
set_option bootstrap.genMatcherCode false
set_option compiler.extract_closed false
noncomputable section
open PySem renaming wpAny_bind->o0,Value->J0,wpAny_pure->J3,Shared->J4,sizeLine->J7,Addr->K4,starEach->K8,mainGlobals->K9,wpAny->L3,FuncData->L4,Builtin->L6,Heap->N0,Program->N4,Expr->N8,model->N9,Spec->P1,SetTable->P2,Around->P5,compareOp->Q0,foldedSetIterable->R3,PassesOwn->R8,World->S2,wpAny_newObj_type->S7,wpAny_mono->T5,wpAny_holding->U4,NameKind->U6,mem_of_lookup->U7,wpAny_field->U8,wpAny_truthy_bool->V5,wpAny_callSpecial?_slot->V7,codeAny_builtin->W3,wpAny_pyIter_list->W7,wpAny_call_entry->X4,behindInMarks->Z3,assignEach->Z8,binaryOp->Z9,wpAny_Call_Name_kw->aa0,wpAny_pyIter_tuple->aa2,Stmt->aa6,wpAny_seqItems->aa7,Paired->aa9,backTo->ab1,bootBuiltins->ab8,wpAny_setField_rec->ac3,cLine->ac8,sysModules->ac9,wpAny_passesOwn->ad0,wpAny_setState_of->ad6,eval->ad7,codeAny_mono->ad8,attributeBase->ae3,wpAny_getItem_str_slice->ae4,wpAny_rule->ae9,sizeLine_eq->af1,wpAny_loadPart'->af3,scanBound->af7,Scope->af8,plainId_quiet->ag4,IsPair->ah2,wpAny_forIn_list->ah5,codeAny->ah7,valueAt->ah9,wpAny_typeOf->ai1,call_meets->ai2,letOwnedTupleGo->ai6,tupleKind_room_in1->ai8,wpAny_specialOf->ai9,sliceBounds->aj2,wpAny_storeSet_of->aj5,fits_of_scanBound->aj6,swapsWith->ak2,Comprehension->ak8,wpAny_onRaise->ak9,wpAny_execs_nil->al2,getItem->al4,keywordEach->al5,Keyword->al6,codeAny_of_tree->al8,post_val_or_str->am0,pyNext->an1,GenState->an6,wpAny_standAt->an9,relayAll->ao0,setSearchFrom->ao2,CmpOp->ao3,assign->ao4,setAddHashed->ao6,typeIs_int->ap0,pyIter->ap2,subscripted->ap5,callerA->ap6,unsupported->ap8,IsZip->ap9,tupleKind->aq1,IsPart->aq2,backToKw->aq3,ZipApart->aq4,holding->aq5,BindsTo->aq6,strKind_is->ar0,Operator->ar1,compEnvC->ar2,standAt->ar5,inplaceOp->ar6,rawInt->ar7,lastMarks->ar8,Result->ar9,cellsFrom->as0,seqIndex?->as1,DictEntry->as3,seqItems?->as5,putSet_of->as6
open List renaming length_map->u8,getElem?_eq_getElem->J1,size_toArray->J8,length_append->J9,mem_singleton->K0,mem_append->K1,map_cons->K2,getElem?_eq_some_iff->K3,mem_cons->L5,getElem?_map->L8,replicate->M7,mem_of_getElem?->M9,length_take->N2,nil_append->N5,getD_eq_getElem?_getD->N6,mem_map->N7,map_append->O1,range->O2,length_cons->O3,all_eq_true->O4,filter_eq_self->O5,mem_cons_of_mem->O6,mem_append_right->O8,not_mem_nil->P0,getElem?_append_left->P3,lookup_cons->P6,getElem_mem->P7,mem_range->P8,map_map->Q7,mem_cons_self->R4,filterMap_cons->R5,getElem?_cons_succ->S0,length_pos_iff->S5,take_add_one->S8,getElem?_eq_none->T4,length->T6,mem_append_left->U0,mem_iff_getElem->U1,take_of_length_le->U3,cons->V0,any_eq_true->V2,filter_cons->V3,all_map->V9,zip_cons_cons->W0,take_length->W5,getElem?_cons_zero->W9,length_drop->X1,getElem?_append_right->X5,replicate_succ->X9,flatMap_cons->Z1,any_cons->Z4,drop_eq_getElem_cons->Z6,length_nil->Z7,getElem?_take_of_lt->aa1,mem_of_mem_take->aa4,nodup_append->aa8,find?_cons->ab2,map_congr_left->ab3,getElem?_set_self->ab4,mem_filterMap->ac0,all_cons->ac1,pairwise_iff_getElem->ac6,append_nil->ad1,flatten_cons->ad2,getElem?_replicate->ae2,drop_eq_nil_of_le->af0,nodup_cons->af2,foldl_cons->af4,mem_iff_getElem?->af5,filterMap_append->af6,ext_getElem?->ag1,length_range->ag3,getElem?_set_ne->ag8,getElem?_append->ah0,length_flatMap->ai0,map_nil->ai3,reverse_cons->aj3,append_assoc->aj4,pairwise_map->aj7,perm_middle->ak6,of_mem_zip->al3,zip_append->am5,map->am8,Perm->an2,Pairwise->an8,any_map->ao9,lookup->ap7,foldl->aq8
open PySem.W renaming Frag->H0,nsIn->M0,mg_none_of->O7,mg_of->Q8,keepIn->ac5,fnOf->ad9,codeIn->ah1
open PySem.Heap renaming get?_push_of_some->I0,get?_push_size->K6,lt_size->K7,SameBut->Q9,size_push->V1
open Bool renaming false_eq_true->J5,and_eq_true->N1,eq_iff_iff->Q4,false_ne_true->R9,false_and->S4,true_and->U5,not_true->ac4,not_eq_true'->ad5,and_true->ag5,and_self->ag7,false_xor->ah3,not_false->aj8,and_false->an0
open Nat renaming le_refl->J6,lt_of_lt_of_le->K5,ne_of_lt->L7,zero_le->Q5,lt_or_ge->R1,le_trans->R6,lt_succ_of_lt->V8,ne_of_gt->ab9,lt_irrefl->ae0,lt_succ_self->ae8,le_add_right->ah4,le_succ->ah8,pow_succ->ai5,mul_comm->ak3,lt_trans->ak4,mod_lt->al1,min_eq_left->am4,le_of_lt->am6,add_assoc->ao1,succ_pos->ao7,sub_self->ao8,pow_add->aq0
open Array renaming length_toList->L1,getElem?_eq_getElem->R0,getD_eq_getD_getElem?->S9,getElem?_toList->T0,getElem?_eq_some_iff->X7,getD->aa3,getElem?_setIfInBounds->aa5,forIn_toList->aj1,replicate->am3
open Or renaming inl->L9,inr->ak7
open PySem.PassesOwn renaming never->N3
open List.cons renaming injEq->O0
open PyProof.Rows renaming slot_tuple_getitem->O9,callWith_type1->S6,KeyOrd->ac2,IsTup->ak1,kindOf->am7,slicePart_none->am9,seqObj->an3,AllBare->an5,tupleItemsOf_->an7,envOfC->ap3,Subscript_->aq7,SortKind->ar3,IntsAre->as2
open PySem.F renaming called_set->P4,slot_tuple_iterator_next->ab6,plainAttrs_list->ae6,slot_tuple_hash->ag6,slot_int_rmul->al7,slot_zip_next->am1
open PySem.Builtin.Tuple renaming tupleExact->P9,tupleHashOf->T9,tupleItemsOf->X6
open PySem.Builtin.SmallTypes renaming nextOf->Q6,ownedTupleIsFree->W6
open Option.some renaming inj->R7,injEq->ad3
open Int renaming emod_lt_of_pos->S1,emod_nonneg->T7,toNat_natCast->V6,eq_ofNat_of_zero_le->ae5
open Option renaming some->S3
open PySem.Builtin.Slice renaming slicePlaces->T8,sliceApplied->ab5
open PySem.Around renaming under_plainId->U2
open PySem.Str renaming ofString->U9
open PySem.SeqAt renaming EqAt->V4
open PySem.Value renaming ref->W1,none->X8,int->ak0,type->al0,str->ar4
open Classical renaming byContradiction->W4
open ForInStep renaming yield->W8
open PyProof.Rows.F renaming plain_set_update_loop->X0,entry_set_update_loop->ae7
open PySem.Heap.SameBut renaming update->Z0
open PySem.NameKind renaming free->Z5,cell->aj0
open Ne renaming symm->ab0
open False renaming elim->ab7
open PySem.SetTable renaming grown->ac7,fresh->aj9
open PyProof.Rows.KeyOrd renaming kle_refl->ad4,kle_of_klt->ag2,kle_trans->ak5
open PySem.Builtin.Str renaming occurrences->ae1
open PySem.Calls renaming spliced_nil->af9,spliced_cons->ai7
open PySem.Code renaming compLoop->ag0
open Pure renaming pure->ag9
open Sum renaming inr->ah6,inl->ap4
open PySem.Obj renaming putSet->ai4,mapSeq->ap1
open PySem.Txt renaming slice->al9,slice_le->ao5
open PySem.Shared renaming heap->am2
open PySem.Paired renaming length->an4
open True renaming intro->aq9
open LawfulMonad renaming pure_bind->as4
set_option compiler.extract_closed false
namespace L2
open PySem PySem.Spec PyProof.Rows
abbrev Key:=Sum Int Str
def p7:Key->J0->Bool
 |.inl k,v=>J0.isInt k v
 |.inr x,v=>J0.isStrOf x v
noncomputable def oM(w:S2):Key->Int
 |.inl k=>hashInt k
 |.inr x=>hashStr w x
theorem bN:∀{k:Key}{v:J0},p7 k v=true->(∃i t,k=ap4 i/\v=ak0 i t)∨(∃x t,k=ah6 x/\v=ar4 x t)
 |.inl i,v,h=>by
  obtain⟨t,e⟩:=J0.isInt_shape (k:=i) (v:=v) h;exact .inl ⟨i,t,rfl,e⟩
 |.inr x,v,h=>by
  obtain⟨t,e⟩:=J0.isStrOf_shape (x:=x) (v:=v) h;exact .inr ⟨x,t,rfl,e⟩
theorem we(i:Int)(t:Tok):p7 (.inl i) (.int i t)=true:=by simp[p7,J0.isInt]
theorem wF(x:Str)(t:Tok):p7 (.inr x) (.str x t)=true:=by simp[p7,J0.isStrOf]
theorem D8(a b:Int):decide ((ap4 a:Key)=ap4 b)=(a==b):=by
 by_cases e:a=b
 ·subst e;simp
 ·have h:¬ (ap4 a:Key)=ap4 b:=λq=>e (ap4.inj q);rw[decide_eq_false h];exact(beq_eq_false_iff_ne.mpr e).symm
theorem Dm(a b:Str):decide ((ah6 a:Key)=ah6 b)=decide (a=b):=by
 by_cases e:a=b
 ·subst e;simp
 ·have h:¬ (ah6 a:Key)=ah6 b:=λq=>e (ah6.inj q);rw[decide_eq_false h,decide_eq_false e]
theorem DB(a:Int)(b:Str):decide ((ap4 a:Key)=ah6 b)=false:=decide_eq_false (λq=>nomatch q)
theorem Er(a:Str)(b:Int):decide ((ah6 a:Key)=ap4 b)=false:=decide_eq_false (λq=>nomatch q)
def bB(prog:N4)(w:S2):PySem.KeyKind prog w Key where
 is:=p7
 hash:=oM w
 inj:=λv a b ha hb=>by
  rcases bN ha with⟨i,t,rfl,rfl⟩|⟨x,t,rfl,rfl⟩
  ·rcases bN hb with⟨j,u,rfl,e⟩|⟨y,u,rfl,e⟩
   ·injection e with e1 _;rw[e1]
   ·exact nomatch e
  ·rcases bN hb with⟨j,u,rfl,e⟩|⟨y,u,rfl,e⟩
   ·exact nomatch e
   ·injection e with e1 _;rw[e1]
 byValue:=λk v h=>by
  rcases bN h with⟨i,t,rfl,rfl⟩|⟨x,t,rfl,rfl⟩<;>rfl
 pyHash:=λhv h=>by
  rcases bN hv with⟨i,t,rfl,rfl⟩|⟨x,t,rfl,rfl⟩
  ·exact wpAny_pyHash_int h
  ·exact wpAny_pyHash_str h
 eqBool:=λhu hv h=>by
  rcases bN hu with⟨i,t,rfl,rfl⟩|⟨x,t,rfl,rfl⟩
  ·rcases bN hv with⟨j,u,rfl,rfl⟩|⟨y,u,rfl,rfl⟩
   ·rw[D8]at h;exact wpAny_eqBool_int h
   ·rw[DB]at h;exact V4.int_str i t y u _ _ _ _ h
  ·rcases bN hv with⟨j,u,rfl,rfl⟩|⟨y,u,rfl,rfl⟩
   ·rw[Er]at h;exact V4.str_int x t j u _ _ _ _ h
   ·rw[Dm]at h;exact wpAny_eqBool_str h
 «strs»:=λk x t v h=>by
  rcases bN h with⟨i,u,rfl,e⟩|⟨y,u,rfl,e⟩
  ·exact nomatch e
  ·injection e with e1 _
   subst e1;cases v<;>rfl
theorem rD(prog:N4)(w:S2)(i:Int)(t:Tok):(bB prog w).is (.inl i) (.int i t)=true:=we i t
theorem tm(prog:N4)(w:S2)(x:Str)(t:Tok):(bB prog w).is (.inr x) (.str x t)=true:=wF x t
inductive V where
 |non|bl (b:Bool)|int (i:Int)|str (x:Str)|byt (b:Array UInt8)|flt (b:UInt64)|ref (a:K4)|ty (n:String)
 deriving DecidableEq
def aL:V->J0->Prop
 |.non,u=>u=X8
 |.bl b,u=>u=J0.bool b
 |.int i,u=>∃t,u=ak0 i t
 |.str x,u=>∃t,u=ar4 x t
 |.byt b,u=>∃t,u=J0.bytes b t
 |.flt b,u=>∃t,u=J0.float b t
 |.ref a,u=>u=W1 a
 |.ty n,u=>u=al0 n
abbrev ay:List V->List J0->Prop:=aa9 aL
theorem ay.length{xs:List V}{us:List J0}(r:ay xs us):xs.length=us.length:=an4 r
theorem ay.get:∀{xs:List V}{us:List J0}{i:Nat}{x:V},ay xs us->xs[i]?=some x->∃u,us[i]?=some u/\aL x u
 |_,_,_,_,.nil,e=>by simp at e
 |_,_,0,_,.cons r _,e=>by simp at e;subst e;exact⟨_,rfl,r⟩
 |_,_,i+1,x,.cons _ t,e=>by
  obtain⟨u,h1,h2⟩:=ay.get (i:=i) (x:=x) t (by simpa using e);exact⟨u,by simpa using h1,h2⟩
theorem ay.set{x:V}{u:J0}(r:aL x u):∀{xs:List V}{us:List J0}(i:Nat),ay xs us->ay (xs.set i x) (us.set i u)
 |_,_,_,.nil=>.nil
 |_,_,0,.cons _ t=>.cons r t
 |_,_,i+1,.cons q t=>.cons q (ay.set r i t)
theorem ay.append:∀{xs ys:List V}{us ws:List J0},ay xs us->ay ys ws->ay (xs++ys) (us++ws)
 |_,_,_,_,.nil,s=>s
 |_,_,_,_,.cons r t,s=>.cons r (ay.append t s)
theorem ay.take:∀{xs:List V}{us:List J0}(n:Nat),ay xs us->ay (xs.take n) (us.take n)
 |_,_,0,_=>.nil
 |_,_,_+1,.nil=>.nil
 |_,_,n+1,.cons r t=>.cons r (ay.take n t)
theorem ay.drop:∀{xs:List V}{us:List J0}(n:Nat),ay xs us->ay (xs.drop n) (us.drop n)
 |_,_,0,r=>r
 |_,_,_+1,.nil=>.nil
 |_,_,n+1,.cons _ t=>ay.drop n t
def l8:Option V->Option J0->Prop
 |some v,some u=>aL v u
 |none,none=>True
 |_,_=>False
def KV{κ:Type}:List (κ×V)->List (κ×J0)->Prop:=aa9 λ(p:κ×V) (q:κ×J0)=>p.1=q.1/\aL p.2 q.2
def kV:Key->V
 |.inl i=>.int i
 |.inr x=>.str x
inductive HO where
 |lst (xs:List V)
 |tup (xs:List V)
 |dK (kvs:List (Key×V))|dT (kvs:List (List Key×V))
 |set (S:Int->Bool) (n:Nat)
 |ins (C dx:K4) (fs:List (Str×V))
 |own (x:K4)
 |xd (fs:List (Str×V))
 |met (f x:K4)
 |rng (lo hi:Int)
 |frz (o:Obj) (u:HO)
 |tbl (ps:Array J0)
 |ext (φ:N0->Prop)
abbrev Hp:=K4->Option HO
def upd(H:Hp)(a:K4)(o:HO):Hp:=λb=>if b=a then some o else H b
theorem bx{H:Hp}{a:K4}{o:HO}:upd H a o a=some o:=by unfold upd;rw[if_pos rfl]
theorem bj{H:Hp}{a b:K4}{o:HO}(h:b≠a):upd H a o b=H b:=by unfold upd;rw[if_neg h]
theorem FK{H:Hp}{a b:K4}{o u:HO}(h:H a=some o)(h':H b=some u)(d:o≠u):a≠b:=by
 intro e;subst e;rw[h]at h';exact d (R7 h')
theorem cp{H:Hp}{a b:K4}{o:HO}(h:H a=some o)(h':H b=none):a≠b:=by
 intro e;subst e;rw[h]at h';cases h'
def jv(h:N0)(a:K4)(xs:Array J0):Prop:=∃o,h.get? a=some o/\o.cls=.type "tuple"/\(∃n,o.data=.seq xs n)/\o.dict=none
theorem jv.tup{h:N0}{a:K4}{xs:Array J0}(x:jv h a xs):ak1 h a xs:=let⟨o,e,c,d,_⟩:=x;⟨o,e,c,d⟩
theorem jv.lt{h:N0}{a:K4}{xs:Array J0}(x:jv h a xs):a<h.objs.size:=let⟨_,e,_⟩:=x;K7 e
theorem jv.new(h:N0)(xs:Array J0):jv (h.push { cls:=.type "tuple",data:=.seq xs }) h.objs.size xs:=⟨_,K6 h rfl,rfl,⟨_,rfl⟩,rfl⟩
section
variable(P:N4) (w:S2)
def bV(H:Hp)(h:N0)(a:K4):HO->Prop
 |.lst xs=>xs.length<=J7/\∃(its:List J0) (n:Nat),ay xs its/\h.get? a=some { cls:=.type "list",data:=.seq its.toArray n }
 |.tup xs=>xs.length<=J7/\∃its:List J0,ay xs its/\jv h a its.toArray
 |.dK kvs=>kvs.length<=J7/\(a==ac9)=false/\∃vs,KV kvs vs/\h.DictOf (bB P w) a vs
 | .dT kvs => kvs.length ≤ J7 ∧ (a == ac9) = false ∧ ∃ xs:List (List Key × K4 × J0),
   aa9 (λ(p:List Key×V) (q:List Key×K4×J0)=>p.1=q.1/\H q.2.1=some (.tup (p.1.map kV))/\aL p.2 q.2.2) kvs xs /\
   ∃o es ep,h.get? a=some o/\o.ExactDict/\o.data=.dict es ep/\es.toList=xs.map (entryOfKey (aq1 (bB P w)))/\(xs.map (·.1)).Nodup
 |.set S n=>h.SetOf (intKind P w) a S n
 | .ins C dx fs => H dx = some (.own a) ∧ fs.length ≤ 1000 ∧ dx ≠ a ∧ h.get? a = some (PySem.W.instObj C dx) ∧
   ∃mA,h.Ns1 dx mA/\(∀f,l8 (fs.lookup f) (mA f))/\PySem.Within mA (fs.map (·.1))
 |.own _=>∃o,h.get? a=some o
 |.xd fs=>∃mA,h.Ns1 a mA/\∀f,l8 (fs.lookup f) (mA f)
 |.rng lo hi=>∃t u v,h.get? a=some { cls:=.type "range",data:=.fields #[.int lo t,.int hi u,.int 1 v] }
 |.frz o u=>h.get? a=some o/\bV H h a u
 |.tbl ps=>h.get? a=some { cls:=.none,data:=.fields ps }
 |.met f x=>h.get? a=some (PySem.W.methodObj (.ref f) (.ref x))
 |.ext φ=>φ h/\(∃o,h.get? a=some o)/\∀h1 h2:N0,φ h1->(∀o,h1.get? a=some o->h2.get? a=some o)->φ h2
def HOk(H:Hp)(h:N0):Prop:=∀a o,H a=some o->bV P w H h a o
end
section
variable{P:N4}{w:S2}{H H':Hp}{h h':N0}{a:K4}{o:HO}
theorem bV.lt(x:bV P w H h a o):a<h.objs.size:=by
 cases o with
 |lst xs=>obtain⟨_,_,_,_,e⟩:=x;exact K7 e
 |tup xs=>obtain⟨_,_,_,p⟩:=x;exact p.lt
 |dK kvs=>obtain⟨_,_,_,_,o,_,_,e,_⟩:=x;exact K7 e
 |dT kvs=>obtain⟨_,_,_,_,o,_,_,e,_⟩:=x;exact K7 e
 |set S n=>obtain⟨o,_,_,_,e,_⟩:=x;exact K7 e
 |ins C dx fs=>obtain⟨_,_,_,e,_⟩:=x;exact K7 e
 |own y=>obtain⟨_,e⟩:=x;exact K7 e
 |xd fs=>obtain⟨_,⟨_,_,_,e,_⟩,_⟩:=x;exact K7 e
 |rng lo hi=>obtain⟨_,_,_,e⟩:=x;exact K7 e
 |frz ob u=>obtain⟨e,_⟩:=x;exact K7 e
 |tbl ps=>exact K7 (show h.get? a=some _ from x)
 |met f y=>exact K7 (show h.get? a=some _ from x)
 |ext φ=>obtain⟨_,⟨_,e⟩,_⟩:=x;exact K7 e
theorem aa9.mapP{α β:Type}{F G:α->β->Prop}:∀{l₁:List α}{l₂:List β},aa9 F l₁ l₂->(∀a b,F a b->G a b)->aa9 G l₁ l₂
 |_,_,.nil,_=>.nil
 |_,_,.cons r t,f=>.cons (f _ _ r) (aa9.mapP t f)
theorem aa9.imp'{α β:Type}{F G:α->β->Prop}(f:∀a b,F a b->G a b){l₁:List α}{l₂:List β}(r:aa9 F l₁ l₂):aa9 G l₁ l₂:=aa9.mapP r f
theorem bV.stay(x:bV P w H h a o)(k:∀b u,(b=a∨H b=some (.own a))->h.get? b=some u->h'.get? b=some u)
  (ho:∀b,H b=some (.own a)->H' b=some (.own a)) (ht:∀b xs,H b=some (.tup xs)->H' b=some (.tup xs)):bV P w H' h' a o:=by
 induction o with
 |lst xs=>obtain⟨z,its,n,r,e⟩:=x;exact⟨z,its,n,r,k _ _ (.inl rfl) e⟩
 |tup xs=>obtain⟨z,its,r,ob,e,c⟩:=x;exact⟨z,its,r,ob,k _ _ (.inl rfl) e,c⟩
 |dK kvs=>obtain⟨z,y,vs,r,ob,es,ep,e,c⟩:=x;exact⟨z,y,vs,r,ob,es,ep,k _ _ (.inl rfl) e,c⟩
 |dT kvs =>
  obtain⟨z,y,xs,r,ob,es,ep,e,c⟩:=x;exact⟨z,y,xs,aa9.mapP r λp q z=>⟨z.1,ht _ _ z.2.1,z.2.2⟩,ob,es,ep,k _ _ (.inl rfl) e,c⟩
 |set S n=>obtain⟨ob,es,ep,t,e,c⟩:=x;exact⟨ob,es,ep,t,k _ _ (.inl rfl) e,c⟩
 |ins C dx fs =>
  obtain⟨d,z,ne,e,mA,⟨od,es,ep,e2,c⟩,r⟩:=x;exact⟨ho _ d,z,ne,k _ _ (.inl rfl) e,mA,⟨od,es,ep,k _ _ (.inr d) e2,c⟩,r⟩
 |own y=>obtain⟨ob,e⟩:=x;exact⟨ob,k _ _ (.inl rfl) e⟩
 |xd fs=>obtain⟨mA,⟨od,es,ep,e,c⟩,r⟩:=x;exact⟨mA,⟨od,es,ep,k _ _ (.inl rfl) e,c⟩,r⟩
 |rng lo hi=>obtain⟨t,u,v,e⟩:=x;exact⟨t,u,v,k _ _ (.inl rfl) e⟩
 |frz ob u ih=>obtain⟨e,q⟩:=x;exact⟨k _ _ (.inl rfl) e,ih q⟩
 |tbl ps =>
  have e:h.get? a=some { cls:=.none,data:=.fields ps }:=x;show h'.get? a=some { cls:=.none,data:=.fields ps };exact k a _ (.inl rfl) e
 |met f y =>
  have e:h.get? a=some (PySem.W.methodObj (.ref f) (.ref y)):=x;show h'.get? a=some (PySem.W.methodObj (.ref f) (.ref y));exact k a _ (.inl rfl) e
 |ext φ=>obtain⟨p,⟨o,e⟩,st⟩:=x;exact⟨st _ _ p λo q=>k _ _ (.inl rfl) q,⟨o,k _ _ (.inl rfl) e⟩,st⟩
theorem HOk.lt(x:HOk P w H h)(e:H a=some o):a<h.objs.size:=(x a o e).lt
theorem HOk.fresh(x:HOk P w H h)(e:h.objs.size<=a):H a=none:=by
 cases q:H a with
 |none=>rfl
 |some u=>exact absurd (K5 (x.lt q) e) (ae0 _)
theorem HOk.kept(x:HOk P w H h)(k:∀b u,h.get? b=some u->h'.get? b=some u):HOk P w H h':=λa o e =>
 (x a o e).stay (λb u _ q=>k b u q) (λ_ q=>q) λ_ _ q=>q
theorem HOk.laid(x:HOk P w H h)(k:∀b u,h.get? b=some u->h'.get? b=some u)(hp:h.objs.size<=a)(new:bV P w (upd H a o) h' a o):HOk P w (upd H a o) h':=λb u e=>by
 have hn:=x.fresh hp
 by_cases hb:b=a
 ·subst hb;rw[bx]at e;cases e;exact new
 ·rw[bj hb]at e;exact(x b u e).stay (λc v _ q=>k c v q) (λc q=>by rw[bj (cp q hn)];exact q) λc xs q=>by rw[bj (cp q hn)];exact q
end
def Rd(H:Hp)(a:K4)(u:HO):Prop:=H a=some u∨∃o,H a=some (.frz o u)
theorem Rd.of{H:Hp}{a:K4}{u:HO}(h:H a=some u):Rd H a u:=.inl h
theorem Rd.ok{P:N4}{w:S2}{H:Hp}{h:N0}{a:K4}{u:HO}(r:Rd H a u)(x:HOk P w H h):bV P w H h a u:=by
 rcases r with r|⟨o,r⟩
 ·exact x a u r
 ·obtain⟨_,q⟩:=x a _ r;exact q
def Mut:Option HO->Prop
 |some (.lst _)=>True
 |some (.dK _)=>True
 |some (.dT _)=>True
 |some (.set _ _)=>True
 |some (.ins _ _ _)=>True
 |some (.ext _)=>True
 |_=>False
section
variable{P:N4}{w:S2}{H:Hp}{h h':N0}{x e:K4}{o':HO}
theorem HOk.write(ok:HOk P w H h)(mu:Mut (H x))(he:e=x∨H e=some (.own x))(k:∀b u,b≠e->h.get? b=some u->h'.get? b=some u)(heo:∃u,h'.get? e=some u)
  (new:bV P w (upd H x o') h' x o'):HOk P w (upd H x o') h':=λb u q=>by
 have nown:∀c y,H c=some (.own y)->c≠x:=λc y r z=>by subst z;rw[r]at mu;exact mu
 have ntup:∀c xs,H c=some (.tup xs)->c≠x:=λc xs r z=>by subst z;rw[r]at mu;exact mu
 by_cases hb:b=x
 ·subst hb;rw[bx]at q;cases q;exact new
 ·rw[bj hb]at q
  by_cases hbe:b=e
  ·have q':H b=some (.own x):=by
    rcases he with z|z
    ·exact absurd (hbe.trans z) hb
    ·rw[hbe];exact z
   rw[q]at q';cases q';obtain⟨v,hv⟩:=heo;exact⟨v,by rw[hbe];exact hv⟩
  ·refine(ok b u q).stay (λc v hc r=>k c v ?_ r) (λc r=>by rw[bj (nown c b r)];exact r) λc xs r=>by rw[bj (ntup c xs r)];exact r
   rcases hc with rfl|hc
   ·exact hbe
   ·rintro rfl;rcases he with z|z
    ·exact nown c b hc z
    ·rw[hc]at z;cases z;exact hb rfl
end
structure Un(fs ex:List K4) (H H':Hp) (h h':N0):Prop where
 keep:∀b o,h.get? b=some o->H b=none->b∉fs->b∉ex->h'.get? b=some o
 slot:∀b o,h.get? b=some o->H b=none->b∈fs->b∉ex->∃sl,h'.get? b=some { o with slots:=sl }
 free:∀b o,h.get? b=some o->H b=none->b∉ex->H' b=none
 there:∀b o,h.get? b=some o->b∉ex->∃o',h'.get? b=some o'
 tups:∀b xs,H b=some (.tup xs)->H' b=some (.tup xs)
 frzs:∀b o u,H b=some (.frz o u)->H' b=some (.frz o u)
 tbls:∀b ps,H b=some (.tbl ps)->∃more,H' b=some (.tbl (ps++more))
section
variable{fs fs' ex ex':List K4}{H H1 H2:Hp}{h h1 h2 h':N0}{a x e:K4}{o:HO}
theorem Un.any(u:Un fs ex H H1 h h1){b:K4}{ob:Obj}(q:h.get? b=some ob)(n:H b=none)(hx:b∉ex):∃sl,h1.get? b=some { ob with slots:=sl }:=by
 by_cases hb:b∈fs
 ·exact u.slot b ob q n hb hx
 ·exact⟨ob.slots,u.keep b ob q n hb hx⟩
theorem Un.kept(k:∀b u,h.get? b=some u->h'.get? b=some u):Un fs ex H H h h' :=
 ⟨λb ob q _ _ _=>k b ob q,λb ob q _ _ _=>⟨ob.slots,k b ob q⟩,λ_ _ _ n _=>n,λb ob q _=>⟨ob,k b ob q⟩,λ_ _ q=>q,λ_ _ _ q=>q,λ_ ps q=>⟨#[],by rw[q];simp⟩⟩
theorem Un.refl:Un fs ex H H h h:=Un.kept λ_ _ q=>q
theorem Un.laid(k:∀b u,h.get? b=some u->h'.get? b=some u)(hp:h.objs.size<=a)(hn:H a=none):Un fs ex H (upd H a o) h h' where
 keep:=λb u q _ _ _=>k b u q
 slot:=λb u q _ _ _=>⟨u.slots,k b u q⟩
 free:=λb u q n _=>by rw[bj (L7 (K5 (K7 q) hp))];exact n
 there:=λb u q _=>⟨u,k b u q⟩
 tups:=λb xs q=>by rw[bj (cp q hn)];exact q
 frzs:=λb u xs q=>by rw[bj (cp q hn)];exact q
 tbls:=λb ps q=>⟨#[],by rw[bj (cp q hn),q];simp⟩
theorem Un.write(mu:Mut (H x))(he:e=x∨H e=some (.own x))(k:∀b u,b≠e->h.get? b=some u->h'.get? b=some u)(heo:∃u,h'.get? e=some u):Un fs ex H (upd H x o) h h':=by
 have hx:∀b,H b=none->b≠x:=λb n z=>by subst z;rw[n]at mu;exact mu
 have hb:∀b,H b=none->b≠e:=λb n z=>by
  subst z;rcases he with r|r
  ·exact hx b n r
  ·rw[n]at r;cases r
 have hm:∀b u,H b=some u->¬ Mut (some u)->b≠x:=λb u q nm z=>by subst z;rw[q]at mu;exact nm mu
 refine⟨λb u q n _ _=>k b u (hb b n) q,λb u q n _ _=>⟨u.slots,k b u (hb b n) q⟩,λb u q n _=>by rw[bj (hx b n)];exact n,λb u q _=>?_,
  λb xs q=>by rw[bj (hm b _ q λz=>z)];exact q,λb u xs q=>by rw[bj (hm b _ q λz=>z)];exact q,λb ps q=>⟨#[],by rw[bj (hm b _ q λz=>z),q];simp⟩⟩
 by_cases hbe:b=e
 ·subst hbe;exact heo
 ·exact⟨u,k b u hbe q⟩
end
def trk(h:N0)(H:Hp):List K4:=(O2 h.objs.size).filter λa=>(H a).isSome
def qy(h:N0)(H:Hp):N0:=PySem.W.hideAll h (trk h H)
theorem xl(h:N0)(H:Hp):(qy h H).objs.size=h.objs.size:=PySem.W.hideAll_size _ _
theorem zu{h:N0}{H:Hp}{b:K4}{o:Obj}(e:h.get? b=some o)(n:H b=none):(qy h H).get? b=some o :=
 PySem.W.hideAll_get _ e λhm=>by
  have q:(H b).isSome=true:=(List.mem_filter.mp hm).2;rw[n]at q;simp at q
theorem Bz{h:N0}{H:Hp}{b:K4}{o:Obj}(e:(qy h H).get? b=some o):h.get? b=some o/\H b=none:=by
 have e':h.get? b=some o:=PySem.W.of_hideAll (trk h H) e;refine⟨e',?_⟩;cases q:H b with
 |none=>rfl
 |some x =>
  have hm:b∈trk h H:=List.mem_filter.mpr ⟨P8.mpr (K7 e'),by simp[q]⟩;have z:(qy h H).get? b=none:=PySem.W.hideAll_none (trk h H) hm;rw[z]at e;cases e
noncomputable def A7(g h:N0)(L:K4):List (K4×Obj):=(O2 h.objs.size).filterMap λa=>if a=L∨(g.get? a).isSome=true then none else(h.get? a).map λo=>(a,o)
def rest(g h:N0)(L d:K4):List (K4×Obj):=(A7 g h L).filter λp=>decide (p.1≠d)
structure Mod(K:H0) (mg:Str->Option J0) (base:N0):Prop where
 kin:K.In base
 glob:base.Ns K9 mg
 blt:∃mb,base.Ns builtinsNs mb/\∀x:Str,x≠"__name__"->mb x=ab8 x
 nolimit:base.NoLimit
structure Cx where
 prog:N4
 w:S2
 K:H0
 mg:Str->Option J0
 base:N0
 A:P5
 N:List Str
 s₀:J4
 H₀:Hp
 env:Env
 outer:List Env
 stack:List Env
 ex:List K4
 fn:Str->Bool
 calm:Bool
 pn:List (K4×Obj)
 xe:J0->J4->Prop
def frs(l:List Env):List K4:=l.filterMap (·.frame)
abbrev Cx.fs(X:Cx):List K4:=frs X.outer
def Vis(sc:af8)(x:Str):Prop:=sc.names.lookup x=some .local∨sc.names.lookup x=some .cell∨sc.names.lookup x=some .free
def Loc(sc:af8)(x:Str):Prop:=sc.names.lookup x=some .local∨sc.names.lookup x=some .cell
def Gy(env:Env)(h:N0)(m:Str->Option J0)(x:Str)(u:J0):Prop :=
 (env.kindOf x=some .local/\m x=some u)∨((env.kindOf x=some .cell∨env.kindOf x=some .free)/\∃c,env.cells.lookup x=some c/\h.IsCell c (some u))
structure Cx.Ok(X:Cx):Prop where
 mod:Mod X.K X.mg X.base
 kind:X.env.scope.kind=.function
 glob:X.env.globals=K9
 blt:X.env.builtins=builtinsNs
 above:X.s₀.heap.objs.size<=X.env.locals
 inj:∀x y c,X.env.cells.lookup x=some c->X.env.cells.lookup y=some c->x=y
 has:∀x,(X.env.kindOf x=some .cell∨X.env.kindOf x=some .free)->∃c,X.env.cells.lookup x=some c
 cab:∀x c,X.fn x=true->X.env.cells.lookup x=some c->X.s₀.heap.objs.size<=c
 hd:X.calm=true->X.A.handled=none
 frames:X.A.frames=some X.stack
 stk:X.stack=X.outer∨(X.stack=X.env::X.outer/\X.env.frame=some X.env.locals)
 exf:∀b∈X.ex,b≠X.env.locals/\∀x c,X.env.cells.lookup x=some c->c≠b
 bs:∀b o,X.base.get? b=some o->X.s₀.heap.get? b=some o/\X.H₀ b=none
 bsz:X.base.objs.size<=X.s₀.heap.objs.size
 noex:∀b o,X.base.get? b=some o->b∉X.ex
 exfs:∀b∈X.ex,b∉X.fs
 funs:X.s₀.heap.FunFrames X.base X.outer
 frf:∀b∈X.fs,X.H₀ b=none
structure Inv(X:Cx) (af:List (K4×Obj)) (σ:List (Option V)) (H:Hp) (s:J4):Prop where
 ok:X.Ok
 os:s.os=X.s₀.os
 bare:an5 s.gens
 base:Un X.fs X.ex X.H₀ H X.s₀.heap s.heap
 loc:∃m,s.heap.Ns X.env.locals m/\∀(i:Nat) (x:Str) (v:V),X.N[i]?=some x->σ[i]?=some (some v)->Vis X.env.scope x->∃u,aL v u/\Gy X.env s.heap m x u
 cell:∀x c,X.env.cells.lookup x=some c->∃v,s.heap.IsCell c v
 free:H X.env.locals=none
 freeC:∀x c,X.env.cells.lookup x=some c->H c=none
 pin:∀p∈X.pn++af,s.heap.get? p.1=some p.2/\H p.1=none/\p.1≠X.env.locals/\p.1∉X.fs/\∀v,p.2.data≠.cell v
 hok:HOk X.prog X.w H s.heap
 len:σ.length=X.N.length
section
variable{X:Cx}{af:List (K4×Obj)}{σ:List (Option V)}{H H':Hp}{s:J4}{h':N0}
theorem Cx.Ok.nofr(ok:X.Ok){b:K4}{o:Obj}(e:X.base.get? b=some o):b∉X.fs:=λhb=>by
 have:=(ok.funs.mem hb).1;rw[e]at this;cases this
theorem Inv.bs(I:Inv X af σ H s):∀b o,X.base.get? b=some o->s.heap.get? b=some o/\H b=none:=λb o e =>
 ⟨I.base.keep b o (I.ok.bs b o e).1 (I.ok.bs b o e).2 (I.ok.nofr e) (I.ok.noex b o e),I.base.free b o (I.ok.bs b o e).1 (I.ok.bs b o e).2 (I.ok.noex b o e)⟩
theorem Inv.bk(I:Inv X af σ H s):∀b o,X.base.get? b=some o->s.heap.get? b=some o:=λb o e=>(I.bs b o e).1
theorem Inv.mod(I:Inv X af σ H s):Mod X.K X.mg X.base:=I.ok.mod
theorem Inv.kIn(I:Inv X af σ H s):X.K.In s.heap:=I.ok.mod.kin.keeps I.bk
theorem Inv.lt(I:Inv X af σ H s):X.env.locals<s.heap.objs.size:=let⟨_,hn,_⟩:=I.loc;hn.lt
theorem Inv.sz(I:Inv X af σ H s):X.s₀.heap.objs.size<=s.heap.objs.size:=R6 I.ok.above (am6 I.lt)
theorem Inv.nofs(I:Inv X af σ H s){a:K4}(h:s.heap.objs.size<=a):a∉X.fs:=λhb=>by
 obtain⟨_,o,ho,_⟩:=I.ok.funs.mem hb;exact absurd (K5 (K7 ho) (R6 I.sz h)) (ae0 _)
theorem Inv.cne(I:Inv X af σ H s):∀x c,X.env.cells.lookup x=some c->c≠X.env.locals:=λx c e z=>by
 obtain⟨v,o,ho,hd⟩:=I.cell x c e;obtain⟨m,⟨o',es,ep,ho',hd',_⟩,_⟩:=I.loc;rw[z,ho']at ho;cases ho;rw[hd']at hd;cases hd
theorem Inv.funs(I:Inv X af σ H s):s.heap.FunFrames X.base X.outer:=by
 have all:∀(l:List Env),(∀b∈frs l,b∈X.fs)->X.s₀.heap.FunFrames X.base l->s.heap.FunFrames X.base l:=by
  intro l
  induction l with
  |nil=>intro _ _;trivial
  |cons env r ih =>
   intro hs hl;obtain⟨hk,⟨L,o,hf,hn,ho,hd⟩,hr⟩:=hl;have hL:L∈X.fs:=hs L (by unfold frs;rw[R5,hf];exact R4);obtain⟨sl,e⟩:=I.base.slot L o ho (I.ok.frf L hL) hL λz=>I.ok.exfs L z hL;exact⟨hk,⟨L,_,hf,hn,e,hd⟩,ih (λb hb=>hs b (by unfold frs;rw[R5,hf];exact O6 _ hb)) hr⟩
 exact all X.outer (λ_ hb=>hb) I.ok.funs
theorem Inv.stack(I:Inv X af σ H s):s.heap.FunFrames X.base X.stack:=by
 rcases I.ok.stk with e|⟨e,hf⟩
 ·rw[e];exact I.funs
 ·rw[e];obtain⟨m,hn,_⟩:=I.loc;refine .cons (by rw[I.ok.kind];decide) hf hn ?_ I.funs;exact N0.get?_none_of_le (R6 I.ok.bsz I.ok.above)
theorem Inv.stkSub(I:Inv X af σ H s):∀b∈frs X.stack,b∈X.env.locals::X.fs:=λb hb=>by
 rcases I.ok.stk with e|⟨e,hf⟩
 ·rw[e]at hb;exact O6 _ hb
 ·rw[e]at hb;unfold frs at hb;rw[R5,hf]at hb;exact hb
theorem Inv.stkFree(I:Inv X af σ H s):∀b∈frs X.stack,H b=none:=λb hb=>by
 rcases L5.mp (I.stkSub b hb)with e|hb
 ·rw[e];exact I.free
 ·obtain⟨_,o,ho,_⟩:=I.ok.funs.mem hb;exact I.base.free b o ho (I.ok.frf b hb) λz=>I.ok.exfs b z hb
theorem Inv.step{g':Array an6}{t':Nat}{d':Drawn}{ch:List K4}(I:Inv X af σ H s)
  (hch:∀b∈ch,(b∈X.ex∨X.s₀.heap.objs.size<=b)/\b≠X.env.locals/\(∀x c,X.env.cells.lookup x=some c->c≠b)/\∀p∈X.pn++af,p.1≠b)
  (keep:∀b o,b≠X.env.locals->b∉X.fs->b∉ch->s.heap.get? b=some o->H b=none->h'.get? b=some o)
  (slot:∀b o,b≠X.env.locals->b∈X.fs->b∉ch->s.heap.get? b=some o->H b=none->∃sl,h'.get? b=some { o with slots:=sl }) (free:∀b o,b∉ch->s.heap.get? b=some o->H b=none->H' b=none)
  (there:∀b o,b∉ch->s.heap.get? b=some o->∃o',h'.get? b=some o')
  (tups:∀b xs,H b=some (.tup xs)->H' b=some (.tup xs)) (frzs:∀b o u,H b=some (.frz o u)->H' b=some (.frz o u)) (tbls:∀b ps,H b=some (.tbl ps)->∃more,H' b=some (.tbl (ps++more)))
  (ns:∀m,s.heap.Ns X.env.locals m->h'.Ns X.env.locals m) (hok:HOk X.prog X.w H' h') (hg:an5 g') :
  Inv X af σ H' { s with heap:=h',gens:=g',drawn:=d',toks:=t' }:=by
 have neL:∀b o,X.s₀.heap.get? b=some o->b≠X.env.locals:=λb o e=>L7 (K5 (K7 e) I.ok.above);have neC:∀b o,X.s₀.heap.get? b=some o->b∉X.ex->b∉ch:=λb o e hx hb=>by
  rcases(hch b hb).1 with z|z
  ·exact hx z
  ·exact absurd (K5 (K7 e) z) (ae0 _)
 have cellK:∀x c,X.env.cells.lookup x=some c->∀v,s.heap.IsCell c v->h'.IsCell c v:=λx c e v ⟨o,ho,hd⟩=>by
  have nch:c∉ch:=λz=>(hch c z).2.2.1 x c e rfl
  by_cases hc:c∈X.fs
  ·obtain⟨sl,q⟩:=slot c o (I.cne x c e) hc nch ho (I.freeC x c e);exact⟨_,q,hd⟩
  ·exact⟨o,keep c o (I.cne x c e) hc nch ho (I.freeC x c e),hd⟩
 refine⟨I.ok,I.os,hg,⟨λb o e n hb hx=>?_,λb o e n hb hx=>?_,λb o e n hx=>?_,λb o e hx=>?_,λb xs e=>tups b xs (I.base.tups b xs e),λb o xs e=>frzs b o xs (I.base.frzs b o xs e),λb ps e=>?_⟩,?_,λx c e=>?_,?_,λx c e=>?_,λp hp=>?_,hok,I.len⟩
 ·exact keep b o (neL b o e) hb (neC b o e hx) (I.base.keep b o e n hb hx) (I.base.free b o e n hx)
 ·obtain⟨sl,e1⟩:=I.base.slot b o e n hb hx;obtain⟨sl',e2⟩:=slot b _ (neL b o e) hb (neC b o e hx) e1 (I.base.free b o e n hx);exact⟨sl',e2⟩
 ·obtain⟨o',e1⟩:=I.base.there b o e hx;exact free b o' (neC b o e hx) e1 (I.base.free b o e n hx)
 ·obtain⟨o',e1⟩:=I.base.there b o e hx;exact there b o' (neC b o e hx) e1
 ·obtain⟨m1,e1⟩:=I.base.tbls b ps e;obtain⟨m2,e2⟩:=tbls b _ e1;exact⟨m1++m2,by rw[e2,Array.append_assoc]⟩
 ·obtain⟨m,hn,hl⟩:=I.loc;refine⟨m,ns m hn,λi x v e1 e2 e3=>?_⟩;obtain⟨u,r,l⟩:=hl i x v e1 e2 e3;refine⟨u,r,?_⟩;rcases l with l|⟨k,c,e,z⟩
  ·exact .inl l
  ·exact .inr ⟨k,c,e,cellK x c e _ z⟩
 ·obtain⟨v,z⟩:=I.cell x c e;exact⟨v,cellK x c e v z⟩
 ·obtain⟨m,⟨o,_,_,ho,_⟩,_⟩:=I.loc;exact free _ o (λz=>(hch _ z).2.1 rfl) ho I.free
 ·obtain⟨v,o,ho,hd⟩:=I.cell x c e;exact free c o (λz=>(hch c z).2.2.1 x c e rfl) ho (I.freeC x c e)
 ·obtain⟨e,n,ne,nf,d⟩:=I.pin p hp;have nch:p.1∉ch:=λz=>(hch p.1 z).2.2.2 p hp rfl;exact⟨keep p.1 p.2 ne nf nch e n,free p.1 p.2 nch e n,ne,nf,d⟩
theorem Inv.un{t':Nat}(I:Inv X af σ H s)(u:Un X.fs [] H H' s.heap h')(hok:HOk X.prog X.w H' h'):Inv X af σ H' { s with heap:=h',toks:=t' }:=by
 obtain⟨m,⟨o,es,ep,ho,r⟩,_⟩:=id I.loc;obtain⟨sl,hL⟩:=u.any ho I.free (by simp);exact I.step (g':=s.gens) (d':=s.drawn) (ch:=[]) (λ_ z=>nomatch z) (λb o _ hb _ e n=>u.keep b o e n hb (by simp)) (λb o _ hb _ e n=>u.slot b o e n hb (by simp)) (λb o _ e n=>u.free b o e n (by simp)) (λb o _ e=>u.there b o e (by simp)) u.tups u.frzs u.tbls (λm' hm=>by
  obtain⟨o',es',ep',ho',r'⟩:=hm;rw[ho]at ho';cases ho';exact⟨_,es',ep',hL,r'⟩) hok I.bare
theorem Inv.call{g':Array an6}{t':Nat}{d':Drawn}{ch:List K4}(I:Inv X af σ H s)(u:Un (frs X.stack) ch H H' s.heap h')(hok:HOk X.prog X.w H' h')(hg:an5 g')
  (hch:∀b∈ch,(b∈X.ex∨X.s₀.heap.objs.size<=b)/\b≠X.env.locals/\(∀x c,X.env.cells.lookup x=some c->c≠b)/\∀p∈X.pn++af,p.1≠b) :
  Inv X af σ H' { s with heap:=h',gens:=g',drawn:=d',toks:=t' }:=by
 obtain⟨m,⟨o,es,ep,ho,r⟩,_⟩:=id I.loc;obtain⟨sl,hL⟩:=u.any ho I.free λz=>(hch _ z).2.1 rfl;exact I.step (ch:=ch) hch (λb o hL hb hc e n=>u.keep b o e n (λz=>(L5.mp (I.stkSub b z)).elim hL hb) hc) (λb o _ _ hc e n=>u.any e n hc) (λb o hc e n=>u.free b o e n hc) (λb o hc e=>u.there b o e hc) u.tups u.frzs u.tbls (λm' hm=>by
  obtain⟨o',es',ep',ho',r'⟩:=hm;rw[ho]at ho';cases ho';exact⟨_,es',ep',hL,r'⟩) hok hg
theorem Inv.turned{t':Nat}{it:K4}(I:Inv X af σ H s)(k:∀b o,b≠it->s.heap.get? b=some o->h'.get? b=some o)(hn:H it=none)(hL:it≠X.env.locals)
  (h1:it∈X.ex∨X.s₀.heap.objs.size<=it) (h2:∀x c,X.env.cells.lookup x=some c->c≠it) (h3:∀p∈X.pn++af,p.1≠it):Inv X af σ H { s with heap:=h',toks:=t' }:=by
 have nit:∀b u,H b=some u->b≠it:=λb u e z=>by rw[z,hn]at e;cases e
 refine I.step (g':=s.gens) (d':=s.drawn) (ch:=[it]) (λb hb=>?_) (λb o _ _ hc e _=>k b o (λz=>hc (by simp[z])) e) (λb o _ _ hc e _=>⟨o.slots,k b o (λz=>hc (by simp[z])) e⟩) (λ_ _ _ _ n=>n)
  (λb o hc e=>⟨o,k b o (λz=>hc (by simp[z])) e⟩) (λ_ _ e=>e) (λ_ _ _ e=>e) (λb ps e=>⟨#[],by rw[e];simp⟩) (λm hm=>?_) (λb u e=>?_) I.bare
 ·have e:b=it:=by simpa using hb
  subst e;exact⟨h1,hL,h2,h3⟩
 ·obtain⟨o,es,ep,ho,r⟩:=hm;exact⟨o,es,ep,k _ o (ab0 hL) ho,r⟩
 ·refine(I.hok b u e).stay (λc v hc q=>k c v ?_ q) (λ_ q=>q) λ_ _ q=>q;rcases hc with z|z
  ·rw[z];exact nit b u e
  ·exact nit c _ z
theorem Inv.tok(I:Inv X af σ H s)(t:Nat):Inv X af σ H { s with toks:=t }:=I.un (h':=s.heap) (t':=t) Un.refl I.hok
theorem Inv.kept{t':Nat}(I:Inv X af σ H s)(k:∀b u,s.heap.get? b=some u->h'.get? b=some u):Inv X af σ H { s with heap:=h',toks:=t' }:=I.un (Un.kept k) (I.hok.kept k)
theorem Inv.laid{a:K4}{o:HO}{t':Nat}(I:Inv X af σ H s)(k:∀b u,s.heap.get? b=some u->h'.get? b=some u)(hp:s.heap.objs.size<=a)(new:bV X.prog X.w (upd H a o) h' a o):
  Inv X af σ (upd H a o) { s with heap:=h',toks:=t' }:=I.un (Un.laid k hp (I.hok.fresh hp)) (I.hok.laid k hp new)
theorem Inv.write{x e:K4}{o:HO}{t':Nat}(I:Inv X af σ H s)(mu:Mut (H x))(he:e=x∨H e=some (.own x))(k:∀b u,b≠e->s.heap.get? b=some u->h'.get? b=some u)(heo:∃u,h'.get? e=some u)
  (new:bV X.prog X.w (upd H x o) h' x o):Inv X af σ (upd H x o) { s with heap:=h',toks:=t' }:=I.un (Un.write mu he k heo) (I.hok.write mu he k heo new)
theorem Inv.pins_of{pins':List (K4×Obj)}(I:Inv X af σ H s)(h:∀p∈pins',s.heap.get? p.1=some p.2/\H p.1=none/\p.1≠X.env.locals/\p.1∉X.fs/\∀v,p.2.data≠.cell v):Inv X pins' σ H s :=
 ⟨I.ok,I.os,I.bare,I.base,I.loc,I.cell,I.free,I.freeC,λp hp=>(K1.mp hp).elim (λz=>I.pin p (U0 _ z)) (h p),I.hok,I.len⟩
theorem sQ{N:List Str}(hN:N.Nodup){i j:Nat}{x:Str}(a:N[i]?=some x)(b:N[j]?=some x):i=j:=by
 obtain⟨h1,e1⟩:=K3.mp a;obtain⟨h2,e2⟩:=K3.mp b;exact(List.getElem_inj hN).mp (e1.trans e2.symm)
theorem pH{M:Model}{A:P5}{E:J0->J4->Prop}{i:Nat}{x:Str}{v:V}{u:J0}{Q:Unit->J4->Prop}(I:Inv X af σ H s)(hN:X.N.Nodup)(hi:X.N[i]?=some x)(hx:Loc X.env.scope x)(r:aL v u)
  (h:∀s',Inv X af (σ.set i (some v)) H s'->(∃a,Q9 a s.heap s'.heap/\(a=X.env.locals∨X.env.cells.lookup x=some a))->Q () s') (hf:X.fn x=true∨X.env.scope.names.lookup x=some .local:=by first|exact .inl rfl|exact .inr rfl|assumption):L3 M A (storeName X.env x u) Q E s:=by
 obtain⟨m,hn,hl⟩:=id I.loc;have hcls:(X.env.scope.kind==.class || (X.env.scope.kind==.module&&X.env.locals != X.env.globals))=false:=by rw[I.ok.kind];rfl
 have hiσ:i<σ.length:=by rw[I.len];exact(K3.mp hi).1
 have cne:=I.cne;have tracked:∀{a:K4} {h':N0},(∃o,s.heap.get? a=some o/\H a=none)->Q9 a s.heap h'->HOk X.prog X.w H h':=λ{a h'} ha hs b ob e=>by
  obtain⟨_,_,hfree⟩:=ha;refine(I.hok b ob e).stay (λc w' hc q=>(hs.2 c ?_).trans q) (λ_ q=>q) λ_ _ q=>q;rintro rfl;rcases hc with rfl|hc
  ·rw[hfree]at e;cases e
  ·rw[hfree]at hc;cases hc
 rcases hx with hk|hk
 ·refine wpAny_storeName_local hk hn (λh' hn' hs=>?_) hcls;obtain⟨oL,_,_,hoL,_⟩:=id hn;refine h _ ⟨I.ok,I.os,I.bare,⟨λb o e n hb hx=>?_,λb o e n hb hx=>?_,I.base.free,λb o e hx=>?_,I.base.tups,I.base.frzs,I.base.tbls⟩,⟨_,hn',λj y v' e1 e2 e3=>?_⟩,λy c e=>?_,I.free,I.freeC,λp hp=>?_,tracked ⟨oL,hoL,I.free⟩ hs,by simpa using I.len⟩ ⟨_,hs,.inl rfl⟩
  ·exact(hs.2 b (L7 (K5 (K7 e) I.ok.above))).trans (I.base.keep b o e n hb hx)
  ·obtain⟨sl,e1⟩:=I.base.slot b o e n hb hx;exact⟨sl,(hs.2 b (L7 (K5 (K7 e) I.ok.above))).trans e1⟩
  ·obtain⟨o',e1⟩:=I.base.there b o e hx;exact⟨o',(hs.2 b (L7 (K5 (K7 e) I.ok.above))).trans e1⟩
  ·by_cases hj:j=i
   ·subst hj;rw[hi]at e1;cases e1;rw[ab4 hiσ]at e2;cases e2;exact⟨u,r,.inl ⟨hk,by simp⟩⟩
   ·rw[ag8 (ab0 hj)]at e2;obtain⟨u',r',q⟩:=hl j y v' e1 e2 e3;refine⟨u',r',?_⟩;rcases q with⟨k,e⟩|⟨k,c,e,z⟩
    ·refine .inl ⟨k,?_⟩;have:y≠x:=λe=>hj (sQ hN e1 (e▸hi));simp[this,e]
    ·exact .inr ⟨k,c,e,z.sameBut hs (cne y c e)⟩
  ·obtain⟨w',z⟩:=I.cell y c e;exact⟨w',z.sameBut hs (cne y c e)⟩
  ·obtain⟨e,n,ne,nf,d⟩:=I.pin p hp;exact⟨(hs.2 p.1 ne).trans e,n,ne,nf,d⟩
 ·have hfn:X.fn x=true:=by
   rcases hf with z|z
   ·exact z
   ·rw[z]at hk;cases hk
  obtain⟨c,hc⟩:=I.ok.has x (.inl hk);obtain⟨w',z⟩:=I.cell x c hc;refine wpAny_storeName_cell I.ok.kind hk hc z (λh' hc' hs=>?_);obtain⟨oc,hoc,hocd⟩:=id z;refine h { s with heap:=h' } ⟨I.ok,I.os,I.bare,⟨λb o e n hb hx=>?_,λb o e n hb hx=>?_,I.base.free,λb o e hx=>?_,I.base.tups,I.base.frzs,I.base.tbls⟩,⟨m,hn.sameBut hs (ab0 (cne x c hc)),λj y v' e1 e2 e3=>?_⟩,λy c' e=>?_,I.free,I.freeC,λp hp=>?_,tracked ⟨oc,hoc,I.freeC x c hc⟩ hs,by simpa using I.len⟩ ⟨c,hs,.inr hc⟩
  ·exact(hs.2 b (L7 (K5 (K7 e) (I.ok.cab x c hfn hc)))).trans (I.base.keep b o e n hb hx)
  ·obtain⟨sl,e1⟩:=I.base.slot b o e n hb hx;exact⟨sl,(hs.2 b (L7 (K5 (K7 e) (I.ok.cab x c hfn hc)))).trans e1⟩
  ·obtain⟨o',e1⟩:=I.base.there b o e hx;exact⟨o',(hs.2 b (L7 (K5 (K7 e) (I.ok.cab x c hfn hc)))).trans e1⟩
  ·by_cases hj:j=i
   ·subst hj;rw[hi]at e1;cases e1;rw[ab4 hiσ]at e2;cases e2;exact⟨u,r,.inr ⟨.inl hk,c,hc,hc'⟩⟩
   ·rw[ag8 (ab0 hj)]at e2;obtain⟨u',r',q⟩:=hl j y v' e1 e2 e3;refine⟨u',r',?_⟩;rcases q with q|⟨k,c',e,z'⟩
    ·exact .inl q
    ·refine .inr ⟨k,c',e,z'.sameBut hs ?_⟩;rintro rfl;exact hj (sQ hN e1 (I.ok.inj _ _ _ e hc▸hi))
  ·by_cases hcc:c'=c
   ·subst hcc;exact⟨_,hc'⟩
   ·obtain⟨w2,z2⟩:=I.cell y c' e;exact⟨w2,z2.sameBut hs hcc⟩
  ·obtain⟨e,n,ne,nf,d⟩:=I.pin p hp;refine⟨(hs.2 p.1 ?_).trans e,n,ne,nf,d⟩;intro q;rw[q,hoc]at e;have q':oc=p.2:=R7 e;exact d w' (by rw[<-q'];exact hocd)
theorem nz{M:Model}{A:P5}{E:J0->J4->Prop}{i:Nat}{x:Str}{v:V}{u:J0}{Q:Unit->J4->Prop}(I:Inv X af σ H s)(hN:X.N.Nodup)(hi:X.N[i]?=some x)(hx:Loc X.env.scope x)(r:aL v u)
  (h:∀s',Inv X af (σ.set i (some v)) H s'->Q () s') (hf:X.fn x=true∨X.env.scope.names.lookup x=some .local:=by first|exact .inl rfl|exact .inr rfl|assumption):L3 M A (storeName X.env x u) Q E s :=
 pH I hN hi hx r (λs' I' _=>h s' I') hf
theorem Inv.call'{s':J4}{ch:List K4}(I:Inv X af σ H s)(ho:s'.os=s.os)(u:Un (frs X.stack) ch H H' s.heap s'.heap)(hok:HOk X.prog X.w H' s'.heap)(hg:an5 s'.gens)
  (hch:∀b∈ch,(b∈X.ex∨X.s₀.heap.objs.size<=b)/\b≠X.env.locals/\(∀x c,X.env.cells.lookup x=some c->c≠b)/\∀p∈X.pn++af,p.1≠b):Inv X af σ H' s':=by
 obtain⟨h',g',d',t',o'⟩:=s';have e:o'=s.os:=ho;subst e;exact I.call (g':=g') (t':=t') (d':=d') u hok hg hch
end
abbrev XK:=J0->Option K4->Hp->Prop
noncomputable abbrev St:=List (Option V)
abbrev VK:=V->Hp->Prop
abbrev TE:=St->Hp->VK->Prop
abbrev TT:=St->Hp->(Bool->Hp->Prop)->Prop
abbrev TA:=St->Hp->(List V->Hp->Prop)->Prop
structure tX where
 nx:St->Hp->Prop
 rt:VK
 bk:St->Hp->Prop:=λ_ _=>False
 ct:St->Hp->Prop:=λ_ _=>False
abbrev TS:=tX->St->Hp->Prop
def EP(X:Cx)(af:List (K4×Obj))(σ:St)(Q:VK)(u:J0)(s':J4):Prop:=∃v H',Inv X af σ H' s'/\aL v u/\Q v H'
def TP(X:Cx)(af:List (K4×Obj))(σ:St)(Q:Bool->Hp->Prop)(b:Bool)(s':J4):Prop:=∃H',Inv X af σ H' s'/\Q b H'
def AP(X:Cx)(af:List (K4×Obj))(σ:St)(Q:List V->Hp->Prop)(us:List J0)(s':J4):Prop:=∃vs H',Inv X af σ H' s'/\ay vs us/\Q vs H'
theorem EP.el{X:Cx}{af:List (K4×Obj)}{σ:St}{Q:VK}{u:J0}{s:J4}{P:Prop}(h:EP X af σ Q u s)(f:∀(v:V) (H:Hp),Inv X af σ H s->aL v u->Q v H->P):P:=by
 obtain⟨x1,x2,a,b,c⟩:=h;exact f x1 x2 a b c
theorem AP.el{X:Cx}{af:List (K4×Obj)}{σ:St}{Q:List V->Hp->Prop}{u:List J0}{s:J4}{P:Prop}(h:AP X af σ Q u s)(f:∀(v:List V) (H:Hp),Inv X af σ H s->ay v u->Q v H->P):P:=by
 obtain⟨x1,x2,a,b,c⟩:=h;exact f x1 x2 a b c
theorem TP.el{X:Cx}{af:List (K4×Obj)}{σ:St}{Q:Bool->Hp->Prop}{u:Bool}{s:J4}{P:Prop}(h:TP X af σ Q u s)(f:∀(H:Hp),Inv X af σ H s->Q u H->P):P:=by
 obtain⟨x1,a,b⟩:=h;exact f x1 a b
def SP(X:Cx)(af:List (K4×Obj))(D:tX)(f:Flow)(s':J4):Prop :=
 match f with
 |.next=>∃ σ' H',Inv X af σ' H' s'/\D.nx σ' H'
 |.brk=>∃ σ' H',Inv X af σ' H' s'/\D.bk σ' H'
 |.cont=>∃ σ' H',Inv X af σ' H' s'/\D.ct σ' H'
 |.ret u=>∃v σ' H',Inv X af σ' H' s'/\aL v u/\D.rt v H'
def PE(X:Cx)(e:N8)(t:TE):Prop :=
 ∀(af:List (K4×Obj)) (s:J4) (σ:St) (H:Hp) (Q:VK),Inv X af σ H s->t σ H Q->L3 (N9 X.prog X.w) X.A (ad7 e X.env) (EP X af σ Q) X.xe s
def PT(X:Cx)(e:N8)(t:TT):Prop :=
 ∀(af:List (K4×Obj)) (s:J4) (σ:St) (H:Hp) (Q:Bool->Hp->Prop),Inv X af σ H s->t σ H Q->L3 (N9 X.prog X.w) X.A (isTrue e X.env (ad7 e X.env)) (TP X af σ Q) X.xe s
def PW(X:Cx)(e:N8)(t:TT):Prop :=
 ∀(whole:Sem J0) (af:List (K4×Obj)) (s:J4) (σ:St) (H:Hp) (Q:Bool->Hp->Prop),Inv X af σ H s->t σ H Q->L3 (N9 X.prog X.w) X.A (isTrue e X.env whole) (TP X af σ Q) X.xe s
theorem PW.pt{X:Cx}{e:N8}{t:TT}(h:PW X e t):PT X e t:=h _
def PA(X:Cx)(es:List N8)(t:TA):Prop :=
 ∀(pos:Pos) (af:List (K4×Obj)) (s:J4) (σ:St) (H:Hp) (Q:List V->Hp->Prop),Inv X af σ H s->t σ H Q->L3 (N9 X.prog X.w) X.A (spliced (ab1 pos (K8 es X.env))) (AP X af σ Q) X.xe s
def PS(X:Cx)(st:aa6)(t:TS):Prop :=
 ∀(af:List (K4×Obj)) (s:J4) (σ:St) (H:Hp) (D:tX),Inv X af σ H s->t D σ H->L3 (N9 X.prog X.w) X.A (exec st X.env) (SP X af D) X.xe s
def PSs(X:Cx)(st:List aa6)(t:TS):Prop :=
 ∀(af:List (K4×Obj)) (s:J4) (σ:St) (H:Hp) (D:tX),Inv X af σ H s->t D σ H->L3 (N9 X.prog X.w) X.A (execs st X.env) (SP X af D) X.xe s
theorem thn{α:Type}{t:Sem α}{Q Q':α->J4->Prop}{M:Model}{A:P5}{E:J0->J4->Prop}{s:J4}(h:L3 M A t Q E s)(hQ:∀a s,Q a s->Q' a s):L3 M A t Q' E s:=T5 h hQ λ_ _ x=>x
section
variable{X:Cx}
def GY(i:Nat):TE:=λσ H Q=>∃v,σ[i]?=some (some v)/\Q v H
def tC(v:V):TE:=λ_ H Q=>Q v H
theorem y8{i:Nat}{x:Str}{pos:Pos}(hN:X.N[i]?=some x)(hv:Vis X.env.scope x)(hd:(x==("__debug__":Str))=false:=by decide)(hcd:(x==("__classdict__":Str))=false:=by decide):PE X (.Name x pos) (GY i):=by
 intro af s σ H Q I h;obtain⟨v,e,h⟩:=h;obtain⟨m,hn,hl⟩:=I.loc;obtain⟨u,r,l⟩:=hl i x v hN e hv;have fin:EP X af σ Q u s:=⟨v,H,I,r,h⟩;rcases l with⟨hk,hm⟩|⟨hk,c,hc,hcell⟩
 ·exact wpAny_Name (wpAny_loadName_local I.ok.kind hk hn hm fin) hd
 ·rcases hk with hk|hk
  ·exact wpAny_Name (wpAny_loadName_cell I.ok.kind hk hc hcell fin) hd
  ·exact wpAny_Name (wpAny_loadName_free I.ok.kind hk hc hcell fin hcd) hd
theorem DS{i j pos}:PE X (.Constant (.int i) j pos) (tC (.int i)):=λ_ _ _ H _ I h=>wpAny_Constant_int ⟨.int i,H,I.tok _,⟨_,rfl⟩,h⟩
theorem Fx{b j pos}:PE X (.Constant (.bool b) j pos) (tC (.bl b)):=λ_ _ _ H _ I h=>Constant_bool ⟨.bl b,H,I,rfl,h⟩
theorem D2{j pos}:PE X (.Constant .none j pos) (tC .non):=λ_ _ _ H _ I h=>Constant_none ⟨.non,H,I,rfl,h⟩
theorem CO{x j pos}:PE X (.Constant (.str x) j pos) (tC (.str x)):=λ_ _ _ H _ I h=>Calls.Constant_str ⟨.str x,H,I.tok _,⟨_,rfl⟩,h⟩
def Gl(X:Cx)(x:Str):Prop:=X.env.kindOf x=some .globalImplicit
theorem ml{E:J0->J4->Prop}{af:List (K4×Obj)}{s:J4}{σ:St}{H:Hp}{x:Str}{u:J0}{pos:Pos}{Q:J0->J4->Prop}(I:Inv X af σ H s)(hg:Gl X x)(hm:X.mg x=some u)(h:Q u s)
  (hd:(x==("__debug__":Str))=false:=by decide):L3 (N9 X.prog X.w) X.A (ad7 (.Name x pos) X.env) Q E s :=
 Calls.Name_function_global I.ok.kind hg (Calls.loadGlobal_global (by rw[I.ok.glob];exact I.mod.glob.keeps I.bk) hm h) hd
theorem fv{E:J0->J4->Prop}{af:List (K4×Obj)}{s:J4}{σ:St}{H:Hp}{x:Str}{u:J0}{pos:Pos}{Q:J0->J4->Prop}(I:Inv X af σ H s)(hg:Gl X x)(hm:X.mg x=none)(hv:ab8 x=some u)(h:Q u s)
  (hn:x≠"__name__":=by decide) (hd:(x==("__debug__":Str))=false:=by decide):L3 (N9 X.prog X.w) X.A (ad7 (.Name x pos) X.env) Q E s:=by
 obtain⟨mb,h1,h2⟩:=I.mod.blt;exact Calls.Name_function_global I.ok.kind hg (Calls.loadGlobal_builtin (by rw[I.ok.glob];exact I.mod.glob.keeps I.bk) hm (by rw[I.ok.blt];exact h1.keeps I.bk) ((h2 x hn).trans hv) h) hd
theorem vF{x:Str}{v:V}{u:J0}{pos:Pos}(hg:Gl X x)(hm:X.mg x=some u)(r:aL v u)(hd:(x==("__debug__":Str))=false:=by decide):PE X (.Name x pos) (tC v) :=
 λ_ _ _ H _ I h=>ml I hg hm ⟨v,H,I,r,h⟩ hd
theorem Au{x:Str}{v:V}{u:J0}{pos:Pos}(hg:Gl X x)(hm:X.mg x=none)(hv:ab8 x=some u)(r:aL v u)(hn:x≠"__name__":=by decide)(hd:(x==("__debug__":Str))=false:=by decide):PE X (.Name x pos) (tC v) :=
 λ_ _ _ H _ I h=>fv I hg hm hv ⟨v,H,I,r,h⟩ hn hd
variable{a b:N8}{ta tb:TE}{pos:Pos}
def PC(X:Cx)(op:ao3)(a b:N8)(t:TE):Prop :=
 ∀(af:List (K4×Obj)) (s:J4) (σ:St) (H:Hp) (Q:VK),Inv X af σ H s->t σ H Q ->
  L3 (N9 X.prog X.w) X.A (ad7 a X.env) (λv s₁=>L3 (N9 X.prog X.w) X.A (ad7 b X.env) (λu s₂=>L3 (N9 X.prog X.w) X.A (Q0 op v u) (EP X af σ Q) X.xe s₂) X.xe s₁) X.xe s
theorem oh(b:N8){op:ao3}(h:op≠.In)(h2:op≠.NotIn):Z3 op b=false:=by
 have e1:(op==ao3.In)=false:=by cases op<;>first|rfl|exact absurd rfl h
 have e2:(op==ao3.NotIn)=false:=by cases op<;>first|rfl|exact absurd rfl h2
 cases b<;>simp[Z3,e1,e2]
def tB(t:TE):TT:=λσ H Q=>t σ H λx H1=>∃c,x=.bl c/\Q c H1
theorem DM{op:ao3}{t:TE}(h:PC X op a b t)(h1:Z3 op b=false:=by first|exact oh _ (by decide) (by decide)|rfl):PE X (.Compare a [op] [b] pos) t:=λaf s σ H Q I hw=>wpAny_Compare1 (h af s σ H Q I hw) h1
theorem yA{op:ao3}{t:TE}(h:PC X op a b t)(h1:Z3 op b=false:=by first|exact oh _ (by decide) (by decide)|rfl):PT X (.Compare a [op] [b] pos) (tB t):=by
 intro af s σ H Q I hw;refine wpAny_isTrue_Compare1 (thn (h af s σ H _ I hw) λv s1 h1=>thn h1 λu s2 h2=>thn h2 λc s3 hup=>hup.el λx H1 I1 r1 q1=>?_) h1;obtain⟨d,rfl,q⟩:=q1;cases r1;exact V5 ⟨H1,I1,q⟩
theorem D1{e:N8}{t:TE}(h:PE X e t)(he:∀whole,isTrue e X.env whole=(do let v <-whole;ar5 e.pos;aq5 [v] (truthy v)):=by intro _;rfl):PT X e (tB t):=by
 intro af s σ H Q I hw;refine isTrue_plain (thn (h af s σ H _ I hw) λv s1 hup=>hup.el λx H1 I1 r1 q1=>?_) (he _);obtain⟨d,rfl,q⟩:=q1;cases r1;exact V5 ⟨H1,I1,q⟩
variable{tA tB':TT}{rest:List N8}
def Gp(t u:TT):TT:=λσ H Q=>t σ H λc H1=>if c=true then u σ H1 Q else Q false H1
def tOr(t u:TT):TT:=λσ H Q=>t σ H λc H1=>if c=true then Q true H1 else u σ H1 Q
def GR(t:TT):TT:=λσ H Q=>t σ H λc H1=>Q (!c) H1
theorem AX(ha:PT X a tA):PW X (.BoolOp .And [a] pos) tA:=by
 intro wh af s σ H Q I h;refine isTrue_and (thn (ha af s σ H Q I h) λc s1 e=>?_);cases c with
 |true=>exact isTrue_and_nil e
 |false=>exact e
theorem En(ha:PT X a tA):PW X (.BoolOp .Or [a] pos) tA:=by
 intro wh af s σ H Q I h;refine isTrue_or (thn (ha af s σ H Q I h) λc s1 e=>?_);cases c with
 |false=>exact isTrue_or_nil e
 |true=>exact e
theorem Eu(ha:PT X a tA)(hb:PW X (.BoolOp .And (b::rest) pos) tB'):PW X (.BoolOp .And (a::b::rest) pos) (Gp tA tB'):=by
 intro wh af s σ H Q I h;refine isTrue_and (thn (ha af s σ H _ I h) λc s1 hup=>hup.el λH1 I1 q1=>?_);cases c with
 |true=>exact hb wh af s1 σ H1 Q I1 q1
 |false=>exact⟨H1,I1,q1⟩
theorem F4(ha:PT X a tA)(hb:PW X (.BoolOp .Or (b::rest) pos) tB'):PW X (.BoolOp .Or (a::b::rest) pos) (tOr tA tB'):=by
 intro wh af s σ H Q I h;refine isTrue_or (thn (ha af s σ H _ I h) λc s1 hup=>hup.el λH1 I1 q1=>?_);cases c with
 |true=>exact⟨H1,I1,q1⟩
 |false=>exact hb wh af s1 σ H1 Q I1 q1
theorem CI(ha:PT X a tA):PT X (.UnaryOp .Not a pos) (GR tA):=by
 intro af s σ H Q I h;exact isTrue_not (ha af s σ H (λc H1=>Q (!c) H1) I h)
def Fn(ta tb:TE):TE:=λσ H Q=>ta σ H λx H1=>∃c,x=.bl c/\if c=true then tb σ H1 Q else Q (.bl false) H1
def F0(ta:TE):TE:=λσ H Q=>ta σ H λx H1=>∃c,x=.bl c/\Q (.bl (!c)) H1
theorem DT{op}{t:TE}(h:PE X a t):PE X (.BoolOp op [a] pos) t:=λaf s σ H Q I hw=>BoolOp_one (h af s σ H Q I hw)
theorem Ek(ha:PE X a ta)(hb:PE X (.BoolOp .And (b::rest) pos) tb):PE X (.BoolOp .And (a::b::rest) pos) (Fn ta tb):=by
 intro af s σ H Q I h;refine BoolOp_and (thn (ha af s σ H _ I h) λv s1 hup=>hup.el λx H1 I1 r1 q1=>?_);obtain⟨c,rfl,q1⟩:=q1;cases r1;refine V5 ?_;cases c with
 |true=>exact hb af s1 σ H1 Q I1 q1
 |false=>exact⟨.bl false,H1,I1,rfl,q1⟩
theorem Dv(ha:PE X a ta):PE X (.UnaryOp .Not a pos) (F0 ta):=by
 intro af s σ H Q I h;refine UnaryOp_ (thn (ha af s σ H _ I h) λv s1 hup=>hup.el λx H1 I1 r1 q1=>?_);obtain⟨c,rfl,q1⟩:=q1;cases r1;exact not_of (V5 ⟨.bl (!c),H1,I1,rfl,q1⟩)
end
def SqL(K:H0)(H:Hp)(a:K4)(xs:List V):Prop :=
 Rd H a (.lst xs) ∨
  ∃(o:Obj) (its:Array J0) (n:Nat),K.lookup a=some o/\o.cls=.type "list"/\o.dict=none/\o.data=.seq its n/\its.size<=J7/\ay xs its.toList
def SqT(K:H0)(H:Hp)(a:K4)(xs:List V):Prop :=
 Rd H a (.tup xs) ∨
  ∃(o:Obj) (its:Array J0) (n:Nat),K.lookup a=some o/\(o.cls=.type "tuple"/\o.dict=none)/\o.data=.seq its n/\its.size<=J7/\ay xs its.toList
noncomputable def Gj:J0->Option V
 |.none=>some .non
 |.bool b=>some (.bl b)
 |.int i _=>some (.int i)
 |.str x _=>some (.str x)
 |.bytes b _=>some (.byt b)
 |.float b _=>some (.flt b)
 |.ref a=>some (.ref a)
 |.type n=>some (.ty n)
 |_=>none
theorem aL.abs{x:V}{u:J0}(r:aL x u):Gj u=some x:=by
 cases x with
 |non=>cases r;rfl
 |bl _=>cases r;rfl
 |int _=>obtain⟨t,rfl⟩:=r;rfl
 |str _=>obtain⟨t,rfl⟩:=r;rfl
 |byt _=>obtain⟨t,rfl⟩:=r;rfl
 |flt _=>obtain⟨t,rfl⟩:=r;rfl
 |ref _=>cases r;rfl
 |ty _=>cases r;rfl
theorem aL.inj{x y:V}{u:J0}(r:aL x u)(q:aL y u):x=y:=R7 (r.abs.symm.trans q.abs)
theorem ay.inj:∀{xs ys:List V}{us:List J0},ay xs us->ay ys us->xs=ys
 |_,_,_,.nil,.nil=>rfl
 |_,_,_,.cons r t,.cons r' t'=>by rw[r.inj r',ay.inj t t']
section
variable{X:Cx}{af:List (K4×Obj)}{σ:St}{H:Hp}{s:J4}{a:K4}{xs ys:List V}
theorem SqL.of{K:H0}(h:H a=some (.lst xs)):SqL K H a xs:=.inl (.inl h)
theorem SqT.of{K:H0}(h:H a=some (.tup xs)):SqT K H a xs:=.inl (.inl h)
theorem Inv.list(I:Inv X af σ H s)(h:SqL X.K H a xs):∃its:List J0,ay xs its/\PlainL s.heap a its.toArray/\xs.length<=J7:=by
 rcases h with h|⟨o,its,n,hk,hc,hd,hs,hz,r⟩
 ·obtain⟨z,its,n,r,e⟩:=h.ok I.hok;exact⟨its,r,⟨_,n,e,rfl,rfl,rfl⟩,z⟩
 ·refine⟨its.toList,r,⟨o,n,I.kIn a o hk,hc,hd,by simpa using hs⟩,?_⟩;have e:=r.length;simp only[L1]at e
  lia
theorem Inv.tuple(I:Inv X af σ H s)(h:SqT X.K H a xs):∃its:List J0,ay xs its/\ak1 s.heap a its.toArray/\xs.length<=J7:=by
 rcases h with h|⟨o,its,n,hk,hc,hs,hz,r⟩
 ·obtain⟨z,its,r,p⟩:=h.ok I.hok;exact⟨its,r,p.tup,z⟩
 ·refine⟨its.toList,r,⟨o,I.kIn a o hk,hc.1,n,by simpa using hs⟩,?_⟩;have e:=r.length;simp only[L1]at e
  lia
theorem Inv.tupN(I:Inv X af σ H s)(h:SqT X.K H a xs):∃its:List J0,ay xs its/\jv s.heap a its.toArray/\xs.length<=J7:=by
 rcases h with h|⟨o,its,n,hk,hc,hs,hz,r⟩
 ·obtain⟨z,its,r,p⟩:=h.ok I.hok;exact⟨its,r,p,z⟩
 ·refine⟨its.toList,r,⟨o,I.kIn a o hk,hc.1,⟨n,by simpa using hs⟩,hc.2⟩,?_⟩;have e:=r.length;have e2:its.toList.length=its.size:=L1
  lia
theorem Inv.list_inj(I:Inv X af σ H s)(h:SqL X.K H a xs)(h':SqL X.K H a ys):xs=ys:=by
 obtain⟨its,r,⟨o,n,e,_,_,d⟩,_⟩:=I.list h;obtain⟨its',r',⟨o',n',e',_,_,d'⟩,_⟩:=I.list h';rw[e]at e';cases e';rw[d]at d';injection d' with d1 _
 have:its=its':=by simpa using congrArg Array.toList d1
 subst this;exact r.inj r'
theorem Inv.tuple_inj(I:Inv X af σ H s)(h:SqT X.K H a xs)(h':SqT X.K H a ys):xs=ys:=by
 obtain⟨its,r,⟨o,e,_,n,d⟩,_⟩:=I.tuple h;obtain⟨its',r',⟨o',e',_,n',d'⟩,_⟩:=I.tuple h';rw[e]at e';cases e';rw[d]at d';injection d' with d1 _
 have:its=its':=by simpa using congrArg Array.toList d1
 subst this;exact r.inj r'
end
abbrev Cx.wish(X:Cx)(E:J0->J4->Prop):Cx:={ X with xe:=E }
abbrev Cx.nox(X:Cx):Cx:=X.wish λ_ _=>False
theorem Cx.Ok.wish{X:Cx}(ok:X.Ok)(E:J0->J4->Prop):(X.wish E).Ok :=
 ⟨ok.mod,ok.kind,ok.glob,ok.blt,ok.above,ok.inj,ok.has,ok.cab,ok.hd,ok.frames,ok.stk,ok.exf,ok.bs,ok.bsz,ok.noex,ok.exfs,ok.funs,ok.frf⟩
theorem Cx.Ok.unwish{X:Cx}{E:J0->J4->Prop}(ok:(X.wish E).Ok):X.Ok :=
 ⟨ok.mod,ok.kind,ok.glob,ok.blt,ok.above,ok.inj,ok.has,ok.cab,ok.hd,ok.frames,ok.stk,ok.exf,ok.bs,ok.bsz,ok.noex,ok.exfs,ok.funs,ok.frf⟩
section
variable{X:Cx}{af:List (K4×Obj)}{σ:St}{H:Hp}{s:J4}{E:J0->J4->Prop}
theorem Inv.wish(I:Inv X af σ H s)(E:J0->J4->Prop):Inv (X.wish E) af σ H s:=⟨I.ok.wish E,I.os,I.bare,I.base,I.loc,I.cell,I.free,I.freeC,I.pin,I.hok,I.len⟩
theorem Inv.unwish(I:Inv (X.wish E) af σ H s):Inv X af σ H s:=⟨I.ok.unwish,I.os,I.bare,I.base,I.loc,I.cell,I.free,I.freeC,I.pin,I.hok,I.len⟩
theorem SP.unwish{D:tX}{f:Flow}{s':J4}(h:SP (X.wish E) af D f s'):SP X af D f s':=by
 cases f with
 |next=>obtain⟨σ',H',I,q⟩:=h;exact⟨σ',H',I.unwish,q⟩
 |brk=>obtain⟨σ',H',I,q⟩:=h;exact⟨σ',H',I.unwish,q⟩
 |cont=>obtain⟨σ',H',I,q⟩:=h;exact⟨σ',H',I.unwish,q⟩
 |ret u=>obtain⟨v,σ',H',I,r,q⟩:=h;exact⟨v,σ',H',I.unwish,r,q⟩
theorem PSs.nox{st:List aa6}{t:TS}(h:PSs X.nox st t):PSs X st t:=λaf s σ H D I hw =>
 T5 (h af s σ H D (I.wish _) hw) (λ_ _ q=>q.unwish) λ_ _ z=>ab7 z
end
section
variable{X:Cx}{st:aa6}{rest:List aa6}{t u:TS}{e:N8}{te:TE}{pos:Pos}
def EG:TS:=λD σ H=>D.nx σ H
def GO(t u:TS):TS:=λD σ H=>t { D with nx:=u D } σ H
theorem Be:PSs X [] EG:=λ_ _ σ H _ I h=>al2 ⟨σ,H,I,h⟩
theorem zV(h1:PS X st t)(h2:PSs X rest u):PSs X (st::rest) (GO t u):=by
 intro af s σ H D I h;refine wpAny_execs_cons (thn (h1 af s σ H { D with nx:=u D } I h) λf s1 q=>?_);cases f with
 |next =>
  obtain⟨σ',H',I',q⟩:=q;exact h2 af s1 σ' H' D I' q
 |ret v=>exact q
 |brk=>exact q
 |cont=>exact q
theorem Ag(h1:PS X st t):PSs X [st] t:=by
 intro af s σ H D I h;refine wpAny_execs_cons (thn (h1 af s σ H D I h) λf s1 q=>?_);cases f with
 |next=>exact al2 q
 |ret v=>exact q
 |brk=>exact q
 |cont=>exact q
theorem Inv.quiet{af:List (K4×Obj)}{σ:St}{H:Hp}{s:J4}(I:Inv X af σ H s):interactive X.env=false:=by simp[interactive,I.ok.kind]
def Fs(te:TE):TS:=λD σ H=>te σ H λ_ H1=>D.nx σ H1
theorem A0(he:PE X e te)(hs:ak2 e none pos.line X.env=ag9 false:=by rfl):PS X (.Expr e pos) (Fs te):=by
 intro af s σ H D I h;exact wpAny_Expr_any (thn (he af s σ H _ I h) λv s1 hup=>hup.el λx H1 I1 r1 q1=>⟨σ,H1,I1,q1⟩) I.quiet hs
def GI(te:TE):TS:=λD σ H=>te σ H D.rt
theorem uf(he:PE X e te):PS X (.Return (some e) pos) (GI te):=by
 intro af s σ H D I h;exact wpAny_Return_some (thn (he af s σ H _ I h) λv s1 hup=>hup.el λx H1 I1 r1 q1=>⟨x,σ,H1,I1,r1,q1⟩)
def GA(c:TT)(t u:TS):TS:=λD σ H=>c σ H λb H1=>if b=true then t D σ H1 else u D σ H1
theorem EF{c:N8}{a b:List aa6}{tc:TT}(hc:PT X c tc)(ha:PSs X a t)(hb:PSs X b u):PS X (.If c a b pos) (GA tc t u):=by
 intro af s σ H D I h;refine wpAny_If (thn (hc af s σ H _ I h) λd s1 hup=>hup.el λH1 I1 q1=>?_);cases d with
 |true=>exact ha af s1 σ H1 D I1 q1
 |false=>exact hb af s1 σ H1 D I1 q1
end
abbrev TG:=V->St->Hp->(St->Hp->Prop)->Prop
abbrev TGs:=List V->St->Hp->(St->Hp->Prop)->Prop
def PG(X:Cx)(target:N8)(t:TG):Prop :=
 ∀(af:List (K4×Obj)) (s:J4) (σ:St) (H:Hp) (v:V) (u:J0) (Q:St->Hp->Prop),Inv X af σ H s->aL v u->t v σ H Q ->
  L3 (N9 X.prog X.w) X.A (ao4 target X.env u) (λ_ s'=>∃ σ' H',Inv X af σ' H' s'/\Q σ' H') X.xe s
def PGs(X:Cx)(ts:List N8)(t:TGs):Prop :=
 ∀(af:List (K4×Obj)) (s:J4) (σ:St) (H:Hp) (vs:List V) (us:List J0) (Q:St->Hp->Prop),Inv X af σ H s->ay vs us->t vs σ H Q ->
  L3 (N9 X.prog X.w) X.A (assignInOrder ((Z8 ts X.env).map (·.2)) us) (λ_ s'=>∃ σ' H',Inv X af σ' H' s'/\Q σ' H') X.xe s
abbrev TIp:=V->V->Hp->VK->Prop
def PIp(X:Cx)(op:ar1)(t:TIp):Prop :=
 ∀(af:List (K4×Obj)) (s:J4) (σ:St) (H:Hp) (x y:V) (v u:J0) (Q:VK),Inv X af σ H s->aL x v->aL y u->t x y H Q ->
  L3 (N9 X.prog X.w) X.A (ar6 op v u) (EP X af σ Q) X.xe s
section
variable{X:Cx}{pos:Pos}
def rP(i:Nat):TG:=λv σ H Q=>Q (σ.set i (some v)) H
theorem vN{i:Nat}{x:Str}(hN:X.N.Nodup)(hi:X.N[i]?=some x)(hx:Loc X.env.scope x)(hf:X.fn x=true∨X.env.scope.names.lookup x=some .local:=by first|exact .inl rfl|exact .inr rfl|assumption):PG X (.Name x pos) (rP i):=by
 intro af s σ H v u Q I r h;exact wpAny_assign_Name (nz I hN hi hx r (λs' I'=>⟨_,H,I',h⟩) hf)
def DZ:TGs:=λvs σ H Q=>vs=[]/\Q σ H
def yl(t:TG)(u:TGs):TGs:=λvs σ H Q=>∃v r,vs=v::r/\t v σ H λσ' H'=>u r σ' H' Q
theorem vO:PGs X [] DZ:=by
 intro af s σ H vs us Q I r h;obtain⟨e,h⟩:=h;subst e;cases r;exact assignInOrder_nil ⟨σ,H,I,h⟩
theorem sV{e:N8}{es:List N8}{t:TG}{u:TGs}(h1:PG X e t)(h2:PGs X es u)
  (hs:(Z8 (e::es) X.env).map (·.2)=ao4 e X.env::(Z8 es X.env).map (·.2):=by rfl):PGs X (e::es) (yl t u):=by
 intro af s σ H vs us Q I r h;obtain⟨v,vr,e1,h⟩:=h;subst e1;cases r with
 |cons r rr =>
  rw[hs];refine assignInOrder_cons (thn (h1 af s σ H _ _ _ I r h) λ_ s1 ⟨σ1,H1,I1,q1⟩=>?_);exact h2 af s1 σ1 H1 _ _ Q I1 rr q1
def Dg(K:H0)(n:Nat)(t:TGs):TG:=λv σ H Q=>∃a xs,v=.ref a/\SqT K H a xs/\xs.length=n/\t xs σ H Q
theorem xO{es:List N8}{k:Nat}{t:TGs}{n:Nat}(hc:X.calm=true)(h:PGs X es t)
  (hn:(Z8 es X.env).length=n:=by rfl) (hst:(Z8 es X.env).findIdx? (·.1)=none:=by rfl):PG X (.Tuple es k pos) (Dg X.K n t):=by
 intro af s σ H v u Q I r hw;obtain⟨a,xs,e1,hq,hl,hw⟩:=hw;subst e1;cases r;obtain⟨its,rv,ht,hz⟩:=I.tuple hq;refine assign_Tuple_tuple (I.ok.hd hc) ht (by simp[hn,<-hl,rv.length]) hst λh' hx=>?_;have I1:Inv X af σ H { s with heap:=h' }:=I.kept (t':=s.toks) λb o e=>hx b o (L7 (K7 e)) e;exact h af _ σ H xs _ Q I1 (by simpa using rv) hw
def Dt(te:TE)(g:TG):TS:=λD σ H=>te σ H λx H1=>g x σ H1 D.nx
theorem Ey{tg e:N8}{te:TE}{g:TG}(he:PE X e te)(hg:PG X tg g)(hs:swapsWithSole [tg] e pos.line X.env=ag9 false:=by rfl)(hw:swappedStores [tg] e X.env=ag9 none:=by rfl)
  (h1:(Z8 [tg] X.env).map (·.2)=[ao4 tg X.env]:=by rfl):PS X (.Assign [tg] e pos) (Dt te g):=by
 intro af s σ H D I h;refine wpAny_Assign_stores (thn (he af s σ H _ I h) λv s1 hup=>hup.el λx H1 I1 r1 q1=>?_) hs hw;rw[h1];exact thn (hg af s1 σ H1 x v _ I1 r1 q1) λ_ s2 q=>q
theorem CF{i:Nat}{x:Str}{e:N8}{te:TE}{pos':Pos}(hN:X.N.Nodup)(hi:X.N[i]?=some x)(hx:Loc X.env.scope x)(he:PE X e te)(hs:ak2 e (some (.Name x pos')) pos.line X.env=ag9 false:=by rfl)(hf:X.fn x=true∨X.env.scope.names.lookup x=some .local:=by first|exact .inl rfl|exact .inr rfl|assumption):
  PS X (.Assign [.Name x pos'] e pos) (Dt te (rP i)):=by
 intro af s σ H D I h;refine wpAny_Assign_Name (thn (he af s σ H _ I h) λv s1 hup=>hup.el λy H1 I1 r1 q1=>?_) hs;exact nz I1 hN hi hx r1 (λs2 I2=>⟨_,H1,I2,q1⟩) hf
def Gz(i:Nat)(te:TE)(ti:TIp):TS:=λD σ H=>∃x,σ[i]?=some (some x)/\te σ H λy H1=>ti x y H1 λz H2=>D.nx (σ.set i (some z)) H2
theorem Du{i:Nat}{x:Str}{e:N8}{te:TE}{op:ar1}{ti:TIp}{pos':Pos}(hN:X.N.Nodup)(hi:X.N[i]?=some x)(hx:Loc X.env.scope x)(he:PE X e te)(ho:PIp X op ti)(hf:X.fn x=true∨X.env.scope.names.lookup x=some .local:=by first|exact .inl rfl|exact .inr rfl|assumption):
  PS X (.AugAssign (.Name x pos') op e pos) (Gz i te ti):=by
 intro af s σ H D I h;obtain⟨v,e1,h⟩:=h;obtain⟨m,hn,hl⟩:=I.loc;have vis:Vis X.env.scope x:=by rcases hx with k|k;exact .inl k;exact .inr (.inl k)
 obtain⟨u,r,l⟩:=hl i x v hi e1 vis;refine wpAny_AugAssign_Name ?_;have go:L3 (N9 X.prog X.w) X.A (ad7 e X.env) (λw s₂=>L3 (N9 X.prog X.w) X.A (ar6 op u w) (λr s₃=>L3 (N9 X.prog X.w) X.A (storeName X.env x r) (λ_=>SP X af D .next) X.xe s₃) X.xe s₂) X.xe s:=by
  refine thn (he af s σ H _ I h) λw s1 hup=>hup.el λy H1 I1 r1 q1=>?_;refine thn (ho af s1 σ H1 v y u w _ I1 r r1 q1) λz s2 hup=>hup.el λzv H2 I2 r2 q2=>?_;exact nz I2 hN hi hx r2 (λs3 I3=>⟨_,H2,I3,q2⟩) hf
 rcases l with⟨hk,hm⟩|⟨hk,c,hc,hcell⟩
 ·exact wpAny_loadName_local I.ok.kind hk hn hm go
 ·rcases hk with hk|hk
  ·exact wpAny_loadName_cell I.ok.kind hk hc hcell go
  ·rcases hx with k|k
   ·have:X.env.scope.names.lookup x=some .free:=hk;rw[k]at this;cases this
   ·have:X.env.scope.names.lookup x=some .free:=hk;rw[k]at this;cases this
def ipI(f:Int->Int->Int):TIp:=λx y H Q=>∃i j,x=.int i/\y=.int j/\Q (.int (f i j)) H
theorem CT:PIp X .Add (ipI λi j=>i+j):=by
 intro af s σ H x y v u Q I r1 r2 h;obtain⟨i,j,e1,e2,q⟩:=h;subst e1;subst e2;obtain⟨t,rfl⟩:=r1;obtain⟨t',rfl⟩:=r2;exact iadd_int ⟨.int _,H,I.tok _,⟨_,rfl⟩,q⟩
end
section
variable{X:Cx}{pos:Pos}
def Ep(c:TT)(tb:TS):TS:=λD σ H=>∃W:Nat->St->Hp->Prop,(∃m,W m σ H)/\∀m σ H,W m σ H ->
 c σ H λb H1=>if b=true then ∃N:St->Hp->Prop,(∀ σ' H',N σ' H'->∃m',m'<m/\W m' σ' H')/\tb { D with nx:=N,ct:=N,bk:=D.nx } σ H1 else D.nx σ H1
theorem yc{c:N8}{body:List aa6}{tc:TT}{tb:TS}(hp:R8 (N9 X.prog X.w) X.A X.env X.xe)(hc:PT X c tc)(hb:PSs X body tb):PS X (.While c body [] pos) (Ep tc tb):=by
 intro af s σ H D I h;obtain⟨W,⟨m0,w0⟩,turn⟩:=h;refine wpAny_While (codeAny_whileLoop (λn s'=>∃ σ' H',Inv X af σ' H' s'/\W n σ' H') ?_ m0 ⟨σ,H,I,w0⟩);rintro n s1 ⟨σ1,H1,I1,w1⟩;refine ad0 hp (thn (hc af s1 σ1 H1 _ I1 (turn n σ1 H1 w1)) λb s2 hup=>hup.el λH2 I2 q2=>?_);cases b with
 |true =>
  obtain⟨N,hN,q2⟩:=q2;rw[if_pos rfl];refine ad0 hp (thn (hb af s2 σ1 H2 _ I2 q2) λf s3 q3=>?_);cases f with
  |next =>
   obtain⟨σ3,H3,I3,n3⟩:=q3;obtain⟨m',hm,w3⟩:=hN σ3 H3 n3;exact⟨m',hm,σ3,H3,I3,w3⟩
  |cont =>
   obtain⟨σ3,H3,I3,n3⟩:=q3;obtain⟨m',hm,w3⟩:=hN σ3 H3 n3;exact⟨m',hm,σ3,H3,I3,w3⟩
  |brk=>exact q3
  |ret v=>exact q3
 |false =>
  rw[if_neg R9];exact al2 ⟨σ1,H2,I2,q2⟩
end
structure It where
 go:Nat->Hp->Prop
 yld:Nat->Hp->V->Hp->Prop
 stop:Nat->Hp->Prop
def gI(X:Cx)(af:List (K4×Obj))(H:Hp)(b:K4):Prop :=
 H b=none/\b≠X.env.locals/\b∉X.fs/\(b∈X.ex∨X.s₀.heap.objs.size<=b)/\(∀x c,X.env.cells.lookup x=some c->c≠b)/\∀p∈X.pn++af,p.1≠b
theorem Inv.fpOk{X:Cx}{af:List (K4×Obj)}{σ:St}{H H':Hp}{s:J4}{b:K4}(I:Inv X af σ H s)(hb:s.heap.objs.size<=b)(hn:H' b=none):gI X af H' b:=by
 refine⟨hn,ab9 (K5 I.lt hb),I.nofs hb,.inr (R6 I.sz hb),λx c e z=>?_,λp hp z=>?_⟩
 ·obtain⟨v,q⟩:=I.cell x c e;exact absurd (K5 q.lt (by rw[z];exact hb)) (ae0 _)
 ·exact absurd (K5 (K7 (I.pin p hp).1) (by rw[z];exact hb)) (ae0 _)
structure qS(P:N4) (w:S2) (K:H0) (tg:N8) (J:It) (fp:List K4) (it:K4) (tn:Nat->N0->Prop):Prop where
 mem:it∈fp
 obj:∀i h,tn i h->∀b∈fp,∃o,h.get? b=some o/\∀v,o.data≠.cell v
 keep:∀i h h',tn i h->(∀b∈fp,∀o,h.get? b=some o->h'.get? b=some o)->tn i h'
 item:∀(X:Cx),X.prog=P->X.w=w->X.K=K->X.calm=true->∀(i:Nat) (af:List (K4×Obj)) (s:J4) (σ:St) (H:Hp) (E:J0->J4->Prop),Inv X af σ H s->(∀b∈fp,gI X af H b)->tn i s.heap->J.go i H ->
  L3 (N9 P w) X.A (an1 (.ref it)) (λr s1=>∃u,r=some u /\
   L3 (N9 P w) X.A (ai6 tg (.ref it) u) (λ_ s2=>∃x H',Inv X af σ H' s2/\aL x u/\J.yld i H x H'/\tn (i+1) s2.heap/\∀b∈fp,H' b=none) E s1) E s
 done:∀(X:Cx),X.prog=P->X.w=w->X.K=K->X.calm=true->∀(i:Nat) (af:List (K4×Obj)) (s:J4) (σ:St) (H:Hp) (E:J0->J4->Prop),Inv X af σ H s->(∀b∈fp,gI X af H b)->tn i s.heap->J.stop i H ->
  L3 (N9 P w) X.A (an1 (.ref it)) (λr s1=>r=none/\Inv X af σ H s1) E s
 self:∀(A:P5) (i:Nat) (s:J4) (Q:J0->J4->Prop) (E:J0->J4->Prop),tn i s.heap->Q (.ref it) s->L3 (N9 P w) A (ap2 (.ref it)) Q E s
abbrev TI:=St->Hp->(It->Hp->Prop)->Prop
def PIE(X:Cx)(af:List (K4×Obj))(σ:St)(tg:N8)(R:It->Hp->Prop)(itv:J0)(s2:J4):Prop :=
 ∃(it:K4) (fp:List K4) (tn:Nat->N0->Prop) (J:It) (H':Hp),itv=.ref it/\Inv X af σ H' s2/\qS X.prog X.w X.K tg J fp it tn/\tn 0 s2.heap/\(∀b∈fp,gI X af H' b)/\R J H'
def PI(X:Cx)(tg iter:N8)(wi:TI):Prop :=
 ∀(af:List (K4×Obj)) (s:J4) (σ:St) (H:Hp) (R:It->Hp->Prop),Inv X af σ H s->wi σ H R ->
  L3 (N9 X.prog X.w) X.A (ad7 iter X.env) (λv s1=>L3 (N9 X.prog X.w) X.A (ap2 v) (PIE X af σ tg R) X.xe s1) X.xe s
theorem vZ{M:Model}{A:P5}{E:J0->J4->Prop}{s:J4}{tg:N8}{it:K4}{u:J0}{o:Obj}{n:String}{vs:Array J0}{Q:Unit->J4->Prop}(ho:s.heap.get? it=some o)(hc:o.cls=.type n)(hd:o.data=.fields vs)
    (hn:["enumerate","zip","dict_itemiterator","dict_reverseitemiterator","odict_iterator","itertools.zip_longest","itertools.pairwise"].contains n=false) (hQ:Q () s):L3 M A (ai6 tg (.ref it) u) Q E s:=by
  unfold ai6;cases tg<;>first
    |exact J3 hQ
    |(cases u<;>first
        |exact J3 hQ
        | (refine o0 (wpAny_load ho ?_)
           rw[hc,hd];show L3 M A (if(["enumerate","zip","dict_itemiterator","dict_reverseitemiterator","odict_iterator","itertools.zip_longest","itertools.pairwise"].contains n&&vs[0]?==some (ar7 _))=true then _ else _) Q E s;rw[if_neg (by intro h;rw[hn,S4]at h;cases h)];exact J3 hQ))
def Itl(K:H0)(a:K4):It :=
 ⟨λi H=>∃xs x,SqL K H a xs/\xs[i]?=some x,λi H x H'=>H'=H/\∀xs,SqL K H a xs->xs[i]?=some x,λi H=>∃xs,SqL K H a xs/\xs.length<=i⟩
def Itt(K:H0)(a:K4):It :=
 ⟨λi H=>∃xs x,SqT K H a xs/\xs[i]?=some x,λi H x H'=>H'=H/\∀xs,SqT K H a xs->xs[i]?=some x,λi H=>∃xs,SqT K H a xs/\xs.length<=i⟩
def Itr(lo:Int)(n:Nat):It:=⟨λi _=>i<n,λi H x H'=>H'=H/\x=.int (lo+i),λi _=>n<=i⟩
theorem oQ{P:N4}{w:S2}{K:H0}{tg:N8}(a it:K4):qS P w K tg (Itl K a) [it] it (λi h=>h.IsListIter it a i) where
 mem:=by simp
 obj:=λi h st b hb=>by
  have e:b=it:=by simpa using hb
  subst e;obtain⟨o,e,c,d⟩:=st;exact⟨o,e,λv z=>by rw[d]at z;cases z⟩
 keep:=λi h h' st k=>st.at λo e=>k it (by simp) o e
 item:=by
  intro X hP hw hK hc i af s σ H E I hf st hg;subst hP hw hK;obtain⟨xs,x,hq,hx⟩:=hg;obtain⟨its,rv,p,hz⟩:=I.list hq;obtain⟨u,hu,ru⟩:=rv.get hx;obtain⟨f0,f1,f2,f3,f4,f5⟩:=hf it (by simp);refine wpAny_pyNext_list_item st p.isList (x:=u) (by simpa using hu) λh' st' sb=>?_;have I1:Inv X af σ H { s with heap:=h' }:=I.turned (t':=s.toks) (λb o hb e=>(sb.2 b hb).trans e) f0 f1 f3 f4 f5;obtain⟨o,e,c,d⟩:=id st';exact⟨u,rfl,vZ (s:={ s with heap:=h' }) e c d (by decide) ⟨x,H,I1,ru,⟨rfl,λys hy=>by rw[I.list_inj hy hq];exact hx⟩,st',λb hb=>(hf b hb).1⟩⟩
 done:=by
  intro X hP hw hK hc i af s σ H E I hf st hg;subst hP hw hK;obtain⟨xs,hq,hx⟩:=hg;obtain⟨its,rv,p,hz⟩:=I.list hq;obtain⟨f0,f1,f2,f3,f4,f5⟩:=hf it (by simp);have hl:=rv.length;exact wpAny_pyNext_list_end (I.ok.hd hc) st p.isList (by simp;lia) λh' eb=>⟨rfl,I.turned (t':=s.toks) (λb o hb e=>eb b o hb e) f0 f1 f3 f4 f5⟩
 self:=λ_ _ _ _ _ st h=>wpAny_pyIter_listiter st h
theorem uR{P:N4}{w:S2}{K:H0}{tg:N8}(a it:K4):qS P w K tg (Itt K a) [it] it (λi h=>h.IsTupleIter it a i) where
 mem:=by simp
 obj:=λi h st b hb=>by
  have e:b=it:=by simpa using hb
  subst e;obtain⟨o,e,c,d⟩:=st;exact⟨o,e,λv z=>by rw[d]at z;cases z⟩
 keep:=λi h h' st k=>st.at λo e=>k it (by simp) o e
 item:=by
  intro X hP hw hK hc i af s σ H E I hf st hg;subst hP hw hK;obtain⟨xs,x,hq,hx⟩:=hg;obtain⟨its,rv,p,hz⟩:=I.tuple hq;obtain⟨u,hu,ru⟩:=rv.get hx;obtain⟨f0,f1,f2,f3,f4,f5⟩:=hf it (by simp);refine wpAny_pyNext_tuple_item st (show s.heap.IsTuple a its.toArray from p) (x:=u) (by simpa using hu) λh' st' sb=>?_;have I1:Inv X af σ H { s with heap:=h' }:=I.turned (t':=s.toks) (λb o hb e=>(sb.2 b hb).trans e) f0 f1 f3 f4 f5;obtain⟨o,e,c,d⟩:=id st';exact⟨u,rfl,vZ (s:={ s with heap:=h' }) e c d (by decide) ⟨x,H,I1,ru,⟨rfl,λys hy=>by rw[I.tuple_inj hy hq];exact hx⟩,st',λb hb=>(hf b hb).1⟩⟩
 done:=by
  intro X hP hw hK hc i af s σ H E I hf st hg;subst hP hw hK;obtain⟨xs,hq,hx⟩:=hg;obtain⟨its,rv,p,hz⟩:=I.tuple hq;obtain⟨f0,f1,f2,f3,f4,f5⟩:=hf it (by simp);have hl:=rv.length;exact wpAny_pyNext_tuple_end (I.ok.hd hc) st (show s.heap.IsTuple a its.toArray from p) (by simp;lia) λh' eb=>⟨rfl,I.turned (t':=s.toks) (λb o hb e=>eb b o hb e) f0 f1 f3 f4 f5⟩
 self:=λ_ _ _ _ _ st h=>wpAny_pyIter_tupleiter st h
theorem uO{P:N4}{w:S2}{K:H0}{tg:N8}(it:K4)(lo:Int)(n:Nat):qS P w K tg (Itr lo n) [it] it (λi h=>IsRangeIter h it (lo+(i:Nat)*1) ((n:Int)-(i:Nat)) 1) where
 mem:=by simp
 obj:=λi h st b hb=>by
  have e:b=it:=by simpa using hb
  subst e;exact⟨_,st,λv z=>by
   have z':Data.fields _=Data.cell v:=z;cases z'⟩
 keep:=λi h h' st k=>k it (by simp) _ st
 item:=by
  intro X hP hw hK hc i af s σ H E I hf st hg;subst hP hw hK;obtain⟨f0,f1,f2,f3,f4,f5⟩:=hf it (by simp);have W:=Walks.range (prog:=X.prog) (w:=X.w) (I.ok.hd hc) it lo 1 n;refine W.item i s _ _ hg st λv h' tk hv st' kk=>?_;obtain⟨t,rfl⟩:=hv;have I1:Inv X af σ H { s with heap:=h',toks:=tk }:=I.turned (λb o hb e=>kk b o (by simpa using hb) e) f0 f1 f3 f4 f5;refine⟨_,rfl,vZ (s:={ s with heap:=h',toks:=tk }) (n:="range_iterator") st' rfl rfl (by decide) ⟨.int (lo+i),H,I1,⟨t,?_⟩,⟨rfl,rfl⟩,st',λb hb=>(hf b hb).1⟩⟩;rw[Int.mul_one]
 done:=by
  intro X hP hw hK hc i af s σ H E I hf st hg;subst hP hw hK;obtain⟨f0,f1,f2,f3,f4,f5⟩:=hf it (by simp);exact wpAny_pyNext_range_end (I.ok.hd hc) st (by have:n<=i:=hg;lia) λh' eb=>⟨rfl,I.turned (t':=s.toks) (λb o hb e=>eb b o hb e) f0 f1 f3 f4 f5⟩
 self:=λ_ _ _ _ _ st h=>wpAny_pyIter_rangeiter st h
section
variable{X:Cx}{tg:N8}
theorem sP{af:List (K4×Obj)}{σ:St}{H:Hp}{s:J4}{R:It->Hp->Prop}{E:J0->J4->Prop}{lo hi:Int}{t u v:Tok}{tk:Nat}(I:Inv X af σ H s)(h1:-(2 ^ 62)<=lo)(h2:lo<2 ^ 62)(h3:-(2 ^ 62)<=hi)(h4:hi<2 ^ 62)
  (q:R (Itr lo (hi-lo).toNat) H):L3 (N9 X.prog X.w) X.A (ap2 (.ref s.heap.objs.size)) (PIE X af σ tg R) E { s with heap:=s.heap.push { cls:=.type "range",data:=.fields #[.int lo t,.int hi u,.int 1 v] },toks:=tk }:=by
 refine wpAny_pyIter_range (IsRange.new ..) (small_one h1 h2 h3 h4) ?_;have I1:Inv X af σ H { s with heap:=s.heap.push { cls:=.type "range",data:=.fields #[.int lo t,.int hi u,.int 1 v] },toks:=tk }:=I.kept λb o e=>I0 _ e;refine⟨(s.heap.push { cls:=.type "range",data:=.fields #[.int lo t,.int hi u,.int 1 v] }).objs.size,[(s.heap.push { cls:=.type "range",data:=.fields #[.int lo t,.int hi u,.int 1 v] }).objs.size],_,_,H,rfl,
  I1.kept (t':=tk) λb o e=>I0 _ e,uO _ lo (hi-lo).toNat,?_,λb hb=>?_,q⟩
 ·have e1:lo+((0:Nat):Int)*1=lo:=by simp
  have e2:(((hi-lo).toNat:Nat):Int)-((0:Nat):Int)=L6.Range.rangeSize lo hi 1:=by rw[rangeSize_one];split<;>lia
  show IsRangeIter _ _ (lo+((0:Nat):Int)*1) ((((hi-lo).toNat:Nat):Int)-((0:Nat):Int)) 1;rw[e1,e2];exact K6 _ rfl
 ·have e:b=(s.heap.push { cls:=.type "range",data:=.fields #[.int lo t,.int hi u,.int 1 v] }).objs.size:=by simpa using hb
  subst e;exact I1.fpOk (J6 _) (I1.hok.fresh (J6 _))
def F2(ta:TA):TI:=λσ H R=>ta σ H λvs H1=>∃j:Int,vs=[.int j]/\-(2 ^ 62)<=j/\j<2 ^ 62/\R (Itr 0 j.toNat) H1
def Fz(ta:TA):TI:=λσ H R=>ta σ H λvs H1=>∃i j:Int,vs=[.int i,.int j]/\(-(2 ^ 62)<=i/\i<2 ^ 62/\-(2 ^ 62)<=j/\j<2 ^ 62)/\R (Itr i (j-i).toNat) H1
theorem wA{a:N8}{ta:TA}{p pos:Pos}(hg:Gl X "range")(hm:X.mg "range"=none)(ha:PA X [a] ta)(hs:K8 [a] X.env=[(false,ad7 a X.env)]:=by rfl):PI X tg (.Call (.Name "range" p) [a] [] pos) (F2 ta):=by
 intro af s σ H R I h;refine Call_ (fv I hg hm boot_range (S6 (thn (ha pos af s σ H _ I h) λus s1 hup=>hup.el λvs H1 I1 r1 q1=>?_) hs rfl));obtain⟨j,e,q1,q2,q⟩:=q1;subst e;cases r1 with
 |cons r rr =>
  cases rr;obtain⟨t,rfl⟩:=r;exact call_range_1 (sP I1 (by lia) (by lia) q1 q2 (by simpa using q))
theorem wj{a b:N8}{ta:TA}{p pos:Pos}(hg:Gl X "range")(hm:X.mg "range"=none)(ha:PA X [a,b] ta)(hs:K8 [a,b] X.env=[(false,ad7 a X.env),(false,ad7 b X.env)]:=by rfl)(hs2:K8 [b] X.env=[(false,ad7 b X.env)]:=by rfl):
  PI X tg (.Call (.Name "range" p) [a,b] [] pos) (Fz ta):=by
 intro af s σ H R I h;refine Call_ (fv I hg hm boot_range (S6 (thn (ha pos af s σ H _ I h) λus s1 hup=>hup.el λvs H1 I1 r1 q1=>?_) (by rw[hs,hs2]) (by rw[hs2];rfl)));obtain⟨i,j,e,⟨q1,q2,q3,q4⟩,q⟩:=q1;subst e;cases r1 with
 |cons r rr =>
  cases rr with
  |cons r' rr =>
   cases rr;obtain⟨t,rfl⟩:=r;obtain⟨t',rfl⟩:=r';exact call_range_2 (sP I1 q1 q2 q3 q4 q)
def GX(wi:TI)(g:TG)(tb:TS):TS:=λD σ H=>wi σ H λJ H1=>∃W:Nat->Nat->St->Hp->Prop,(∃m,W 0 m σ H1)/\∀i m σ H,W i m σ H ->
 (J.stop i H/\D.nx σ H)∨(J.go i H/\∃N:St->Hp->Prop,(∀ σ' H',N σ' H'->∃m',m'<m/\W (i+1) m' σ' H')/\∀x H',J.yld i H x H'->g x σ H' λσ2 H2=>tb { D with nx:=N,ct:=N,bk:=D.nx } σ2 H2)
def jI(fp:List K4)(h:N0):List (K4×Obj):=fp.filterMap λb=>(h.get? b).map λo=>(b,o)
theorem gn{fp:List K4}{h:N0}{b:K4}{o:Obj}(hb:b∈fp)(e:h.get? b=some o):(b,o)∈jI fp h:=ac0.mpr ⟨b,hb,by rw[e];rfl⟩
theorem oV{fp:List K4}{h:N0}{p:K4×Obj}(hp:p∈jI fp h):p.1∈fp/\h.get? p.1=some p.2:=by
 obtain⟨b,hb,e⟩:=ac0.mp hp;cases q:h.get? b with
 |none=>rw[q]at e;cases e
 |some o =>
  rw[q]at e;have e':(b,o)=p:=R7 e;subst e';exact⟨hb,q⟩
theorem Inv.pinned{af:List (K4×Obj)}{σ:St}{H:Hp}{s:J4}{fp:List K4}(I:Inv X af σ H s)(hf:∀b∈fp,gI X af H b)(ho:∀b∈fp,∃o,s.heap.get? b=some o/\∀v,o.data≠.cell v):Inv X (af++jI fp s.heap) σ H s :=
 I.pins_of λp hp=>(K1.mp hp).elim (λz=>I.pin p (O8 _ z)) λz=>by
  obtain⟨hb,e⟩:=oV z;obtain⟨f0,f1,f2,_⟩:=hf p.1 hb;obtain⟨o,e',d⟩:=ho p.1 hb;rw[e]at e';cases e';exact⟨e,f0,f1,f2,d⟩
theorem Inv.unpinned{af pl:List (K4×Obj)}{σ:St}{H:Hp}{s:J4}(I:Inv X (af++pl) σ H s):Inv X af σ H s:=I.pins_of λp hp=>I.pin p (O8 _ (U0 _ hp))
theorem CQ{iter:N8}{body:List aa6}{wi:TI}{g:TG}{tb:TS}{pos:Pos}(hp:R8 (N9 X.prog X.w) X.A X.env X.xe)(hc:X.calm=true)(hi:PI X tg iter wi)(hg:PG X tg g)(hb:PSs X body tb)
  (hs:∀x,R3 iter X.env x=ag9 x:=by intro _;rfl):PS X (.For tg iter body [] pos) (GX wi g tb):=by
 intro af s σ H D I h;refine wpAny_For (thn (hi af s σ H _ I h) λv s1 h1=>thn h1 λitv s2 h2=>?_) hs;obtain⟨it,fp,tn,J,H2,e,I2,T,st2,f2,W,⟨m0,w0⟩,turn⟩:=h2;subst e
 -- what stays true of the iterator's objects through the loop
 have stat:∀{H':Hp},(∀b∈fp,H' b=none)->∀b∈fp,gI X af H' b:=λhn b hb=>⟨hn b hb,(f2 b hb).2⟩;refine codeAny_forLoop_any (λn s'=>∃i σ' H',Inv X af σ' H' s'/\tn i s'.heap/\(∀b∈fp,H' b=none)/\W i n σ' H') ?_ m0 ⟨0,σ,H2,I2,st2,λb hb=>(f2 b hb).1,w0⟩;rintro n s3 ⟨i,σ3,H3,I3,st3,fr3,w3⟩;rcases turn i n σ3 H3 w3 with⟨stop,qn⟩|⟨go,N,hN,step⟩
 ·refine ad0 hp (thn (T.done X rfl rfl rfl hc i af s3 σ3 H3 X.xe I3 (stat fr3) st3 stop) λr s4 ⟨hr,I4⟩=>?_);subst hr;exact al2 ⟨σ3,H3,I4,qn⟩
 ·refine ad0 hp (thn (T.item X rfl rfl rfl hc i af s3 σ3 H3 X.xe I3 (stat fr3) st3 go) λr s4 ⟨u,hr,h4⟩=>?_);subst hr;refine ad0 hp (thn h4 λ_ s5 ⟨x,H5,I5,r5,y5,st5,fr5⟩=>?_);have I5':=I5.pinned (stat fr5) (T.obj _ _ st5);refine ad0 hp (thn (hg _ s5 σ3 H5 x u _ I5' r5 (step x H5 y5)) λ_ s6 ⟨σ6,H6,I6,q6⟩=>?_);refine ad0 hp (thn (hb _ s6 σ6 H6 _ I6 q6) λf s7 q7=>?_);have again:∀{σ7:St} {H7:Hp},Inv X (af++jI fp s5.heap) σ7 H7 s7->N σ7 H7->∃m,m<n/\∃i σ' H',Inv X af σ' H' s7/\tn i s7.heap/\(∀b∈fp,H' b=none)/\W i m σ' H':=λ{σ7 H7} I7 n7=>by
   obtain⟨m',hm,w7⟩:=hN σ7 H7 n7;refine⟨m',hm,i+1,σ7,H7,I7.unpinned,T.keep _ _ _ st5 λb hb o e=>(I7.pin (b,o) (O8 _ (O8 _ (gn hb e)))).1,λb hb=>?_,w7⟩;obtain⟨o,e,d⟩:=T.obj _ _ st5 b hb;exact(I7.pin (b,o) (O8 _ (O8 _ (gn hb e)))).2.1
  cases f with
  |next=>obtain⟨σ7,H7,I7,n7⟩:=q7;exact again I7 n7
  |cont=>obtain⟨σ7,H7,I7,n7⟩:=q7;exact again I7 n7
  |brk=>obtain⟨σ7,H7,I7,q7⟩:=q7;exact⟨σ7,H7,I7.unpinned,q7⟩
  |ret v=>obtain⟨x7,σ7,H7,I7,r7,q7⟩:=q7;exact⟨x7,σ7,H7,I7.unpinned,r7,q7⟩
end
abbrev R2:=V->V->Hp->VK->Prop
def OpR(X:Cx)(f:J0->J0->Sem J0)(r:R2):Prop :=
 ∀(af:List (K4×Obj)) (s:J4) (σ:St) (H:Hp) (x y:V) (v u:J0) (Q:VK),Inv X af σ H s->aL x v->aL y u->r x y H Q ->
  L3 (N9 X.prog X.w) X.A (f v u) (EP X af σ Q) X.xe s
def UnR(X:Cx)(f:J0->Sem J0)(r:V->Hp->VK->Prop):Prop :=
 ∀(af:List (K4×Obj)) (s:J4) (σ:St) (H:Hp) (x:V) (v:J0) (Q:VK),Inv X af σ H s->aL x v->r x H Q ->
  L3 (N9 X.prog X.w) X.A (f v) (EP X af σ Q) X.xe s
def dD(X:Cx)(f:J0)(r:List V->Hp->VK->Prop):Prop :=
 ∀(af:List (K4×Obj)) (s:J4) (σ:St) (H:Hp) (xs:List V) (us:List J0) (Q:VK),Inv X af σ H s->ay xs us->r xs H Q ->
  L3 (N9 X.prog X.w) X.A (call f us) (EP X af σ Q) X.xe s
def tOp(r:R2)(ta tb:TE):TE:=λσ H Q=>ta σ H λx H1=>tb σ H1 λy H2=>r x y H2 Q
def tUn(r:V->Hp->VK->Prop)(ta:TE):TE:=λσ H Q=>ta σ H λx H1=>r x H1 Q
def rI(C:Int->Int->Prop)(g:Int->Int->V):R2:=λx y H Q=>∃i j,x=.int i/\y=.int j/\C i j/\Q (g i j) H
def rI0(g:Int->Int->V):R2:=λx y H Q=>∃i j,x=.int i/\y=.int j/\Q (g i j) H
def rU(g:Int->V):V->Hp->VK->Prop:=λx H Q=>∃i,x=.int i/\Q (g i) H
section
variable{X:Cx}{a b c:N8}{ta tb tc:TE}{pos:Pos}
theorem Em(ha:PE X a ta)(hb:PE X b tb){af:List (K4×Obj)}{s:J4}{σ:St}{H:Hp}{R:V->V->Hp->Prop}(I:Inv X af σ H s)
  (h:ta σ H λx H1=>tb σ H1 λy H2=>R x y H2) {Q:J0->J4->Prop} {f:J0->J0->Sem J0}
  (hf:∀v u s2 x y H2,Inv X af σ H2 s2->aL x v->aL y u->R x y H2->L3 (N9 X.prog X.w) X.A (f v u) Q X.xe s2) :
  L3 (N9 X.prog X.w) X.A (ad7 a X.env) (λv s₁=>L3 (N9 X.prog X.w) X.A (ad7 b X.env) (λu s₂=>L3 (N9 X.prog X.w) X.A (f v u) Q X.xe s₂) X.xe s₁) X.xe s:=by
 refine thn (ha af s σ H _ I h) λv s1 hup=>hup.el λx H1 I1 r1 q1=>?_;refine thn (hb af s1 σ H1 _ I1 q1) λu s2 hup=>hup.el λy H2 I2 r2 q2=>?_;exact hf v u s2 x y H2 I2 r1 r2 q2
theorem Ct{op:ar1}{r:R2}(ho:OpR X (Z9 op) r)(ha:PE X a ta)(hb:PE X b tb):PE X (.BinOp a op b pos) (tOp r ta tb):=by
 intro af s σ H Q I h;exact wpAny_BinOp (Em ha hb I h λv u s2 x y H2 I2 rx ry q=>ho af s2 σ H2 x y v u Q I2 rx ry q)
theorem FE{op:UnaryOp}{r:V->Hp->VK->Prop}(ho:UnR X (unaryOp op) r)(ha:PE X a ta):PE X (.UnaryOp op a pos) (tUn r ta):=by
 intro af s σ H Q I h;exact UnaryOp_ (thn (ha af s σ H _ I h) λv s1 hup=>hup.el λx H1 I1 r1 q1=>ho af s1 σ H1 x v Q I1 r1 q1)
theorem opI{f:J0->J0->Sem J0}{C:Int->Int->Prop}{g:Int->Int->Int}
  (rule:∀(i j:Int) (t u:Tok) (s:J4) (Q:J0->J4->Prop) (E:J0->J4->Prop),C i j->Q (.int (g i j) s.toks) { s with toks:=s.toks+1 }->L3 (N9 X.prog X.w) X.A (f (.int i t) (.int j u)) Q E s) :
  OpR X f (rI C λi j=>.int (g i j)):=by
 intro af s σ H x y v u Q I rx ry h;obtain⟨i,j,rfl,rfl,hc,q⟩:=h;obtain⟨t,rfl⟩:=rx;obtain⟨t',rfl⟩:=ry;exact rule i j t t' s _ _ hc ⟨.int (g i j),H,I.tok _,⟨_,rfl⟩,q⟩
theorem FA{f:J0->J0->Sem J0}{g:Int->Int->Int}
  (rule:∀(i j:Int) (t u:Tok) (s:J4) (Q:J0->J4->Prop) (E:J0->J4->Prop),Q (.int (g i j) s.toks) { s with toks:=s.toks+1 }->L3 (N9 X.prog X.w) X.A (f (.int i t) (.int j u)) Q E s) :
  OpR X f (rI0 λi j=>.int (g i j)):=by
 intro af s σ H x y v u Q I rx ry h;obtain⟨i,j,rfl,rfl,q⟩:=h;obtain⟨t,rfl⟩:=rx;obtain⟨t',rfl⟩:=ry;exact rule i j t t' s _ _ ⟨.int (g i j),H,I.tok _,⟨_,rfl⟩,q⟩
theorem BS{f:J0->J0->Sem J0}{g:Int->Int->Bool}
  (rule:∀(i j:Int) (t u:Tok) (s:J4) (Q:J0->J4->Prop) (E:J0->J4->Prop),Q (.bool (g i j)) s->L3 (N9 X.prog X.w) X.A (f (.int i t) (.int j u)) Q E s) :
  OpR X f (rI0 λi j=>.bl (g i j)):=by
 intro af s σ H x y v u Q I rx ry h;obtain⟨i,j,rfl,rfl,q⟩:=h;obtain⟨t,rfl⟩:=rx;obtain⟨t',rfl⟩:=ry;exact rule i j t t' s _ _ ⟨.bl (g i j),H,I,rfl,q⟩
def qE(i j:Int):Prop:=0<j/\j<1073741824
def ox(i j:Int):Prop:=0<=j/\j<=1000000/\i.natAbs<2 ^ 64
def lb(i j:Int):Prop:=(-(2 ^ 64)<i/\i<2 ^ 64)∨(-(2 ^ 64)<j/\j<2 ^ 64)
theorem lb.ok{i j:Int}(h:lb i j):IntMulOk i j:=by
 rcases h with⟨h1,h2⟩|⟨h1,h2⟩
 ·exact .of_left (intBits_le_64 h1 h2)
 ·exact .of_right (intBits_le_64 h1 h2)
theorem DU:OpR X (Z9 .Add) (rI0 λi j=>.int (i+j)):=FA λ_ _ _ _ _ _ _ q=>add_int q
theorem CU:OpR X (Z9 .Sub) (rI0 λi j=>.int (i-j)):=FA λ_ _ _ _ _ _ _ q=>sub_int q
theorem Da:OpR X (Z9 .Mult) (rI lb λi j=>.int (i*j)):=opI λ_ _ _ _ _ _ _ hc q=>mul_int q hc.ok
theorem AL:OpR X (Z9 .FloorDiv) (rI qE λi j=>.int (i / j)):=opI λi j _ _ _ _ _ hc q=>by
 have h1:(0:Int)<j:=hc.1;have h2:j<1073741824:=hc.2;exact floordiv_int (by lia) (by rw[Int.fdiv_eq_ediv_of_nonneg i (by lia)];exact q) (.inl (PyProof.noPylong_small (by lia)))
theorem De:OpR X (Z9 .Mod) (rI (λ_ j=>0<j) λi j=>.int (i % j)):=opI λi j _ _ _ _ _ hc q=>by
 have h1:(0:Int)<j:=hc;exact mod_int' (by lia) (by rw[Int.fmod_eq_emod_of_nonneg i (by lia)];exact q)
theorem Dk:OpR X (Z9 .Pow) (rI ox λi j=>.int (i ^ j.toNat)):=opI λ_ _ _ _ _ _ _ hc q=>pow_int_small hc.1 hc.2.1 hc.2.2 q
theorem unI{f:J0->Sem J0}{g:Int->Int}
  (rule:∀(i:Int) (t:Tok) (s:J4) (Q:J0->J4->Prop) (E:J0->J4->Prop),Q (.int (g i) s.toks) { s with toks:=s.toks+1 }->L3 (N9 X.prog X.w) X.A (f (.int i t)) Q E s) :
  UnR X f (rU λi=>.int (g i)):=by
 intro af s σ H x v Q I rx h;obtain⟨i,rfl,q⟩:=h;obtain⟨t,rfl⟩:=rx;exact rule i t s _ _ ⟨.int (g i),H,I.tok _,⟨_,rfl⟩,q⟩
theorem CZ:UnR X (unaryOp .USub) (rU λi=>.int (-i)):=unI λ_ _ _ _ _ q=>neg_int q
end
section
variable{X:Cx}{a b c:N8}{ta tb tc:TE}{pos:Pos}
theorem ub{af:List (K4×Obj)}{σ:St}{H:Hp}{s:J4}{Q:VK}{k k':Bool}(I:Inv X af σ H s)(q:Q (.bl k) H)(e:k=k'):EP X af σ Q (.bool k') s:=by
 subst e;exact⟨.bl k,H,I,rfl,q⟩
theorem Gc:OpR X (Q0 .Lt) (rI0 λi j=>.bl (decide (i<j))):=BS λ_ _ _ _ _ _ _ q=>lt_int q
theorem EZ:OpR X (Q0 .LtE) (rI0 λi j=>.bl (decide (i<=j))):=BS λ_ _ _ _ _ _ _ q=>le_int q
theorem ET:OpR X (Q0 .Gt) (rI0 λi j=>.bl (decide (j<i))):=BS λ_ _ _ _ _ _ _ q=>gt_int q
theorem FB:OpR X (Q0 .GtE) (rI0 λi j=>.bl (decide (j<=i))):=BS λ_ _ _ _ _ _ _ q=>ge_int q
theorem wq:OpR X (Q0 .In) (λx y H Q=>∃i j,x=.str i/\y=.str j/\Q (.bl (!(ae1 j i 0 j.length 1).isEmpty)) H):=by
 intro af s σ H x y v u Q I rx ry h;obtain⟨i,j,rfl,rfl,q⟩:=h;obtain⟨t,rfl⟩:=rx;obtain⟨t',rfl⟩:=ry;exact in_str (ub I q rfl)
theorem CY:OpR X (Q0 .Is) (λx y H Q=>y=.non/\Q (.bl (decide (x=.non))) H):=by
 intro af s σ H x y v u Q I rx ry h;obtain⟨rfl,q⟩:=h;cases ry;refine is_none_gen (ub I q ?_);cases x<;>first
  |(cases rx;rfl)
  |(obtain⟨t,rfl⟩:=rx;rfl)
theorem qV:OpR X (Q0 .NotIn) (λx y H Q=>∃i j,x=.str i/\y=.str j/\Q (.bl (!(!(ae1 j i 0 j.length 1).isEmpty))) H):=by
 intro af s σ H x y v u Q I rx ry h;obtain⟨i,j,rfl,rfl,q⟩:=h;obtain⟨t,rfl⟩:=rx;obtain⟨t',rfl⟩:=ry;exact notIn_str (ub I q rfl)
theorem AN{op:ao3}{r:R2}(ho:OpR X (Q0 op) r)(ha:PE X a ta)(hb:PE X b tb)(hm:Z3 op b=false):PE X (.Compare a [op] [b] pos) (tOp r ta tb):=by
 intro af s σ H Q I h;exact wpAny_Compare1 (Em ha hb I h λv u s2 x y H2 I2 rx ry q=>ho af s2 σ H2 x y v u Q I2 rx ry q) hm
def B5(t:TE):TT:=λσ H Q=>t σ H λx H'=>∃k,x=.bl k/\Q k H'
theorem Am{op:ao3}{r:R2}(ho:OpR X (Q0 op) r)(ha:PE X a ta)(hb:PE X b tb)(hm:Z3 op b=false):PT X (.Compare a [op] [b] pos) (B5 (tOp r ta tb)):=by
 intro af s σ H Q I h;refine wpAny_isTrue_Compare1 (thn (ha af s σ H _ I h) λv s1 hup=>hup.el λx H1 I1 r1 q1=>thn (hb af s1 σ H1 _ I1 q1) λu s2 hup=>hup.el λy H2 I2 r2 q2 =>
  thn (ho af s2 σ H2 x y v u _ I2 r1 r2 q2) λc s3 ⟨z,H3,I3,r3,k,e,q3⟩=>?_) hm
 subst e;cases r3;exact V5 ⟨H3,I3,q3⟩
def C0(r r':R2)(ta tb tc:TE):TE:=λσ H Q=>ta σ H λx H1=>tb σ H1 λy H2=>r x y H2 λz H3=>∃k,z=.bl k /\
 (if k=true then tc σ H3 λw' H4=>r' y w' H4 Q else Q (.bl false) H3)
theorem yT{op op':ao3}{r r':R2}(ho:OpR X (Q0 op) r)(ho':OpR X (Q0 op') r')(ha:PE X a ta)(hb:PE X b tb)(hc:PE X c tc)
  (hm:ar8 [op,op'] [b,c]=false:=by with_unfolding_all rfl):PE X (.Compare a [op,op'] [b,c] pos) (C0 r r' ta tb tc):=by
 intro af s σ H Q I h;refine Compare_chain (thn (ha af s σ H _ I h) λv s1 hup=>hup.el λx H1 I1 r1 q1=>chain_link (thn (hb af s1 σ H1 _ I1 q1) λu s2 hup=>hup.el λy H2 I2 r2 q2 =>
  thn (ho af s2 σ H2 x y v u _ I2 r1 r2 q2) λd s3 ⟨z,H3,I3,r3,k,e,q3⟩=>?_)) hm
 subst e;cases r3;refine V5 ?_;cases k with
 |false=>exact ite_ff ⟨.bl false,H3,I3,rfl,q3⟩
 |true=>exact ite_tt (chain_last (thn (hc af s3 σ H3 _ I3 q3) λw' s4 ⟨z',H4,I4,r4,q4⟩=>ho' af s4 σ H4 y z' u w' Q I4 r2 r4 q4))
theorem m5:(J7:Nat)<2 ^ 63:=by rw[af1];decide
theorem uw:OpR X (Z9 .Add) (λx y H Q=>∃i j,x=.str i/\y=.str j/\i.length+j.length<=J7/\Q (.str (i++j)) H):=by
 intro af s σ H x y v u Q I rx ry h;obtain⟨i,j,rfl,rfl,hz,q⟩:=h;obtain⟨t,rfl⟩:=rx;obtain⟨t',rfl⟩:=ry;exact add_str (λt' tk=>⟨.str (i++j),H,I.tok _,⟨_,rfl⟩,q⟩) hz
theorem sU{x:V}{us:List J0}(r:ay [x] us):∃u,us=[u]/\aL x u:=by
 cases r with
 |cons r1 r2=>cases r2;exact⟨_,rfl,r1⟩
theorem E1{x y:V}{us:List J0}(r:ay [x,y] us):∃u w',us=[u,w']/\aL x u/\aL y w':=by
 cases r with
 |cons r1 r2 =>
  cases r2 with
  |cons r3 r4=>cases r4;exact⟨_,_,rfl,r1,r3⟩
theorem xK:dD X (.builtin "abs") (λxs H Q=>∃i,xs=[.int i]/\Q (.int (if i<0 then -i else i)) H):=by
 intro af s σ H xs us Q I r h;obtain⟨i,rfl,q⟩:=h;obtain⟨u,rfl,t,rfl⟩:=sU r;exact call_abs_int λu tk=>⟨.int (if i<0 then -i else i),H,I.tok _,⟨_,rfl⟩,q⟩
theorem wX(hc:X.calm=true):dD X (.builtin "max") (λxs H Q=>∃i j,xs=[.int i,.int j]/\Q (.int (if j > i then j else i)) H):=by
 intro af s σ H xs us Q I r h;obtain⟨i,j,rfl,q⟩:=h;obtain⟨u,w',rfl,⟨t,rfl⟩,⟨t',rfl⟩⟩:=E1 r;refine max_two_ints (I.ok.hd hc) λh' tk k=>⟨_,H,I.kept k,?_,q⟩
 by_cases hj:j > i
 ·rw[if_pos hj,if_pos hj];exact⟨_,rfl⟩
 ·rw[if_neg hj,if_neg hj];exact⟨_,rfl⟩
end
theorem l8.some_of{v:V}{o:Option J0}(r:l8 (some v) o):∃u,o=some u/\aL v u:=by
 cases o with
 |none=>exact(show False from r).elim
 |some u=>exact⟨u,rfl,r⟩
structure de(k:Nat) (A:P5):Prop where
 hd:A.handled=none
 dp:A.depth+3*k+5<recursionLimit
 un:A.units+16*k+200<ac8
theorem de.mono{j k:Nat}{A:P5}(r:de k A)(h:j<=k):de j A:=⟨r.hd,by have:=r.dp;lia,by have:=r.un;lia⟩
theorem de.deeper{k:Nat}{A:P5}(r:de (k+1) A)(env:Env):de k (A.deeper env) :=
 ⟨r.hd,by have:=r.dp;show A.depth+1+3*k+5<_;lia,by have:=r.un;show A.units+3+16*k+200<_;lia⟩
theorem de.depth{k:Nat}{A:P5}(r:de k A):A.depth<recursionLimit:=by have:=r.dp;lia
theorem de.units{k:Nat}{A:P5}(r:de k A):A.units+64<ac8:=by have:=r.un;lia
def GG:TA:=λ_ H Q=>Q [] H
def Fj(ta:TE)(tr:TA):TA:=λσ H Q=>ta σ H λx H1=>tr σ H1 λxs H2=>Q (x::xs) H2
section
variable{X:Cx}{e:N8}{es:List N8}{te:TE}{t:TA}{pos:Pos}
theorem m6:PA X [] GG:=λ_ _ _ _ H Q I h=>af9 ⟨[],H,I,.nil,h⟩
theorem iM(ha:PE X e te)(hr:PA X es t)(hs:K8 (e::es) X.env=(false,ad7 e X.env)::K8 es X.env:=by rfl):PA X (e::es) (Fj te t):=by
 intro pos af s σ H Q I h;rw[hs];show L3 _ _ (spliced ((false,ad7 e X.env)::ab1 pos (K8 es X.env))) _ _ s;refine ai7 (thn (ha af s σ H _ I h) λu s1 hup=>hup.el λx H1 I1 r1 q1=>?_);exact thn (hr pos af s1 σ H1 _ I1 q1) λus s2 hup=>hup.el λxs H2 I2 r2 q2=>⟨x::xs,H2,I2,.cons r1 r2,q2⟩
def E3(t:TA):TE:=λσ H Q=>t σ H λxs H1=>xs.length<=J7/\∀p,H1 p=none->Q (.ref p) (upd H1 p (.tup xs))
def GV(t:TA):TE:=λσ H Q=>t σ H λxs H1=>xs.length<=J7/\∀p,H1 p=none->Q (.ref p) (upd H1 p (.lst xs))
theorem qi{x1}(h:PA X es t):PE X (.Tuple es x1 pos) (E3 t):=by
 intro af s σ H Q I hq;refine wpAny_Tuple_spliced (thn (h pos af s σ H _ I hq) λus s1 ⟨xs,H1,I1,r,z,q⟩=>⟨by rw[<-r.length];exact z,?_⟩);have hf:H1 s1.heap.objs.size=none:=I1.hok.fresh (J6 _);refine⟨.ref s1.heap.objs.size,upd H1 s1.heap.objs.size (.tup xs),I1.laid (t':=s1.toks) (λb u e=>I0 _ e) (J6 _) ?_,rfl,q _ hf⟩;exact⟨z,us,r,⟨_,K6 _ rfl,rfl,⟨_,rfl⟩,rfl⟩⟩
theorem zO(h:PA X es t):PE X (.List es pos) (GV t):=by
 intro af s σ H Q I hq;refine wpAny_List_spliced (thn (h pos af s σ H _ I hq) λus s1 ⟨xs,H1,I1,r,z,q⟩=>⟨by rw[<-r.length];exact z,?_⟩);have hf:H1 s1.heap.objs.size=none:=I1.hok.fresh (J6 _);refine⟨.ref s1.heap.objs.size,upd H1 s1.heap.objs.size (.lst xs),I1.laid (t':=s1.toks) (λb u e=>I0 _ e) (J6 _) ?_,rfl,q _ hf⟩;exact⟨z,us,0,r,K6 _ rfl⟩
end
abbrev Sp:=List V->Hp->VK->XK->Prop
abbrev CXT:=List Env->Hp->J4->XK->J0->J4->Prop
structure BP(P:N4) (w:S2) (K:H0) (mg:Str->Option J0) (base:N0) (A:P5) (outer:List Env) (s:J4) (H:Hp):Prop where
 frames:A.frames=some outer
 mod:Mod K mg base
 bs:∀b o,base.get? b=some o->s.heap.get? b=some o/\H b=none
 bsz:base.objs.size<=s.heap.objs.size
 funs:s.heap.FunFrames base outer
 frf:∀b∈frs outer,H b=none
 hok:HOk P w H s.heap
 bare:an5 s.gens
def CE(outer:List Env)(P:N4)(w:S2)(H:Hp)(s:J4)(Q:VK)(u:J0)(s':J4):Prop :=
 ∃v H',s'.os=s.os/\an5 s'.gens/\Un (frs outer) [] H H' s.heap s'.heap/\HOk P w H' s'.heap/\aL v u/\Q v H'
def CR(CX:CXT)(outer:List Env)(P:N4)(w:S2)(H:Hp)(s:J4)(Q:VK)(E:XK)(r:ar9)(s':J4):Prop :=
 match r with
 |.ok (.ret u)=>CE outer P w H s Q u s'
 |.ok _=>False
 |.error e=>CX outer H s E e s'
structure aV(P:N4) (w:S2) (K:H0) (mg:Str->Option J0) (base:N0) (CX:CXT) (k:Nat) (f:K4) (fd:L4) (ps:List Str) (sp:Sp):Prop where
 len:∀vs H Q E,sp vs H Q E->vs.length=ps.length
 run:∀(A:P5) (outer:List Env) (s:J4) (H:Hp) (args:Args) (us:List J0) (vs:List V) (Q:VK) (E:XK),de k A->BP P w K mg base A outer s H->aq6 s fd args (ps.zip us)->ay vs us->sp vs H Q E ->
  ah7 (N9 P w) A (.call (.ref f) args) (CR CX outer P w H s Q E) s
section
variable{X:Cx}{af:List (K4×Obj)}{σ:St}{H:Hp}{s s':J4}
theorem Inv.env0(I:Inv X af σ H s):BP X.prog X.w X.K X.mg X.base X.A X.stack s H :=
 ⟨I.ok.frames,I.ok.mod,I.bs,R6 I.ok.bsz I.sz,I.stack,I.stkFree,I.hok,I.bare⟩
theorem Inv.after{Q:VK}{u:J0}(I:Inv X af σ H s)(h:CE X.stack X.prog X.w H s Q u s'):EP X af σ Q u s':=by
 obtain⟨v,H',os,bare,un,hok,r,q⟩:=h;obtain⟨hh,g,d,t,os'⟩:=s';obtain rfl:os'=s.os:=os;exact⟨v,H',I.call (h':=hh) (g':=g) (d':=d) (t':=t) (ch:=[]) un hok bare (λb z=>absurd z (by simp)),r,q⟩
end
def EV(sp:Sp)(dvs:List V)(E:XK)(t:TA):TE:=λσ H Q=>t σ H λvs H1=>sp (vs++dvs) H1 Q E
def eY(K:H0)(fd:L4)(ps:List Str)(ds:List J0):Prop :=
 ∀(s:J4) (us:List J0),K.In s.heap->(us++ds).length=ps.length->aq6 s fd ⟨us,[]⟩ (ps.zip (us++ds))
theorem eY.all{K:H0}{fd:L4}{ps:List Str}(h:∀us:List J0,us.length=ps.length->bindArgs fd ⟨us,[]⟩=ag9 (ps.zip us)):eY K fd ps []:=λs us _ hl=>by
 rw[ad1]at hl ⊢;exact .of_eq (h us hl)
def uk(CX:CXT)(X:Cx)(E:XK):Prop:=∀(af:List (K4×Obj)) (σ:St) (H:Hp) (s:J4) (e:J0) (s':J4),Inv X af σ H s->CX X.stack H s E e s'->X.xe e s'
section
variable{X:Cx}{CX:CXT}{k:Nat}{f C:K4}{fd:L4}{ps:List Str}{sp:Sp}{dvs:List V}{ds:List J0}{E:XK}{x m:Str}{p pos eU:Pos}{e o:N8}{es:List N8}{ta:TE}{t:TA}
theorem zq{af:List (K4×Obj)}{σ:St}{H:Hp}{s:J4}{Q:VK}{us:List J0}{vs:List V}(F:aV X.prog X.w X.K X.mg X.base CX k f fd ps sp)(hr:de k X.A)(hb:eY X.K fd ps ds)(hd:ay dvs ds)(hx:uk CX X E)
  (I:Inv X af σ H s) (r:ay vs us) (h:sp (vs++dvs) H Q E):L3 (N9 X.prog X.w) X.A (call (.ref f) us) (EP X af σ Q) X.xe s:=by
 have r2:ay (vs++dvs) (us++ds):=r.append hd;have hl:(us++ds).length=ps.length:=by rw[<-r2.length];exact F.len _ _ _ _ h
 refine wpAny_call (ad8 (F.run X.A X.stack s H ⟨us,[]⟩ (us++ds) (vs++dvs) Q E hr I.env0 (hb s us I.kIn hl) r2 h) λr s' hq=>?_);cases r with
 |error e=>exact hx af σ H s e s' I hq
 |ok fl =>
  cases fl with
  |ret u=>exact I.after hq
  |next=>exact ab7 hq
  |brk=>exact ab7 hq
  |cont=>exact ab7 hq
theorem BN(F:aV X.prog X.w X.K X.mg X.base CX k f fd ps sp)(hr:de k X.A)(hg:Gl X x)(hm:X.mg x=some (.ref f))(hk:ac5 X.K (.ref f)=true)(hb:eY X.K fd ps ds)(hd:ay dvs ds)(hx:uk CX X E)
  (ha:PA X (e::es) t) (hdb:(x==("__debug__":Str))=false:=by decide) (he:K8 (e::es) X.env=(false,ad7 e X.env)::K8 es X.env:=by rfl) (hpl:(ab1 pos (K8 es X.env)).any (·.1)=false:=by rfl) :
  PE X (.Call (.Name x p) (e::es) [] pos) (EV sp dvs E t):=by
 intro af s σ H Q I h;refine aa0 (ml I hg hm ?_ hdb);refine PySem.W.callWith_K (h₀:=X.base) I.ok.mod.kin hk (thn (ha pos af s σ H _ I h) λus s1 hup=>hup.el λvs H1 I1 r q=>⟨I1.kIn,?_⟩) he hpl;exact zq F hr hb hd hx I1 r q
end
structure aw(N P:List Str) (sc:af8):Prop where
 kind:sc.kind=.function
 co:sc.isCoroutine=false
 gen:sc.isGenerator=false
 nd:N.Nodup
 pre:N.take P.length=P
 par:∀x∈P,sc.names.lookup x=some .local∨sc.names.lookup x=some .cell
 nofree:∀y∈sc.names,y.2≠.free
theorem pF{am7:Str->Option U6}{x:Str}:∀{binds:List (Str×J0)}{m:Str->Option J0},(∀v,(x,v)∉binds)->bindL am7 binds m x=m x
 |[],_,_=>rfl
 |(n,v)::r,m,h=>by
  unfold bindL;rw[pF λw hw=>h w (O6 _ hw)]
  split
  ·have:x≠n:=by rintro rfl;exact h v R4
   simp[this]
  ·rfl
theorem pe{am7:Str->Option U6}{x:Str}:∀{binds:List (Str×J0)}{m:Str->Option J0},(∀v,(x,v)∉binds)->bindC am7 binds m x=m x
 |[],_,_=>rfl
 |(n,v)::r,m,h=>by
  unfold bindC;rw[pe λw hw=>h w (O6 _ hw)]
  split
  ·rfl
  ·have:x≠n:=by rintro rfl;exact h v R4
   simp[this]
theorem pK{am7:Str->Option U6}{x:Str}{v:J0}:∀{P:List Str}{vs:List J0}{i:Nat}{m:Str->Option J0},P.Nodup->P[i]?=some x->vs[i]?=some v->am7 x=some .local ->
  bindL am7 (P.zip vs) m x=some v
 |[],_,_,_,_,h,_,_=>by simp at h
 |_::_,[],_,_,_,_,h,_=>by simp at h
 |p::P,w::vs,0,m,nd,h1,h2,hk=>by
  simp at h1 h2;subst h1;subst h2;show bindL am7 ((p,w)::P.zip vs) m p=_;unfold bindL;rw[pF λv hv=>(af2.mp nd).1 (al3 hv).1,if_pos hk];simp
 |p::P,w::vs,i+1,m,nd,h1,h2,hk=>by
  show bindL am7 ((p,w)::P.zip vs) m x=_;unfold bindL;exact pK (i:=i) (af2.mp nd).2 (by simpa using h1) (by simpa using h2) hk
theorem ph{am7:Str->Option U6}{x:Str}{v:J0}:∀{P:List Str}{vs:List J0}{i:Nat}{m:Str->Option J0},P.Nodup->P[i]?=some x->vs[i]?=some v->am7 x≠some .local ->
  bindC am7 (P.zip vs) m x=some v
 |[],_,_,_,_,h,_,_=>by simp at h
 |_::_,[],_,_,_,_,h,_=>by simp at h
 |p::P,w::vs,0,m,nd,h1,h2,hk=>by
  simp at h1 h2;subst h1;subst h2;show bindC am7 ((p,w)::P.zip vs) m p=_;unfold bindC;rw[pe λv hv=>(af2.mp nd).1 (al3 hv).1,if_neg hk];simp
 |p::P,w::vs,i+1,m,nd,h1,h2,hk=>by
  show bindC am7 ((p,w)::P.zip vs) m x=_;unfold bindC;exact ph (i:=i) (af2.mp nd).2 (by simpa using h1) (by simpa using h2) hk
def gC(N:List Str)(vs:List V):St:=vs.map some++M7 (N.length-vs.length) none
noncomputable def rq(CX:CXT)(P:N4)(w:S2)(K:H0)(mg:Str->Option J0)(base:N0)(N:List Str)(qual:Str)(scope:af8)(f:K4)(cd:J0)(A:P5)(outer:List Env)(s:J4)(H:Hp)(E:XK):Cx where
 prog:=P
 w:=w
 K:=K
 mg:=mg
 base:=base
 A:=A.deeper (ap3 qual scope s.heap.objs.size f cd)
 N:=N
 s₀:=s
 H₀:=H
 env:=ap3 qual scope s.heap.objs.size f cd
 outer:=outer
 stack:=ap3 qual scope s.heap.objs.size f cd::outer
 ex:=[]
 calm:=true
 fn:=λ_=>true
 pn:=[]
 xe:=λe s'=>L3 (N9 P w) (A.deeper (ap3 qual scope s.heap.objs.size f cd)) (leaving (ap3 qual scope s.heap.objs.size f cd) e) (λ_ s''=>CX outer H s E e s'') (λe' s''=>CX outer H s E e' s'') s'
theorem tq{sc:af8}{n:Nat}{x:Str}(h:sc.names.lookup x=some .cell):∃c,(as0 n sc.names []).lookup x=some c:=by
 have q:=PySem.W.cellsFrom_some sc.names n [] (.inl h);exact Option.isSome_iff_exists.mp q
theorem wY{CX:CXT}{P:N4}{w:S2}{K:H0}{mg:Str->Option J0}{base:N0}{N ps:List Str}{qual:Str}{scope:af8}{f:K4}{cd:J0}{A:P5}{outer:List Env}{s s1:J4}{H:Hp}{E:XK}{us:List J0}{vs:List V}
  (S:aw N ps scope) (hd:A.handled=none) (e0:BP P w K mg base A outer s H) (hl:vs.length=ps.length) (r:ay vs us)
  (x:InCallC s s.heap.objs.size (bindL (ap3 qual scope s.heap.objs.size f cd).kindOf (ps.zip us) λ_=>none) (as0 (s.heap.objs.size+1) scope.names []) (bindC (ap3 qual scope s.heap.objs.size f cd).kindOf (ps.zip us) λ_=>none) s1) :
  Inv (rq CX P w K mg base N qual scope f cd A outer s H E) [] (gC N vs) H s1:=by
 have hpl:ps.length<=N.length:=by have:=congrArg T6 S.pre;rw[N2]at this;lia
 obtain⟨h1,tk,rfl,hk⟩:=x.done;have noA:∀b:K4,b∉(rq CX P w K mg base N qual scope f cd A outer s H E).ex:=λb z=>absurd (show b∈([]:List K4)from z) (by simp);refine⟨⟨e0.mod,S.kind,rfl,rfl,J6 _,λy z c h1 h2=>?_,λy hy=>?_,λy c _ h=>?_,λ_=>hd,P5.frames_deeper e0.frames,.inr ⟨rfl,rfl⟩,λb z=>absurd z (noA b),e0.bs,e0.bsz,λb _ _=>noA b,λb z=>absurd z (noA b),e0.funs,e0.frf⟩,
  rfl,e0.bare,Un.kept hk,⟨_,x.toInCall.ns,λi y v h1 h2 h3=>?_⟩,λy c h=>⟨_,x.cell y c h⟩,e0.hok.fresh (J6 _),λy c h=>?_,λp hp=>absurd (show p∈([]:List (K4×Obj))from hp) (by simp),e0.hok.kept hk,?_⟩
 ·exact name_of_addr x.apart (U7 h1) (U7 h2)
 ·have hy:scope.names.lookup y=some .cell∨scope.names.lookup y=some .free:=hy;rcases hy with hy|hy
  ·exact tq hy
  ·exact absurd rfl (S.nofree _ (U7 hy))
 ·exact am6 (x.above y c (U7 h))
 ·have hi:i<vs.length:=by
   unfold gC at h2
   by_cases hi:i<vs.length
   ·exact hi
   ·rw[X5 (by simpa using hi)]at h2;rw[ae2]at h2
    split at h2<;>cases h2
  have ha:vs[i]?=some v:=by
   unfold gC at h2;rw[P3 (by simpa using hi),L8]at h2;cases e:vs[i]? with
   |none=>rw[e]at h2;cases h2
   |some a=>rw[e]at h2;cases h2;rfl
  obtain⟨u,hu,rv⟩:=r.get ha;have hp:ps[i]?=some y:=by
   rw[<-S.pre,aa1 (by lia)];exact h1
  have ndP:ps.Nodup:=by rw[<-S.pre];exact S.nd.sublist (List.take_sublist _ _)
  refine⟨u,rv,?_⟩;rcases S.par y (M9 hp)with k|k
  ·exact .inl ⟨k,pK ndP hp hu k⟩
  ·obtain⟨c,e⟩:=tq (n:=s.heap.objs.size+1) k;refine .inr ⟨.inl k,c,e,?_⟩;have q:=x.cell y c e;rw[ph ndP hp hu (by show scope.names.lookup y≠_;rw[k];decide)]at q;exact q
 ·exact e0.hok.fresh (am6 (x.above y c (U7 h)))
 ·unfold gC;show _=N.length;rw[J9,u8,List.length_replicate]
  lia
theorem EO{CX:CXT}{P:N4}{w:S2}{K:H0}{mg:Str->Option J0}{base:N0}{k:Nat}{f:K4}{name qual:Str}{params:Arguments}{body:List aa6}{scope:af8}{dV kV doc pm cdv ct oc:J0}{an od:Option K4}
  {osl:Array (Option J0)} {N ps:List Str} {sp:Sp} (lk:K.lookup f=some ⟨oc,od,.func (ad9 name qual params body scope dV kV doc pm an cdv ct),osl⟩) (hcd:ah1 K cdv qual=true) (S:aw N ps scope)
  (len:∀vs H Q E,sp vs H Q E->vs.length=ps.length)
  (hbody:∀ (A:P5) (outer:List Env) (s:J4) (H:Hp) (vs:List V) (Q:VK) (E:XK),de k (A.deeper (ap3 qual scope s.heap.objs.size f cdv)) → sp vs H Q E →
   ∃t,PSs (rq CX P w K mg base N qual scope f cdv A outer s H E) body t/\t { nx:=λ_ H'=>Q .non H',rt:=Q } (gC N vs) H) :
  aV P w K mg base CX (k+1) f (ad9 name qual params body scope dV kV doc pm an cdv ct) ps sp:=by
 refine⟨len,λA outer s H args us vs Q E hr e0 hb r hsp=>?_⟩;have hl:=len _ _ _ _ hsp;have KX:K.In s.heap:=e0.mod.kin.keeps λb o e=>(e0.bs b o e).1;have lim:s.heap.NoLimit:=e0.mod.nolimit.keeps λb o e=>(e0.bs b o e).1;have hkind:∀y∈ps.zip us,scope.names.lookup y.1=some .local∨(scope.names.lookup y.1=some .cell/\((as0 (s.heap.objs.size+1) scope.names []).lookup y.1).isSome=true):=λ⟨n,v⟩ hy=>by
  rcases S.par n (al3 hy).1 with q|q
  ·exact .inl q
  ·exact .inr ⟨q,PySem.W.cellsFrom_some _ _ _ (.inl q)⟩
 refine codeAny_call_function hr.depth (KX _ _ lk) rfl S.co S.gen rfl (PySem.W.codeRec_of KX hcd) (hb _ _ _ _ ?_);refine wpAny_newFunctionEnv_cells S.kind hkind λenv he s1 x=>?_;subst he;refine⟨lim.keeps x.toInCall.keep,codeAny_func ?_⟩;obtain⟨t,ht,hq⟩:=hbody A outer s H vs Q E (hr.deeper _) hsp;have I:Inv (rq CX P w K mg base N qual scope f cdv A outer s H E) [] (gC N vs) H s1:=wY S hr.hd e0 hl r x;refine T5 (ht [] s1 (gC N vs) H _ I hq) (λfl s' hs=>?_) λe s' hs=>hs;have fin:∀{σ':St} {H':Hp} {v:V} {u:J0},Inv (rq CX P w K mg base N qual scope f cdv A outer s H E) [] σ' H' s'->aL v u->Q v H'->CE outer P w H s Q u s' :=
  λ{σ' H' v u} J rv q=>⟨v,H',J.os,J.bare,J.base,J.hok,rv,q⟩
 cases fl with
 |ret u =>
  obtain⟨v,σ',H',J,rv,q⟩:=hs;exact fin J rv q
 |next =>
  obtain⟨σ',H',J,q⟩:=hs;exact fin (v:=V.non) (u:=X8) J rfl q
 |brk =>
  obtain⟨_,_,_,q⟩:=hs;exact ab7 q
 |cont =>
  obtain⟨_,_,_,q⟩:=hs;exact ab7 q
section
variable{X:Cx}{x:Str}{p pos:Pos}{e:N8}{es:List N8}{t:TA}{id T:String}{r:List V->Hp->VK->Prop}
def tCB(r:List V->Hp->VK->Prop)(t:TA):TE:=λσ H Q=>t σ H λvs H1=>r vs H1 Q
theorem tD(hc:dD X (.builtin id) r)(hg:Gl X x)(hm:X.mg x=none)(hv:ab8 x=some (.builtin id))(ha:PA X (e::es) t)(hn:x≠"__name__":=by decide)(hdb:(x==("__debug__":Str))=false:=by decide)
  (he:K8 (e::es) X.env=(false,ad7 e X.env)::K8 es X.env:=by rfl) (hpl:(ab1 pos (K8 es X.env)).any (·.1)=false:=by rfl):PE X (.Call (.Name x p) (e::es) [] pos) (tCB r t):=by
 intro af s σ H Q I h;refine aa0 (fv I hg hm hv ?_ hn hdb);exact PyProof.Rows.callWith_builtin1 (thn (ha pos af s σ H _ I h) λus s1 hup=>hup.el λvs H1 I1 r1 q1=>hc af s1 σ H1 vs us Q I1 r1 q1) he hpl
theorem xp(hc:dD X (.type T) r)(hg:Gl X x)(hm:X.mg x=none)(hv:ab8 x=some (.type T))(ha:PA X (e::es) t)(hn:x≠"__name__":=by decide)(hdb:(x==("__debug__":Str))=false:=by decide)
  (he:K8 (e::es) X.env=(false,ad7 e X.env)::K8 es X.env:=by rfl) (hpl:(ab1 pos (K8 es X.env)).any (·.1)=false:=by rfl):PE X (.Call (.Name x p) (e::es) [] pos) (tCB r t):=by
 intro af s σ H Q I h;refine aa0 (fv I hg hm hv ?_ hn hdb);exact S6 (thn (ha pos af s σ H _ I h) λus s1 hup=>hup.el λvs H1 I1 r1 q1=>hc af s1 σ H1 vs us Q I1 r1 q1) he hpl
end
end L2
namespace HT
open PySem PyProof.Rows
section
open PySem.SeqAt
open PySem.AutoSeq1 (wpAny_loadPart')
open PySem.MeetsSeq PySem.MeetsSeq2 PySem.MeetsSeq3
end
section
variable{prog:N4}{w:S2}{A:P5}{E:J0->J4->Prop}{s:J4}
theorem cat_tup{t b:K4}{vs ws:List J0}{Q:J0->J4->Prop}(ht:ak1 s.heap t vs.toArray)(hb:ak1 s.heap b ws.toArray)(hv:vs≠[])
  (h1:ws=[]->Q (.ref t) s) (h2:ws≠[]->Q (.ref s.heap.objs.size) { s with heap:=s.heap.push { cls:=.type "tuple",data:=.seq (vs++ws).toArray } })
  (hsz:vs.length+ws.length<=J7):L3 (N9 prog w) A (Z9 .Add (.ref t) (.ref b)) Q E s:=by
 obtain⟨⟨cls,dd,data,sl⟩,ho,hc,n,hd⟩:=id ht;obtain⟨⟨cls2,dd2,data2,sl2⟩,ho2,hc2,n2,hd2⟩:=id hb;simp only at hc hd hc2 hd2;subst hc hd hc2 hd2;have e:vs.toArray++ws.toArray=(vs++ws).toArray:=by simp
 by_cases hw:ws=[]
 ·exact concat_meets ⟨_,ho,rfl⟩ ⟨_,ho2,rfl⟩ noFill_tuple_add seq_tuple_add PySem.F.slot_tuple_add PySem.F.entry_tuple_add (PySem.F.args_tuple_add_2 _ _)
   (tuple_addW1 t b vs.toArray ws.toArray n n2 dd dd2 sl sl2 (by simpa using hv) (by simp[hw])) ⟨ho,ho2,h1 hw⟩
 ·refine concat_meets ⟨_,ho,rfl⟩ ⟨_,ho2,rfl⟩ noFill_tuple_add seq_tuple_add PySem.F.slot_tuple_add PySem.F.entry_tuple_add (PySem.F.args_tuple_add_2 _ _)
   (tuple_addW2 t b vs.toArray ws.toArray n n2 dd dd2 sl sl2 (by simpa using hv) (by simpa using hw) (by rw[J8,J8];exact hsz)) ⟨ho,ho2,?_⟩
  rw[e];exact h2 hw
noncomputable def sIx(n d:Nat):Option Int->Nat
 |none=>d
 |some v=>if v<0 then(v+(n:Int)).toNat else min v.toNat n
theorem sIx_none(n d:Nat):sIx n d none=d:=rfl
theorem sIx_nat(n d k:Nat):sIx n d (some (k:Int))=min k n:=by
 show(if(k:Int)<0 then((k:Int)+(n:Int)).toNat else min (k:Int).toNat n)=min k n;rw[if_neg (by lia),V6]
theorem CL(n d:Nat)(hd:d<=n)(o:Option Int):sIx n d o<=n:=by
 cases o with
 |none=>exact hd
 |some v =>
  show(if v<0 then(v+(n:Int)).toNat else min v.toNat n)<=n
  by_cases hv:v<0
  ·rw[if_pos hv];lia
  ·rw[if_neg hv];exact Nat.min_le_right _ _
theorem vz(v:Int)(n d:Nat):(if v<0 then max (v+(n:Int)) 0 else min v (n:Int))=((sIx n d (some v):Nat):Int):=by
 show(if v<0 then max (v+(n:Int)) 0 else min v (n:Int))=(((if v<0 then(v+(n:Int)).toNat else min v.toNat n):Nat):Int)
 by_cases hv:v<0
 ·simp only[if_pos hv];lia
 ·simp only[if_neg hv];lia
theorem uH(lo hi:Option Int)(n:Nat):L6.Slice.sliceAdjust lo hi 1 (n:Int)=(((sIx n 0 lo:Nat):Int),((sIx n n hi:Nat):Int)):=by
 have h1:¬ ((1:Int)<0):=by lia
 unfold L6.Slice.sliceAdjust;simp only[h1,if_false];refine Prod.ext ?_ ?_
 ·cases lo with
  |none=>rfl
  |some v=>exact vz v n 0
 ·cases hi with
  |none=>rfl
  |some v=>exact vz v n n
theorem uF(i j:Nat):T8 (i:Int) (j:Int) 1=j-i:=by
 unfold T8;have h1:(1:Int) > 0:=by lia
 simp only[h1,if_true,Int.ediv_one]
 split<;>lia
theorem mO{v:J0}{o:Option Int}{Q:Option Int->J4->Prop}(p:aq2 v o)(h:Q o s):L3 (N9 prog w) A (L6.Slice.slicePartIndex v) Q E s:=by
 cases p with
 |none=>exact am9 h
 |int i t=>exact slicePart_int h
theorem fD{sl:K4}{vl vu:J0}{lo hi:Option Int}{n:Nat}{Q:Int×Int×Nat->J4->Prop}(hs:s.heap.IsSliceOf sl vl vu .none)(pl:aq2 vl lo)(pu:aq2 vu hi)
  (h:Q (((sIx n 0 lo:Nat):Int),1,sIx n n hi-sIx n 0 lo) s):L3 (N9 prog w) A (ab5 (.ref sl) (ag9 (n:Int))) Q E s:=by
 obtain⟨os,hos,hcs,hds⟩:=id hs;unfold ab5 L6.Slice.sliceFields;refine o0 (o0 (U8 hos hds (x:=vl) rfl (o0 (U8 hos hds (x:=vu) rfl (o0 (U8 hos hds (x:=.none) rfl (J3 ?_)))))));refine o0 (am9 ?_);show L3 _ _ (if((1:Int)==0)=true then _ else _) _ _ s;rw[if_neg (by decide)];refine o0 (mO pl (o0 (mO pu (o0 (J3 ?_)))));show L3 _ _ (match L6.Slice.sliceAdjust lo hi 1 (n:Int)with|(lo,hi)=>ag9 (lo,(1:Int),T8 lo hi 1)) _ _ s;rw[uH lo hi n];show L3 _ _ (ag9 (((sIx n 0 lo:Nat):Int),(1:Int),T8 ((sIx n 0 lo:Nat):Int) ((sIx n n hi:Nat):Int) 1)) _ _ s;rw[uF];exact J3 h
theorem zp(xs:Array J0)(i k:Nat):((O2 k).filterMap λ(m:Nat)=>xs[((i:Int)+(m:Int)*1).toNat]?).toArray=((xs.toList.drop i).take k).toArray:=by
 have e:(λ(m:Nat)=>xs[((i:Int)+(m:Int)*1).toNat]?)=λm=>xs[i+m]?:=by
  funext m;have:((i:Int)+(m:Int)*1).toNat=i+m:=by lia
  rw[this]
 rw[e];have:=pick_run xs i k;rw[List.filterMap_map]at this;have e2:((λx=>xs[x]?)∘λx=>i+x)=λm=>xs[i+m]?:=rfl;rw[e2]at this;rw[this]
theorem getItem_tuple_cut{t sl:K4}{items:Array J0}{vl vu:J0}{lo hi:Option Int}{Q:J0->J4->Prop}(ht:ak1 s.heap t items)(hs:s.heap.IsSliceOf sl vl vu .none)(pl:aq2 vl lo)(pu:aq2 vu hi)
  (hw:¬ (sIx items.size 0 lo=0/\sIx items.size items.size hi=items.size))
  (h:Q (.ref s.heap.objs.size) { s with heap:=s.heap.push { cls:=.type "tuple",data:=.seq ((items.toList.drop (sIx items.size 0 lo)).take (sIx items.size items.size hi-sIx items.size 0 lo)).toArray } })
  (hsz:items.size<=J7):L3 (N9 prog w) A (al4 (.ref t) (.ref sl)) Q E s:=by
 have htake:sizeOk (.seq ((items.toList.drop (sIx items.size 0 lo)).take (sIx items.size items.size hi-sIx items.size 0 lo)).toArray):=by
  show((items.toList.drop (sIx items.size 0 lo)).take (sIx items.size items.size hi-sIx items.size 0 lo)).toArray.size<=J7;rw[J8,N2,X1,L1]
  lia
 have hj:sIx items.size items.size hi<=items.size:=CL _ _ (J6 _) hi;obtain⟨os,hos,hcs,hds⟩:=id hs;have hTs:s.TypeIs (.ref sl) "slice":=⟨os,hos,hcs⟩;unfold al4
 try with_reducible refine U4 ?_
 first|refine o0 (J3 ?_)|skip
 refine o0 (wpAny_sequenceKey ht.typeIs (by decide) ?_);refine o0 (V7 (name:=U9 "__getitem__") ht.typeIs O9
  (X4 O9 ht.typeIs entry_tuple_getitem ?_ (args_tuple_getitem _ _)))
 show L3 _ _ (X6 (.ref t) >>= _) _ _ s;refine o0 (an7 ht ?_);refine o0 (ai1 hTs ?_);rw[if_pos (by decide)];refine o0 (fD hs pl pu ?_);have hno:¬ ((((sIx items.size 0 lo:Nat):Int)==0&&(1:Int)==1&&(sIx items.size items.size hi-sIx items.size 0 lo)==items.size)=true):=by
  intro q;rw[N1,N1]at q;have q1:((sIx items.size 0 lo:Nat):Int)=0:=eq_of_beq q.1.1;have q2:sIx items.size items.size hi-sIx items.size 0 lo=items.size:=eq_of_beq q.2;exact hw ⟨by lia,by lia⟩
 show L3 _ _ (if(((sIx items.size 0 lo:Nat):Int)==0&&(1:Int)==1&&(sIx items.size items.size hi-sIx items.size 0 lo)==items.size)=true then _ else _) _ _ s;rw[if_neg hno,zp]
 first
  |exact o0 (m:=P9 _) (S7 (J3 ⟨_,rfl,J3 h⟩) htake)
  |exact o0 (m:=P9 _) (S7 (o0 (J3 (J3 ⟨_,rfl,J3 h⟩))) htake)
  |exact o0 (o0 (m:=P9 _) (S7 (J3 (J3 ⟨_,rfl,J3 h⟩)) htake))
  |exact o0 (o0 (m:=P9 _) (S7 (J3 ⟨_,rfl,J3 h⟩) htake))
end
end HT
namespace L2
open PySem PySem.Spec PyProof.Rows
abbrev TO:=St->Hp->(Option Int->Hp->Prop)->Prop
def PO(X:Cx)(e:Option N8)(t:TO):Prop :=
 ∀(af:List (K4×Obj)) (s:J4) (σ:St) (H:Hp) (Q:Option Int->Hp->Prop),Inv X af σ H s->t σ H Q ->
  L3 (N9 X.prog X.w) X.A (evalPart e X.env) (λu s'=>∃o H',Inv X af σ H' s'/\aq2 u o/\Q o H') X.xe s
def Bv:TO:=λ_ H Q=>Q none H
def EH(t:TE):TO:=λσ H Q=>t σ H λx H1=>∃i,x=.int i/\Q (some i) H1
section
variable{X:Cx}{e:N8}{te:TE}{lo hi:Option N8}{tl th:TO}{pos p2:Pos}
theorem Al:PO X none Bv:=by
 intro af s σ H Q I h;rw[evalPart_none];exact J3 ⟨none,H,I,.none,h⟩
theorem BU(h:PE X e te):PO X (some e) (EH te):=by
 intro af s σ H Q I hw;rw[evalPart_some];refine thn (h af s σ H _ I hw) λu s1 hup=>hup.el λx H1 I1 r1 q1=>?_;obtain⟨i,rfl,q⟩:=q1;obtain⟨t,rfl⟩:=r1;exact⟨some i,H1,I1,.int i t,q⟩
def SlR(X:Cx)(r:V->Option Int->Option Int->Hp->VK->Prop):Prop :=
 ∀(af:List (K4×Obj)) (s:J4) (σ:St) (H:Hp) (x:V) (v vl vu:J0) (lo hi:Option Int) (sl:K4) (Q:VK),Inv X af σ H s->aL x v->s.heap.IsSliceOf sl vl vu .none->aq2 vl lo->aq2 vu hi->r x lo hi H Q ->
  ∃T id,typeLookup (.type T) "__getitem__"=ag9 (some (.builtin id))/\s.TypeIs v T/\L3 (N9 X.prog X.w) X.A (al4 v (.ref sl)) (EP X af σ Q) X.xe s
theorem SlR.or{r r':V->Option Int->Option Int->Hp->VK->Prop}(h:SlR X r)(h':SlR X r'):SlR X (λx lo hi H Q=>r x lo hi H Q∨r' x lo hi H Q):=by
 intro af s σ H x v vl vu lo hi sl Q I rx hs pl pu q;rcases q with q|q
 ·exact h af s σ H x v vl vu lo hi sl Q I rx hs pl pu q
 ·exact h' af s σ H x v vl vu lo hi sl Q I rx hs pl pu q
def tSl(r:V->Option Int->Option Int->Hp->VK->Prop)(te:TE)(tl th:TO):TE:=λσ H Q=>te σ H λx H1=>tl σ H1 λl H2=>th σ H2 λu H3=>r x l u H3 Q
theorem yu{r:V->Option Int->Option Int->Hp->VK->Prop}(hr:SlR X r)(he:PE X e te)(hl:PO X lo tl)(hu:PO X hi th):PE X (.Subscript e (.Slice lo hi none p2) pos) (tSl r te tl th):=by
 intro af s σ H Q I h;refine aq7 (thn (he af s σ H _ I h) λv s1 hup=>hup.el λx H1 I1 r1 q1=>?_);refine wpAny_Slice (thn (hl af s1 σ H1 _ I1 q1) λvl s2 ⟨l,H2,I2,pl,q2⟩=>thn (hu af s2 σ H2 _ I2 q2) λvu s3 ⟨u,H3,I3,pu,q3⟩=>?_);rw[evalPart_none];refine J3 ?_;have I4:Inv X af σ H3 { s3 with heap:=s3.heap.push { cls:=.type "slice",data:=.fields #[vl,vu,.none] } }:=I3.kept (t':=s3.toks) λb ob q=>I0 _ q;obtain⟨T,id,hT,ht,hg⟩:=hr af { s3 with heap:=s3.heap.push { cls:=.type "slice",data:=.fields #[vl,vu,.none] } } σ H3 x v vl vu l u s3.heap.objs.size Q I4 r1 (N0.IsSliceOf.new ..) pl pu q3;show L3 (N9 X.prog X.w) X.A (subscriptTail e (.Slice lo hi none p2) v (.ref s3.heap.objs.size)) (EP X af σ Q) X.xe { s3 with heap:=s3.heap.push { cls:=.type "slice",data:=.fields #[vl,vu,.none] } };exact tail_any (ops:=[.ref s3.heap.objs.size,v]) ht hT hg (by with_unfolding_all rfl)
def qB(xs:List V)(lo hi:Option Int):List V:=(xs.drop (HT.sIx xs.length 0 lo)).take (HT.sIx xs.length xs.length hi-HT.sIx xs.length 0 lo)
theorem lP(xs:List V)(lo hi:Option Int):(qB xs lo hi).length<=xs.length:=by
 unfold qB;rw[N2,X1]
 lia
def GM(K:H0):V->Option Int->Option Int->Hp->VK->Prop:=λx lo hi H Q=>∃a xs,x=.ref a/\SqT K H a xs /\
 ¬ (HT.sIx xs.length 0 lo=0/\HT.sIx xs.length xs.length hi=xs.length)/\∀p,H p=none->Q (.ref p) (upd H p (.tup (qB xs lo hi)))
theorem Ef:SlR X (GM X.K):=by
 intro af s σ H x v vl vu lo hi sl Q I rx hs pl pu h;obtain⟨a,xs,rfl,hx,hw,q⟩:=h;cases rx;obtain⟨its,r,ht,hz⟩:=I.tuple hx;have cJ:its.toArray.size=xs.length:=by rw[J8];exact r.length.symm
 refine⟨"tuple",_,O9.lookup,ht.typeIs,?_⟩;refine HT.getItem_tuple_cut ht hs pl pu (by rw[cJ];exact hw) ?_ (by rw[cJ];exact hz);rw[cJ];refine⟨.ref s.heap.objs.size,_,I.laid (t':=s.toks) (o:=.tup (qB xs lo hi)) (λb ob q=>I0 _ q) (J6 _) ?_,rfl,q _ (I.hok.fresh (J6 _))⟩;exact⟨R6 (lP xs lo hi) hz,_,(r.drop (HT.sIx xs.length 0 lo)).take (HT.sIx xs.length xs.length hi-HT.sIx xs.length 0 lo),jv.new _ _⟩
def Fe(K:H0):R2:=λx y H Q=>∃a b xs ys,x=.ref a/\y=.ref b/\SqT K H a xs/\SqT K H b ys/\xs≠[]/\xs.length+ys.length<=J7 /\
 (ys=[]->Q (.ref a) H)/\(ys≠[]->∀p,H p=none->Q (.ref p) (upd H p (.tup (xs++ys))))
theorem ay.nil_iff{xs:List V}{us:List J0}(r:ay xs us):us=[]↔xs=[]:=by
 cases r with
 |nil=>simp
 |cons _ _=>simp
theorem Af:OpR X (Z9 .Add) (Fe X.K):=by
 intro af s σ H x y v u Q I rx ry h;obtain⟨a,b,xs,ys,rfl,rfl,ha,hb,hx,hz,q1,q2⟩:=h;cases rx;cases ry;obtain⟨its,r1,p1,_⟩:=I.tuple ha;obtain⟨its2,r2,p2,_⟩:=I.tuple hb;refine HT.cat_tup p1 p2 (λz=>hx (r1.nil_iff.mp z)) (λz=>⟨.ref a,H,I,rfl,q1 (r2.nil_iff.mp z)⟩) (λz=>?_) (by rw[<-r1.length,<-r2.length];exact hz);refine⟨.ref s.heap.objs.size,_,I.laid (t':=s.toks) (o:=.tup (xs++ys)) (λb ob q=>I0 _ q) (J6 _) ?_,rfl,q2 (λw=>z (r2.nil_iff.mpr w)) _ (I.hok.fresh (J6 _))⟩;exact⟨by rw[J9];exact hz,_,r1.append r2,jv.new _ _⟩
end
noncomputable def ixN(n:Nat)(i:Int):Option Nat:=if 0<=i then(if i<n then some i.toNat else none)else if -(n:Int)<=i then some (i+n).toNat else none
def atI{α:Type}(xs:List α)(i:Int):Option α:=(ixN xs.length i).bind λj=>xs[j]?
theorem Bp{n:Nat}{i:Int}{j:Nat}(h:ixN n i=some j):as1 i n=some j/\j<n/\-(n:Int)<=i/\i<n:=by
 unfold ixN at h
 by_cases h0:0<=i
 ·rw[if_pos h0]at h
  by_cases h1:i<n
  ·rw[if_pos h1]at h;have e:i.toNat=j:=R7 h;exact⟨by rw[seqIndex_of h0 h1,e],by lia,by lia,h1⟩
  ·rw[if_neg h1]at h;cases h
 ·rw[if_neg h0]at h
  by_cases h1:-(n:Int)<=i
  ·rw[if_pos h1]at h;have e:(i+n).toNat=j:=R7 h;exact⟨by rw[seqIndex_neg (by lia) h1,e],by lia,h1,by lia⟩
  ·rw[if_neg h1]at h;cases h
theorem qt{α:Type}{xs:List α}{i:Int}{v:α}(h:atI xs i=some v):∃j,as1 i xs.length=some j/\xs[j]?=some v/\j<xs.length/\-(xs.length:Int)<=i/\i<xs.length:=by
 unfold atI at h;cases e:ixN xs.length i with
 |none=>rw[e]at h;cases h
 |some j =>
  rw[e]at h;obtain⟨h1,h2,h3,h4⟩:=Bp e;exact⟨j,h1,h,h2,h3,h4⟩
theorem bA{α:Type}{xs:List α}{j:Nat}{v:α}(h:xs[j]?=some v):atI xs (j:Int)=some v:=by
 have hj:j<xs.length:=(K3.mp h).1;have e:ixN xs.length (j:Int)=some j:=by
  unfold ixN;rw[if_pos (by lia),if_pos (by lia)];simp
 unfold atI;rw[e];exact h
def vQ(b:N8):Prop:=∀o i,ap5 b false o i=operate [o,i] (al4 o i)
def IxR(X:Cx)(r:R2):Prop :=
 ∀(value slice:N8) (af:List (K4×Obj)) (s:J4) (σ:St) (H:Hp) (x y:V) (v u:J0) (Q:VK),Inv X af σ H s->aL x v->aL y u->r x y H Q ->
  ap5 slice false v u=operate [v,u] (al4 v u)->L3 (N9 X.prog X.w) X.A (subscriptTail value slice v u) (EP X af σ Q) X.xe s
def MtR(X:Cx)(id:String)(r:V->List V->Hp->VK->Prop):Prop :=
 ∀(af:List (K4×Obj)) (s:J4) (σ:St) (H:Hp) (x:V) (xs:List V) (v:J0) (us:List J0) (Q:VK),Inv X af σ H s->aL x v->ay xs us->r x xs H Q ->
  L3 (N9 X.prog X.w) X.A (call (.builtin id) (v::us)) (EP X af σ Q) X.xe s
section
variable{X:Cx}{a b:N8}{ta tb:TE}{pos:Pos}
theorem FJ{r:R2}(hr:IxR X r)(ha:PE X a ta)(hb:PE X b tb)(hs:vQ b):PE X (.Subscript a b pos) (tOp r ta tb):=by
 intro af s σ H Q I h;exact aq7 (Em ha hb I h λv u s2 x y H2 I2 rx ry q=>hr a b af s2 σ H2 x y v u Q I2 rx ry q (hs _ _))
def Gw(K:H0):R2:=λx y H Q=>∃p xs i v,x=.ref p/\y=.int i/\SqL K H p xs/\atI xs i=some v/\Q v H
def Gn(K:H0):R2:=λx y H Q=>∃p xs i v,x=.ref p/\y=.int i/\SqT K H p xs/\atI xs i=some v/\Q v H
def Gm:R2:=λx y H Q=>∃z i c,x=.str z/\y=.int i/\z.length<=J7/\atI z.cps.toList i=some c/\Q (.str ⟨#[c]⟩) H
theorem vJ:IxR X (Gw X.K):=by
 intro value slice af s σ H x y v u Q I rx ry h hs;obtain⟨p,xs,i,z,rfl,rfl,hq,he,q⟩:=h;cases rx;obtain⟨t,rfl⟩:=ry;obtain⟨its,r,pl,hz⟩:=I.list hq;obtain⟨j,h1,h2,h3,h4,h5⟩:=qt he;obtain⟨w,ew,rw'⟩:=r.get h2;have hl:=r.length;have hn:=m5;have fin:EP X af σ Q w s:=⟨z,H,I,rw',q⟩
 by_cases h0:0<=i
 ·have hj:i.toNat=j:=by
   rw[seqIndex_of h0 h5]at h1;exact R7 h1
  exact item_listR pl.isList h0 (by lia) (by rw[hj];simpa using ew) fin hs
 ·have hj:(i+(its.toArray.size:Int)).toNat=j:=by
   rw[seqIndex_neg (by lia) h4]at h1;rw[J8,<-hl];exact R7 h1
  exact subscriptTail_builtinR (x:=w) pl.isList.typeIs slot_list_getitem.lookup
   (wpAny_getItem_list_neg (Q:=λr s'=>r=w/\EP X af σ Q r s') pl.isList (by lia) (by rw[J8]<;>lia) (by lia) (by rw[hj];simpa using ew) ⟨rfl,fin⟩) hs
theorem CM:IxR X (Gn X.K):=by
 intro value slice af s σ H x y v u Q I rx ry h hs;obtain⟨p,xs,i,z,rfl,rfl,hq,he,q⟩:=h;cases rx;obtain⟨t,rfl⟩:=ry;obtain⟨its,r,pl,hz⟩:=I.tuple hq;obtain⟨j,h1,h2,h3,h4,h5⟩:=qt he;obtain⟨w,ew,rw'⟩:=r.get h2;have hl:=r.length;have hn:=m5;have fin:EP X af σ Q w s:=⟨z,H,I,rw',q⟩;exact subscriptTail_builtinR (x:=w) pl.typeIs slot_tuple_getitem.lookup
  (getItem_tuple (j:=j) (Q:=λr s'=>r=w/\EP X af σ Q r s') pl (by lia) (by lia) (by rw[J8,<-hl];exact h1) (by simpa using ew) ⟨rfl,fin⟩) hs
theorem Dl:IxR X Gm:=by
 intro value slice af s σ H x y v u Q I rx ry h hs;obtain⟨z,i,c,rfl,rfl,hz,he,q⟩:=h;obtain⟨t,rfl⟩:=rx;obtain⟨t',rfl⟩:=ry;obtain⟨j,h1,h2,h3,h4,h5⟩:=qt he;have hl:z.cps.toList.length=z.length:=by simp[Str.length]
 rw[hl]at h1 h4 h5;have hn:=m5;exact tail_any (typeIs_str s z t) slot_str_getitem.lookup (getItem_str (c:=c) (by
  have e1:decide (i < -(2 ^ 63:Int))=false:=decide_eq_false (by lia);have e2:decide (i>=2 ^ 63)=false:=decide_eq_false (by lia);rw[e1,e2,Bool.or_false]) (by rw[h1];simpa using h2) ⟨.str ⟨#[c]⟩,H,I.tok _,⟨_,rfl⟩,q⟩) hs
theorem Inv.lst{af:List (K4×Obj)}{σ:St}{H:Hp}{s:J4}{p:K4}{xs:List V}(I:Inv X af σ H s)(h:H p=some (.lst xs)):
  ∃(its:List J0) (n:Nat),ay xs its/\s.heap.get? p=some { cls:=.type "list",data:=.seq its.toArray n }/\xs.length<=J7:=by
 obtain⟨z,its,n,r,e⟩:=I.hok p _ h;exact⟨its,n,r,e,z⟩
theorem qR(lo hi:Option Int)(n:Nat):(aj2 lo hi none n).1=((HT.sIx n 0 lo:Nat):Int)/\(aj2 lo hi none n).2.1=((HT.sIx n n hi:Nat):Int)/\(aj2 lo hi none n).2.2=1:=by
 refine⟨?_,?_,rfl⟩
 ·cases lo with
  |none=>simp[aj2,HT.sIx]
  |some i =>
   simp only[aj2,HT.sIx,Option.getD_none,show(1:Int) > 0 by decide,if_true]
   by_cases h:i<0
   ·simp only[h,if_true]<;>lia
   ·simp only[h,if_false]<;>lia
 ·cases hi with
  |none=>simp[aj2,HT.sIx]
  |some i =>
   simp only[aj2,HT.sIx,Option.getD_none,show(1:Int) > 0 by decide,if_true]
   by_cases h:i<0
   ·simp only[h,if_true]<;>lia
   ·simp only[h,if_false]<;>lia
theorem oG(its:List J0)(lo hi:Option Int):slicePick its.toArray lo hi none=((its.drop (HT.sIx its.length 0 lo)).take (HT.sIx its.length its.length hi-HT.sIx its.length 0 lo)).toArray:=by
 obtain⟨h1,h2,h3⟩:=qR lo hi its.toArray.size;unfold slicePick;rw[h1,h2,h3];simp only[sliceRange_one,pick_run,J8]<;>rfl
def Gq(K:H0):V->Option Int->Option Int->Hp->VK->Prop:=λx lo hi H Q=>∃a xs,x=.ref a/\SqL K H a xs/\∀p,H p=none->Q (.ref p) (upd H p (.lst (qB xs lo hi)))
theorem AO:SlR X (Gq X.K):=by
 intro af s σ H x v vl vu lo hi sl Q I rx hs pl pu h;obtain⟨a,xs,rfl,hx,q⟩:=h;cases rx;obtain⟨its,r,ht,hz⟩:=I.list hx;have cJ:=r.length;refine⟨"list",_,slot_list_getitem.lookup,ht.isList.typeIs,?_⟩;refine wpAny_getItem_list_slice ht.isList hs pl pu .none (by simp) ?_ (by rw[J8]<;>lia);rw[oG,<-cJ];refine⟨.ref s.heap.objs.size,_,I.laid (t':=s.toks) (o:=.lst (qB xs lo hi)) (λb ob q=>I0 _ q) (J6 _) ?_,rfl,q _ (I.hok.fresh (J6 _))⟩;exact⟨R6 (lP xs lo hi) hz,_,0,(r.drop (HT.sIx xs.length 0 lo)).take (HT.sIx xs.length xs.length hi-HT.sIx xs.length 0 lo),K6 _ rfl⟩
def iH:V->Bool
 |.non=>true
 |.bl _=>true
 |.int _=>true
 |.str _=>true
 |_=>false
noncomputable def eqV:V->V->Bool
 |.non,.non=>true
 |.bl a,.bl b=>a==b
 |.bl a,.int b=>(if a then 1 else 0)==b
 |.int a,.bl b=>a==(if b then 1 else 0)
 |.int a,.int b=>a==b
 |.str a,.str b=>a==b
 |_,_=>false
theorem D4{A:P5}{s:J4}{y x:V}{u v:J0}(ry:aL y u)(rx:aL x v)(fy:iH y=true)(fx:iH x=true):V4 A s u v (eqV y x):=by
 cases y with
 |non =>
  cases ry;cases x with
  |non=>cases rx;exact V4.same _
  |bl b=>cases rx;exact V4.none_bool b
  |int b=>obtain⟨t,rfl⟩:=rx;exact V4.none_int b t
  |str b=>obtain⟨t,rfl⟩:=rx;exact V4.none_str b t
  |_=>exact absurd (show false=true from fx) R9
 |bl a =>
  cases ry;cases x with
  |non=>cases rx;exact V4.bool_none a
  |bl b=>cases rx;exact V4.bool_bool a b
  |int b=>obtain⟨t,rfl⟩:=rx;exact V4.bool_int a b t
  |str b=>obtain⟨t,rfl⟩:=rx;exact V4.bool_str a b t
  |_=>exact absurd (show false=true from fx) R9
 |int a =>
  obtain⟨t',rfl⟩:=ry;cases x with
  |non=>cases rx;exact V4.int_none a t'
  |bl b=>cases rx;exact V4.int_bool a t' b
  |int b=>obtain⟨t,rfl⟩:=rx;exact V4.int_int a t' b t
  |str b=>obtain⟨t,rfl⟩:=rx;exact V4.int_str a t' b t
  |_=>exact absurd (show false=true from fx) R9
 |str a =>
  obtain⟨t',rfl⟩:=ry;cases x with
  |non=>cases rx;exact V4.str_none a t'
  |bl b=>cases rx;exact V4.str_bool a t' b
  |int b=>obtain⟨t,rfl⟩:=rx;exact V4.str_int a t' b t
  |str b=>obtain⟨t,rfl⟩:=rx;exact V4.str_str a t' b t
  |_=>exact absurd (show false=true from fx) R9
 |_=>exact absurd (show false=true from fy) R9
def eqU(x:V)(u:J0):Bool:=match u with
 |.none=>eqV .non x
 |.bool b=>eqV (.bl b) x
 |.int i _=>eqV (.int i) x
 |.str z _=>eqV (.str z) x
 |_=>false
theorem yN{x y:V}{u:J0}(r:aL y u)(f:iH y=true):eqU x u=eqV y x:=by
 cases y with
 |non=>cases r;rfl
 |bl b=>cases r;rfl
 |int i=>obtain⟨t,rfl⟩:=r;rfl
 |str z=>obtain⟨t,rfl⟩:=r;rfl
 |_=>exact absurd (show false=true from f) R9
theorem j7{x:V}:∀{xs:List V}{us:List J0},ay xs us->xs.all iH=true->us.any (eqU x)=xs.any λy=>eqV y x
 |_,_,.nil,_=>rfl
 |y::xs,u::us,.cons r t,f=>by
  rw[ac1,N1]at f;rw[Z4,Z4,yN r f.1,j7 t f.2]
theorem il{A:P5}{s:J4}{x:V}{v:J0}(rx:aL x v)(fx:iH x=true):∀{xs:List V}{us:List J0},ay xs us->xs.all iH=true->∀u∈us,V4 A s u v (eqU x u)
 |_,_,.nil,_=>λu hu=>by cases hu
 |y::xs,u::us,.cons r t,f=>λu' hu=>by
  rw[ac1,N1]at f;rcases L5.mp hu with rfl|hu
  ·rw[yN r f.1];exact D4 r rx f.1 fx
  ·exact il rx fx t f.2 u' hu
def inV(x:V)(xs:List V):Bool:=xs.any λy=>eqV y x
def rIn(K:H0)(neg:Bool):R2:=λx y H Q=>∃p xs,y=.ref p/\(SqL K H p xs∨SqT K H p xs)/\iH x=true/\xs.all iH=true/\Q (.bl (if neg then !inV x xs else inV x xs)) H
theorem wc:OpR X (Q0 .In) (rIn X.K false):=by
 intro af s σ H x y v u Q I rx ry h;obtain⟨p,xs,rfl,hq,fx,fs,q⟩:=h;cases ry;rcases hq with hq|hq
 ·obtain⟨its,r,pl,hz⟩:=I.list hq;refine SeqAt.in_listAt (eqU x) pl.isList (λw hw=>il rx fx r fs w (by simpa using hw)) ⟨.bl _,H,I,rfl,?_⟩;rw[show its.toArray.any (eqU x)=its.any (eqU x)by simp,j7 r fs];exact q
 ·obtain⟨its,r,pl,hz⟩:=I.tuple hq;refine SeqAt.in_tupleAt (eqU x) pl (λw hw=>il rx fx r fs w (by simpa using hw)) ⟨.bl _,H,I,rfl,?_⟩;rw[show its.toArray.any (eqU x)=its.any (eqU x)by simp,j7 r fs];exact q
theorem rg:OpR X (Q0 .NotIn) (rIn X.K true):=by
 intro af s σ H x y v u Q I rx ry h;obtain⟨p,xs,rfl,hq,fx,fs,q⟩:=h;cases ry;rcases hq with hq|hq
 ·obtain⟨its,r,pl,hz⟩:=I.list hq;refine SeqAt.notIn_listAt (eqU x) pl.isList (λw hw=>il rx fx r fs w (by simpa using hw)) ⟨.bl _,H,I,rfl,?_⟩;rw[show its.toArray.any (eqU x)=its.any (eqU x)by simp,j7 r fs];exact q
 ·obtain⟨its,r,pl,hz⟩:=I.tuple hq;refine SeqAt.notIn_tupleAt (eqU x) pl (λw hw=>il rx fx r fs w (by simpa using hw)) ⟨.bl _,H,I,rfl,?_⟩;rw[show its.toArray.any (eqU x)=its.any (eqU x)by simp,j7 r fs];exact q
theorem qD:dD X (.builtin "len") (λxs H Q=>∃p ys,xs=[.ref p]/\(SqL X.K H p ys∨SqT X.K H p ys)/\Q (.int ys.length) H):=by
 intro af s σ H xs us Q I r h;obtain⟨p,ys,rfl,hq,q⟩:=h;obtain⟨u,rfl,rx⟩:=sU r;cases rx;have hn:=m5;rcases hq with hq|hq
 ·obtain⟨its,r',pl,hz⟩:=I.list hq;have cJ:=r'.length;exact Calls.call_len_list pl.isList (by simp only[J8]<;>lia) ⟨.int ys.length,H,I.tok _,⟨s.toks+1,by rw[J8,cJ]⟩,q⟩
 ·obtain⟨its,r',pl,hz⟩:=I.tuple hq;have cJ:=r'.length;exact len_tuple pl (by simp only[J8]<;>lia) ⟨.int ys.length,H,I.tok _,⟨s.toks+1,by rw[J8,cJ]⟩,q⟩
theorem qG:dD X (.builtin "len") (λxs H Q=>∃z,xs=[.str z]/\z.length<=J7/\Q (.int z.length) H):=by
 intro af s σ H xs us Q I r h;obtain⟨z,rfl,hz,q⟩:=h;obtain⟨u,rfl,t,rfl⟩:=sU r;have hn:=m5;exact len_str (by lia) ⟨.int z.length,H,I.tok _,⟨_,rfl⟩,q⟩
theorem dD.or{f:J0}{r r':List V->Hp->VK->Prop}(h:dD X f r)(h':dD X f r'):dD X f (λxs H Q=>r xs H Q∨r' xs H Q):=by
 intro af s σ H xs us Q I rs q;rcases q with q|q
 ·exact h af s σ H xs us Q I rs q
 ·exact h' af s σ H xs us Q I rs q
theorem qF:dD X (.type "list") (λxs H Q=>∃p ys,xs=[.ref p]/\(SqL X.K H p ys∨SqT X.K H p ys)/\∀l,H l=none->Q (.ref l) (upd H l (.lst ys))):=by
 intro af s σ H xs us Q I r h;obtain⟨p,ys,rfl,hq,q⟩:=h;obtain⟨u,rfl,rx⟩:=sU r;cases rx;have fin:∀(its:List J0),ay ys its->ys.length<=J7->∀(h':N0) (c':Nat),(∀b o',s.heap.get? b=some o'->h'.get? b=some o') ->
   h'.get? s.heap.objs.size=some { cls:=.type "list",dict:=none,data:=.seq its.toArray c',slots:=#[] }->EP X af σ Q (.ref s.heap.objs.size) { s with heap:=h' }:=λits r' hz h' c' kp e =>
  ⟨.ref s.heap.objs.size,_,I.laid (t':=s.toks) kp (J6 _) (show bV X.prog X.w _ h' _ (.lst ys)from⟨hz,its,c',r',e⟩),rfl,q _ (I.hok.fresh (J6 _))⟩
 rcases hq with hq|hq
 ·obtain⟨its,r',pl,hz⟩:=I.list hq;have cJ:=r'.length;obtain⟨o,ho,hc,n,hd⟩:=pl.isList;exact call_list_seq p (.inl rfl) ho hc hd (λh' c' kp e=>fin its r' hz h' c' kp e) (by simp only[J8]<;>lia)
 ·obtain⟨its,r',pl,hz⟩:=I.tuple hq;have cJ:=r'.length;obtain⟨o,ho,hc,n,hd⟩:=pl;exact call_list_seq p (.inr rfl) ho hc hd (λh' c' kp e=>fin its r' hz h' c' kp e) (by simp only[J8]<;>lia)
theorem oD:dD X (.type "tuple") (λxs H Q=>∃p ys,xs=[.ref p]/\((SqL X.K H p ys/\∀l,H l=none->Q (.ref l) (upd H l (.tup ys)))∨(SqT X.K H p ys/\Q (.ref p) H))):=by
 intro af s σ H xs us Q I r h;obtain⟨p,ys,rfl,h⟩:=h;obtain⟨u,rfl,rx⟩:=sU r;cases rx;rcases h with⟨hq,q⟩|⟨hq,q⟩
 ·obtain⟨its,r',pl,hz⟩:=I.list hq;have cJ:=r'.length;refine call_tuple_list pl.isList (λh' kp=>?_) (by simp only[J8]<;>lia);have I1:Inv X af σ H { s with heap:=h' }:=I.kept (t':=s.toks) kp;have I2:Inv X af σ (upd H h'.objs.size (.tup ys)) { s with heap:=h'.push { cls:=.type "tuple",data:=.seq its.toArray } } :=
   I1.laid (t':=s.toks) (λb o e=>I0 _ e) (J6 _) (show bV X.prog X.w _ _ _ (.tup ys)from⟨hz,its,r',jv.new _ _⟩)
  exact⟨.ref h'.objs.size,_,I2,rfl,q _ (I1.hok.fresh (J6 _))⟩
 ·obtain⟨its,r',pl,hz⟩:=I.tuple hq;exact call_tuple_same pl ⟨.ref p,H,I,rfl,q⟩
def tyV(K:H0)(T:String)(x:V)(H:Hp):Prop:=match x with
 |.str _=>T="str"
 |.int _=>T="int"
 | .ref p => (T = "list" ∧ ∃ xs,SqL K H p xs) ∨ (T = "tuple" ∧ ∃ o,K.lookup p = some o ∧ o.cls = .type "tuple" ∧ o.dict = none) ∨
   (T="dict"/\((∃kvs,H p=some (.dK kvs))∨∃kvs,H p=some (.dT kvs)))∨(T="set"/\∃S n,H p=some (.set S n))
 |_=>False
theorem y7{af:List (K4×Obj)}{σ:St}{H:Hp}{s:J4}{T:String}{x:V}{v:J0}(I:Inv X af σ H s)(r:aL x v)(ty:tyV X.K T x H):
  s.TypeIs v T/\∀a,v=.ref a->∃ob,s.heap.get? a=some ob/\ob.dict=none:=by
 cases x with
 |str z =>
  obtain⟨t,rfl⟩:=r;cases(show T="str" from ty);exact⟨typeIs_str s z t,λ_ e=>nomatch e⟩
 |int i =>
  obtain⟨t,rfl⟩:=r;cases(show T="int" from ty);exact⟨ap0 s i t,λ_ e=>nomatch e⟩
 |ref p =>
  cases r;rcases ty with⟨rfl,xs,hq⟩|⟨rfl,o,hk,hc,hd⟩|⟨rfl,hk⟩|⟨rfl,S,n,hk⟩
  ·obtain⟨its,_,pl,_⟩:=I.list hq;refine⟨pl.isList.typeIs,λa e=>?_⟩;cases e;obtain⟨o,n,e,c,hd,_⟩:=pl;exact⟨o,e,hd⟩
  ·refine⟨⟨o,I.kIn p o hk,hc⟩,λa e=>?_⟩;cases e;exact⟨o,I.kIn _ o hk,hd⟩
  ·have z:∃o,s.heap.get? p=some o/\o.ExactDict:=by
    rcases hk with⟨kvs,hk⟩|⟨kvs,hk⟩
    ·obtain⟨_,_,_,_,o,_,_,e,ex,_⟩:=I.hok p _ hk;exact⟨o,e,ex⟩
    ·obtain⟨_,_,_,_,o,_,_,e,ex,_⟩:=I.hok p _ hk;exact⟨o,e,ex⟩
   obtain⟨o,e,ex⟩:=z;refine⟨⟨o,e,ex.1⟩,λa e2=>?_⟩;cases e2;exact⟨o,e,ex.2.1⟩
  ·obtain⟨o,_,_,_,e,ex,_⟩:=I.hok p _ hk;refine⟨⟨o,e,ex.1⟩,λa e2=>?_⟩;cases e2;exact⟨o,e,ex.2.1⟩
 |_=>exact ab7 ty
def GU(K:H0)(T:String)(r:V->List V->Hp->VK->Prop)(to:TE):TE:=λσ H Q=>to σ H λx H1=>tyV K T x H1/\r x [] H1 Q
def tBM(K:H0)(T:String)(r:V->List V->Hp->VK->Prop)(to:TE)(t:TA):TE:=λσ H Q=>to σ H λx H1=>tyV K T x H1/\t σ H1 λxs H2=>r x xs H2 Q
variable{o e:N8}{es:List N8}{to:TE}{t:TA}{name:Str}{eU bT:Pos}{T id:String}{r:V->List V->Hp->VK->Prop}
theorem C4(pa:PlainAttrs T)(slot:Slot T name id)(hty:typeOf (.builtin id)=ag9 (.type "method_descriptor"))(hm:MtR X id r)(ho:PE X o to)
  (ij:ae3 o name X.env (ad7 o X.env)=ad7 o X.env:=by rfl) (g9:(eU.endLine==bT.line)=true:=by rfl):PE X (.Call (.Attribute o name eU) [] [] bT) (GU X.K T r to):=by
 intro af s σ H Q I h;refine wpAny_Call_method0_late ij g9 (thn (ho af s σ H _ I h) λv s1 ⟨x,H1,I1,r1,ty,q1⟩=>?_);obtain⟨h1,h2⟩:=y7 I1 r1 ty;exact⟨T,id,pa,slot,hty,h1,h2,Calls.callWith_builtin rfl (PySem.evalArgs_none (hm af s1 σ H1 x [] v [] Q I1 r1 .nil q1))⟩
theorem za(pa:PlainAttrs T)(slot:Slot T name id)(hty:typeOf (.builtin id)=ag9 (.type "method_descriptor"))(hm:MtR X id r)(ho:PE X o to)(ha:PA X (e::es) t)
  (ij:ae3 o name X.env (ad7 o X.env)=ad7 o X.env:=by rfl)
  (tZ:((ab1 bT (K8 (e :: es) X.env)).all (λx => !x.1) && (aq3 bT (al5 [] X.env)).all (λx => x.1.isSome)
  &&decide ((e::es).length+([]:List al6).length+(if([]:List al6).isEmpty then 0 else 1)<30))=true:=by rfl)
  (g9:(eU.endLine==bT.line)=true:=by rfl) (hs:K8 (e::es) X.env=(false,ad7 e X.env)::K8 es X.env:=by rfl) (jJ:(ab1 bT (K8 es X.env)).any (·.1)=false:=by rfl) :
  PE X (.Call (.Attribute o name eU) (e::es) [] bT) (tBM X.K T r to t):=by
 intro af s σ H Q I h;refine wpAny_Call_method_late ij tZ g9 rfl (thn (ho af s σ H _ I h) λv s1 ⟨x,H1,I1,r1,ty,q1⟩=>?_);obtain⟨h1,h2⟩:=y7 I1 r1 ty;refine⟨T,id,pa,slot,hty,h1,h2,?_⟩;have hA:=ha bT af s1 σ H1 _ I1 q1;rw[hs]at hA ⊢;refine Calls.callWith_builtin (by show(false || (ab1 bT (K8 es X.env)).any (·.1))=false;rw[jJ]<;>rfl) (Calls.evalArgs_plain ?_);exact thn hA λus s2 hup=>hup.el λvs H2 I2 r2 q2=>hm af s2 σ H2 x vs v us Q I2 r1 r2 q2
end
def MtM(X:Cx)(id:String)(r:V->List V->Hp->VK->Prop):Prop :=
 ∀(af:List (K4×Obj)) (s:J4) (σ:St) (H:Hp) (x:V) (xs:List V) (v:J0) (us:List J0) (Q:VK),Inv X af σ H s->aL x v->ay xs us->r x xs H Q ->
  L3 (N9 X.prog X.w) X.A (call (.builtin id) (v::us)) (EP X af σ Q) X.xe s
theorem ay.un{x:V}{xs:List V}{us:List J0}(h:ay (x::xs) us):∃u vs,us=u::vs/\aL x u/\ay xs vs:=by
 cases h with
 |cons r t=>exact⟨_,_,rfl,r,t⟩
theorem ay.one{x:V}{us:List J0}(h:ay [x] us):∃u,us=[u]/\aL x u:=by
 obtain⟨u,vs,rfl,r,t⟩:=h.un;cases t;exact⟨u,rfl,r⟩
theorem ay.two{x y:V}{us:List J0}(h:ay [x,y] us):∃u v,us=[u,v]/\aL x u/\aL y v:=by
 obtain⟨u,vs,rfl,r,t⟩:=h.un;obtain⟨v,rfl,q⟩:=t.one;exact⟨u,v,rfl,r,q⟩
theorem ay.zero:∀{us:List J0},ay [] us->us=[]
 |_,.nil=>rfl
theorem ay.dropLast{xs:List V}{us:List J0}(h:ay xs us):ay xs.dropLast us.dropLast:=by
 induction h with
 |nil=>exact .nil
 |cons r t ih =>
  cases t with
  |nil=>exact .nil
  |cons q t'=>exact .cons r ih
theorem ay.eraseIdx:∀{xs:List V}{us:List J0}(i:Nat),ay xs us->ay (xs.eraseIdx i) (us.eraseIdx i)
 |_,_,_,.nil=>.nil
 |_,_,0,.cons _ t=>t
 |_,_,i+1,.cons r t=>.cons r (ay.eraseIdx i t)
theorem ay.reverse{xs:List V}{us:List J0}(h:ay xs us):ay xs.reverse us.reverse:=by
 induction h with
 |nil=>exact .nil
 |cons r t ih=>rw[aj3,aj3];exact ay.append ih (.cons r .nil)
theorem ay.rep{xs:List V}{us:List J0}(h:ay xs us):∀k:Nat,ay (M7 k xs).flatten (M7 k us).flatten
 |0=>.nil
 |k+1=>by
  rw[X9,X9,ad2,ad2];exact ay.append h (ay.rep h k)
theorem uL{α:Type}(l:List α):l.eraseIdx (l.length-1)=l.dropLast:=by
 induction l with
 |nil=>rfl
 |cons a r ih =>
  cases r with
  |nil=>rfl
  |cons b r =>
   have e:(a::b::r).length-1=((b::r).length-1)+1:=by
    have h1:(a::b::r).length=r.length+2:=rfl;have h2:(b::r).length=r.length+1:=rfl
    lia
   rw[e,List.eraseIdx_cons_succ,ih]
   all_goals rfl
theorem pd{α:Type}:∀(l:List α) (i:Nat),(l.eraseIdx i).length<=l.length
 |[],_=>J6 _
 |_::_,0=>ah8 _
 |_::r,i+1=>Nat.succ_le_succ (pd r i)
theorem kN(its:List J0):∀(k:Nat) (acc:List J0),
  aq8 (λx1 x2=>x1++x2) acc.toArray (M7 k its.toArray)=(acc++(M7 k its).flatten).toArray
 |0,acc=>by simp
 |k+1,acc=>by
  have e:acc.toArray++its.toArray=(acc++its).toArray:=by simp
  have e2:(acc++its)++(M7 k its).flatten=acc++(M7 (k+1) its).flatten:=by
   rw[X9,ad2,aj4]
  rw[<-e2,<-kN its k (acc++its),<-e,X9,af4]
section
variable{X:Cx}{af:List (K4×Obj)}{σ:St}{H:Hp}{s:J4}{l b:K4}{xs ys zs:List V}
theorem Inv.lset{its its':List J0}{n:Nat}{f:Array J0->Array J0}{t':Nat}(I:Inv X af σ H s)(hH:H l=some (.lst xs))
  (e:s.heap.get? l=some { cls:=.type "list",data:=.seq its.toArray n }) (hf:f its.toArray=its'.toArray) (hv:ay ys its') (hz:ys.length<=J7) :
  Inv X af σ (upd H l (.lst ys)) { s with heap:=s.heap.update l (ap1 f),toks:=t' }:=by
 have q:=PySem.IsL.update e f;rw[hf]at q;refine I.write (x:=l) (e:=l) (by rw[hH];exact trivial) (.inl rfl) (λb' u hb hu=>(N0.get?_update_other s.heap (ap1 f) (ab0 hb)).trans hu) ⟨_,q⟩ ?_;exact⟨hz,its',_,hv,q⟩
theorem Inv.lnew{its:List J0}{t':Nat}(I:Inv X af σ H s)(hv:ay ys its)(hz:ys.length<=J7):
  Inv X af σ (upd H s.heap.objs.size (.lst ys)) { s with heap:=s.heap.push { cls:=.type "list",data:=.seq its.toArray },toks:=t' } :=
 I.laid (λ_ _ q=>I0 _ q) (J6 _) ⟨hz,its,0,hv,K6 _ rfl⟩
theorem Inv.fresh(I:Inv X af σ H s):H s.heap.objs.size=none:=I.hok.fresh (J6 _)
theorem Inv.lstM(I:Inv X af σ H s)(hH:H l=some (.lst xs)):xs.length<=J7/\∃(its:List J0) (n:Nat),ay xs its/\xs.length=its.length/\s.heap.get? l=some { cls:=.type "list",data:=.seq its.toArray n }:=by
 obtain⟨z,its,n,r,e⟩:=I.hok l _ hH;exact⟨z,its,n,r,r.length,e⟩
theorem yo{n:Nat}(h:n<=J7):L6.List.listTooLong n=false:=by
 unfold L6.List.listTooLong;exact decide_eq_false (by lia)
end
section
variable{X:Cx}
def vm:V->List V->Hp->VK->Prop:=λx vs H Q=>∃l xs y,x=.ref l/\vs=[y]/\H l=some (.lst xs)/\xs.length<J7/\Q .non (upd H l (.lst (xs++[y])))
theorem wg:MtM X "list.append" vm:=by
 intro af s σ H x vs v us Q I rx rv h;obtain⟨l,xs,y,rfl,rfl,hH,hz,q⟩:=h;cases rx;obtain⟨u,rfl,ru⟩:=rv.one;obtain⟨z,its,n,r,hl,e⟩:=I.lstM hH;refine ai2 F.slot_list_append ⟨_,e,rfl⟩ F.entry_list_append (F.args_list_append_2 _ _) (PySem.list_append l its.toArray n u (by rw[J8];lia)) ⟨e,?_⟩;refine⟨.non,_,I.lset (its':=its++[u]) hH e (by simp) (r.append (.cons ru .nil)) ?_,rfl,q⟩;rw[J9,List.length_singleton]
 lia
def EC:V->List V->Hp->VK->Prop:=λx vs H Q=>∃l xs y,x=.ref l/\vs=[]/\H l=some (.lst xs)/\xs[xs.length-1]?=some y/\Q y (upd H l (.lst xs.dropLast))
theorem Ee:MtM X "list.pop" EC:=by
 intro af s σ H x vs v us Q I rx rv h;obtain⟨l,xs,y,rfl,rfl,hH,hy,q⟩:=h;cases rx;have hus:=rv.zero;subst hus;obtain⟨z,its,n,r,hl,e⟩:=I.lstM hH;obtain⟨u,hu,ru⟩:=r.get hy;have hy':its.toArray[its.toArray.size-1]?=some u:=by
  show its.toArray[its.length-1]?=some u;rw[<-T0,<-hl];exact hu
 refine ai2 F.slot_list_pop ⟨_,e,rfl⟩ F.entry_list_pop (F.args_list_pop_1 _) (MeetsSeq.list_pop_last l its.toArray n u hy' (by rw[J8];lia)) ⟨e,?_⟩;refine⟨y,_,I.lset (its':=its.dropLast) hH e ?_ r.dropLast ?_,ru,q⟩
 ·show its.toArray.eraseIdxIfInBounds (its.toArray.size-1)=its.dropLast.toArray;rw[J8,List.eraseIdxIfInBounds_toArray,uL]
 ·rw[List.length_dropLast]
  lia
def xV:V->List V->Hp->VK->Prop:=λx vs H Q=>∃l xs i k y,x=.ref l/\vs=[.int i]/\H l=some (.lst xs)/\-(2 ^ 63)<=i/\i<2 ^ 63/\as1 i xs.length=some k/\xs[k]?=some y/\Q y (upd H l (.lst (xs.eraseIdx k)))
theorem yt:MtM X "list.pop" xV:=by
 intro af s σ H x vs v us Q I rx rv h;obtain⟨l,xs,i,k,y,rfl,rfl,hH,h1,h2,hk,hy,q⟩:=h;cases rx;obtain⟨u,rfl,ru⟩:=rv.one;obtain⟨t,rfl⟩:=ru;obtain⟨z,its,n,r,hl,e⟩:=I.lstM hH;obtain⟨w,hw,rw'⟩:=r.get hy;refine ai2 F.slot_list_pop ⟨_,e,rfl⟩ F.entry_list_pop (F.args_list_pop_2 _ _)
  (MeetsSeq.list_pop_at l its.toArray n i t k w (fitsIndex_both h1 h2) (by rw[J8,<-hl];exact hk) (by rw[<-T0];exact hw) (by rw[J8];lia)) ⟨e,?_⟩
 refine⟨y,_,I.lset (its':=its.eraseIdx k) hH e ?_ (r.eraseIdx k) ?_,rw',q⟩
 ·show its.toArray.eraseIdxIfInBounds k=(its.eraseIdx k).toArray;rw[List.eraseIdxIfInBounds_toArray]
 ·have:=pd xs k
  lia
def GQ:R2:=λx y H Q=>∃l b xs zs,x=.ref l/\y=.ref b/\H l=some (.lst xs)/\H b=some (.lst zs)/\xs.length+zs.length<=J7/\∀p,H p=none->Q (.ref p) (upd H p (.lst (xs++zs)))
theorem yk:OpR X (Z9 .Add) GQ:=by
 intro af s σ H x y v u Q I rx ry h;obtain⟨l,b,xs,zs,rfl,rfl,hH,hB,hz,q⟩:=h;cases rx;cases ry;obtain⟨z,its,n,r,hl,e⟩:=I.lstM hH;obtain⟨z2,its2,n2,r2,hl2,e2⟩:=I.lstM hB;refine PySem.P.add_list e e2 ?_ (by rw[J8,J8];lia);have ea:its.toArray++its2.toArray=(its++its2).toArray:=by simp
 rw[ea];exact⟨.ref _,_,I.lnew (t':=s.toks) (r.append r2) (by rw[J9];lia),rfl,q _ I.fresh⟩
def G0:R2:=λx y H Q=>∃l k xs,x=.ref l/\y=.int k/\H l=some (.lst xs)/\-(2 ^ 63)<=k/\k<2 ^ 63/\xs.length*k.toNat<=J7 /\
 ∀p,H p=none->Q (.ref p) (upd H p (.lst (M7 k.toNat xs).flatten))
theorem qI{α:Type}(xs:List α)(k:Nat):(M7 k xs).flatten.length=k*xs.length:=by
 induction k with
 |zero=>simp
 |succ k ih=>rw[X9,ad2,J9,ih,Nat.succ_mul,Nat.add_comm]
theorem DC:OpR X (Z9 .Mult) G0:=by
 intro af s σ H x y v u Q I rx ry h;obtain⟨l,k,xs,rfl,rfl,hH,h1,h2,hz,q⟩:=h;cases rx;obtain⟨t,rfl⟩:=ry;obtain⟨z,its,n,r,hl,e⟩:=I.lstM hH;have cJ:its.toArray.size*k.toNat<=J7:=by rw[J8,<-hl];exact hz
 have hcap:¬ its.toArray.size*k.toNat > (2 ^ 63-1) / 8:=by
  have:(J7:Nat)<=(2 ^ 63-1) / 8:=by decide
  lia
 have hfit:¬ (!Builtin.List.listFitsIndex k)=true:=by
  rw[fitsIndex_both h1 h2];exact R9
 have hlong:¬ L6.List.listTooLong (its.toArray.size*k.toNat)=true:=by
  rw[yo cJ];exact R9
 have hnew:aq8 (λx1 x2=>x1++x2) #[] (M7 (if its.toArray.isEmpty=true then 0 else k.toNat) its.toArray)=(M7 k.toNat its).flatten.toArray:=by
  have f0:∀m:Nat,aq8 (λx1 x2=>x1++x2) #[] (M7 m its.toArray)=(M7 m its).flatten.toArray:=λm=>by
   have:=kN its m [];rw[N5]at this;exact this
  rw[f0];cases its with
  |nil=>simp
  |cons a r'=>rw[if_neg (by simp)]
 refine wpAny_binaryOp_repeat_ref (T:="list") (U:="int") (by decide) ⟨_,e,rfl⟩ (λs'=>ap0 s' k t) noFill_list_mul F.fills_int_mul al7 repeat_list F.slot_int_index.lookup
  (ai2 al7 (ap0 s k t) F.entry_int_rmul (F.args_int_rmul_2 _ _) (int___rmul___int_list k t l its.toArray n)
   ⟨e,rfl,⟨_,e,rfl⟩,ai2 F.slot_list_mul ⟨_,e,rfl⟩ F.entry_list_mul (F.args_list_mul_2 _ _) (AutoListH.list___mul___list_int_3 l its.toArray n k t hfit hcap hlong) ⟨e,?_⟩⟩)
 rw[hnew];exact⟨.ref _,_,I.lnew (t':=s.toks) (r.rep k.toNat) (by rw[qI,ak3];exact hz),rfl,q _ I.fresh⟩
end
end L2
namespace Att
open PySem PySem.W PySem.Calls PyProof.Rows
theorem me{P:Params}{h:N0}:∀(ns:List Int) (vs:List J0),WellAll P h vs (ns.map WData.int)->as2 vs ns:=by
 intro ns
 induction ns with
 |nil =>
  intro vs w;rw[ai3]at w;cases w;exact .nil
 |cons n ns ih =>
  intro vs w;rw[K2]at w;cases w with
  |cons a b =>
   cases a;exact .cons _ _ (ih _ b)
theorem xw{l:OpenLaw}{n:Nat}(hn:l.most=some n){P:Params}{h:N0}{args:List WData}{vals:List J0}
  (hpre:l.row.toRowW.claim.pre args=true) (hwl:WellAll P h vals args) :
  ∃a vs ns,vals=[W1 a]/\args=[WData.list (ns.map WData.int)]/\h.get? a=some { cls:=.type "list",data:=.seq vs.toArray }/\as2 vs ns/\ns.length<=n:=by
 have hsh:WShape.hasAll [] args [.list .int]=true:=(pre_splitW hpre).1;have hc:l.pre.holds [] { args:=args }=true:=(pre_splitW hpre).2;obtain⟨d,r,rfl,h1,h2⟩:=hasAllW_cons hsh;obtain rfl:=hasAllW_nil h2;obtain⟨xs,rfl,h3⟩:=hasW_list h1;obtain⟨ns,rfl⟩:=items_int h3;have cJ:ns.length<=n:=by
  unfold OpenLaw.pre at hc;have h4:(WTm.not (.lt (.lit (.int (n:Int))) (.len (.arg 0)))).holds [] { args:=[.list (ns.map .int)] }=true:=by
   have h4:=(holds_andW hc).1;rw[hn]at h4;exact h4
  have h5:=condW_of h4 (w_not (w_lt w_lit (w_len_list (w_arg rfl))));rw[u8]at h5;refine Nat.le_of_not_lt λq=>?_;have q':(n:Int)<((ns.length:Nat):Int):=by lia
  first
   |(rw[decide_eq_true q']at h5;exact absurd h5 (by decide))
   |(simp at h5;lia)
 cases hwl with
 |cons w1 w2 =>
  cases w2;cases w1 with
  |list ho hall=>exact⟨_,_,ns,rfl,rfl,ho,me ns _ hall,cJ⟩
theorem wJ(l:OpenLaw)(args:List WData):l.row.toRowW.claim.post args (.bool true) args=true :=
 postW_of (r:=l.row.toRowW) (X:=(true==true))
  (show WShape.has [] (.bool true) .bool=true by first|rfl|decide|simp[WShape.has,WShape.arms,WShape.armsAll])
  (show(WTm.eq .res (.lit (.bool true))).value [] { args:=args,res:=some (.bool true),after:=args }=some (.bool (true==true))from w_eq_bool (w_res rfl) w_lit) rfl
theorem attach_call{l:OpenLaw}{n:Nat}{q:N4}{loose:List Str}{XP:(Str->Option J0)->N0->Prop}{YP:S2->N0->Prop}{d:DefRec}
  (hn:l.most=some n) (hdf:d.params.defaults=[])
  (call:∀ (w:S2) (s₀ s₁:J4) (mg mb:Str → Option J0) (fa:K4) (o:Obj) (pm cd doc:J0) (a:K4) (vs:List J0) (ns:List Int),
   Ground q loose [] XP w s₀ mg mb s₁.heap->YP w s₁.heap ->
   s₁.heap.get? fa=some o->o.data=.func (docDef d.name d.params d.body d.scope pm cd doc)->s₁.heap.CodeRec cd d.name->mg d.name=some (.ref fa) ->
   s₁.heap.get? a=some { cls:=.type "list",data:=.seq vs.toArray }->as2 vs ns->ns.length<=n->s₁.gens=#[] ->
   ah7 (N9 l.prog w) ap6 (.call (.ref fa) ⟨[.ref a],[]⟩) (λr s'=>r=.ok (.ret (.bool true))/\OldK s₁.heap s'.heap/\s'.os=s₁.os/\an5 s'.gens) s₁) :
  WalkO q loose XP YP l.row.toRowW d [] (λf vs=>PySem.call f vs):=by
 intro w s₀ s₁ mg mb G Y fa o pm cd doc dV kV ho hd hcd hD hmg hg args vals as hpre hlay hrd hwl hlo;obtain rfl:dV=.none:=Dflts.none hD hdf;obtain rfl:kV=.none:=Dflts.noKw hD;obtain⟨a,vs,ns,rfl,rfl,hobj,hints,cJ⟩:=xw hn hpre hwl;refine enter_call (ad8 (call w s₀ s₁ mg mb fa o pm cd doc a vs ns G Y ho (fd_plain hd) hcd hmg hobj hints cJ hg) λr s' hq=>?_);obtain⟨rfl,h2,h3,h4⟩:=hq;exact⟨.inl ⟨.bool true,.bool true,[],rfl,λ_=>rfl,.bool true,wJ l _,λ_=>⟨an8.nil,λ_ hm=>(nomatch hm)⟩⟩,h2,h3,h4⟩
section
variable{prog:N4}{w:S2}{A:P5}{E:J0->J4->Prop}{s:J4}{K:Frag}
end
end Att
namespace L2
open PySem PySem.Spec PyProof.Rows
theorem pX:∀{vs:List J0}{ns:List Int},as2 vs ns->ay (ns.map V.int) vs
 |_,_,.nil=>.nil
 |_,_,.cons n t h=>.cons ⟨t,rfl⟩ (pX h)
def AE(H:Hp):Prop:=∀b,H b=none∨∃o xs,H b=some (.frz o (.lst xs))
theorem yv{P:N4}{w:S2}{K:H0}{mg mb:Str->Option J0}{CX:CXT}{k:Nat}{fa a:K4}{fd:L4}{x:Str}{sp:Sp}{s₁:J4}{vs:List J0}{ns:List Int}
  (KX:K.In s₁.heap) (hns:s₁.heap.Ns K9 mg) (hb:s₁.heap.Ns builtinsNs mb) (hbb:∀x:Str,x≠"__name__"->mb x=ab8 x) (hlim:s₁.heap.NoLimit) (hg:s₁.gens=#[])
  (ha:s₁.heap.get? a=some { cls:=.type "list",data:=.seq vs.toArray }) (hi:as2 vs ns) (hl:ns.length<=J7) (hr:de k ap6)
  (F:∀base:N0,K.In base->base.Ns K9 mg->aV P w K mg base CX k fa fd [x] sp) (hbind:∀(s:J4) (u:J0),aq6 s fd ⟨[u],[]⟩ [(x,u)])
  (hsp:∀H:Hp,AE H->SqL K H a (ns.map V.int)->sp [.ref a] H (λv _=>v=.bl true) λ_ _ _=>False)
  (hCX:∀H e s',CX [] H s₁ (λ_ _ _=>False) e s'->False) :
  ah7 (N9 P w) ap6 (.call (.ref fa) ⟨[.ref a],[]⟩) (λr s'=>r=.ok (.ret (.bool true))/\OldK s₁.heap s'.heap/\s'.os=s₁.os/\an5 s'.gens) s₁:=by
 have rv:=pX hi;have lenV:=hi.length
 -- from an abstract heap in which nothing but the script may be tracked
 have core:∀H:Hp,AE H->SqL K H a (ns.map V.int)->HOk P w H s₁.heap->(∀b,H b≠none->b=a)->(H a≠none->K.lookup a=none) ->
   ah7 (N9 P w) ap6 (.call (.ref fa) ⟨[.ref a],[]⟩) (λr s'=>r=.ok (.ret (.bool true))/\OldK s₁.heap s'.heap/\s'.os=s₁.os/\an5 s'.gens) s₁:=by
  intro H hO hS hok hA hK;have base_of:∀{b:K4} {o:Obj},s₁.heap.get? b=some o->H b=none->(qy s₁.heap H).get? b=some o:=λe n=>zu e n;have noA:∀{b:K4} {o:Obj} {es:Array as3} {ep:Nat},s₁.heap.get? b=some o->o.data=.dict es ep->H b=none:=λ{b o es ep} e d=>by
   cases q:H b with
   |none=>rfl
   |some u =>
    have e':b=a:=hA b (by rw[q];simp);subst e';rw[ha]at e;cases e;have d':Data.seq vs.toArray _=Data.dict es ep:=d;cases d'
  have nsK:∀{b:K4} {m:Str->Option J0},s₁.heap.Ns b m->(qy s₁.heap H).Ns b m:=λ{b m} ⟨o,es,ep,e,d,r⟩=>⟨o,es,ep,base_of e (noA e d),d,r⟩;have hKb:K.In (qy s₁.heap H):=λb o e=>base_of (KX b o e) (by
   cases q:H b with
   |none=>rfl
   |some u =>
    have e':b=a:=hA b (by rw[q];simp);subst e';rw[hK (by rw[q];simp)]at e;cases e)
  have hM:Mod K mg (qy s₁.heap H):=⟨hKb,nsK hns,⟨mb,nsK hb,hbb⟩,let⟨mc,h1,h2⟩:=hlim;⟨mc,nsK h1,h2⟩⟩;have e0:BP P w K mg (qy s₁.heap H) ap6 [] s₁ H:=⟨rfl,hM,λb o e=>Bz e,Nat.le_of_eq (xl _ _),trivial,λb hb=>absurd (show b∈([]:List K4)from hb) (by simp),hok,.of_eq hg⟩;refine ad8 ((F _ hKb (nsK hns)).run ap6 [] s₁ H ⟨[.ref a],[]⟩ [.ref a] [.ref a] _ _ hr e0 (hbind s₁ (.ref a)) (.cons rfl .nil) (hsp H hO hS)) λr s' h=>?_;cases r with
  |error e=>exact(hCX H e s' h).elim
  |ok fl =>
   cases fl with
   |next=>exact ab7 h
   |brk=>exact ab7 h
   |cont=>exact ab7 h
   |ret u =>
    obtain⟨v,H',os,bare,un,hok',r',q⟩:=h;have q':v=.bl true:=q;subst q';obtain rfl:u=J0.bool true:=r';refine⟨rfl,OldK.of_keep λb o e=>?_,os,bare⟩;cases q:H b with
    |none=>exact un.keep b o e q (by intro z;exact absurd (show b∈([]:List K4)from z) (by simp)) (by simp)
    |some u =>
     rcases hO b with z|⟨ob,xs,z⟩
     ·rw[q]at z;cases z
     ·have z2:=un.frzs b ob _ z;obtain⟨e1,_⟩:=hok b _ z;obtain⟨e2,_⟩:=hok' b _ z2;rw[e]at e1;cases e1;exact e2
 cases hk:K.lookup a with
 |some o =>
  -- the script is one of the module's own objects
  have e:=KX a o hk;rw[ha]at e;cases e;refine core (λ_=>none) (λ_=>.inl rfl) (.inr ⟨_,vs.toArray,_,hk,rfl,rfl,rfl,by rw[J8,lenV];exact hl,by simpa using rv⟩) (λb u z=>by have z':(none:Option HO)=some u:=z;cases z') (λb z=>absurd rfl z) λz=>absurd rfl z
 |none =>
  refine core (λb=>if b=a then some (.frz { cls:=.type "list",data:=.seq vs.toArray } (.lst (ns.map V.int)))else none) (λb=>?_) (.inl (.inr ⟨{ cls:=.type "list",data:=.seq vs.toArray },if_pos rfl⟩)) (λb u z=>?_) (λb z=>?_) λ_=>hk
  ·by_cases hb:b=a
   ·exact .inr ⟨_,_,if_pos hb⟩
   ·exact .inl (if_neg hb)
  ·by_cases hb:b=a
   ·have z':=(if_pos hb).symm.trans z;cases z';subst hb;exact⟨ha,by rw[u8];exact hl,vs,_,rv,ha⟩
   ·have z':=(if_neg hb).symm.trans z;cases z'
  ·by_cases hb:b=a
   ·exact hb
   ·exact absurd (if_neg hb) z
theorem uZ{l:PySem.W.OpenLaw}{n k:Nat}{q:N4}{loose:List Str}{XP:(Str->Option J0)->N0->Prop}{YP:S2->N0->Prop}{d:DefRec}{K:Params->H0}{CX:S2->CXT}{sp:S2->Sp}{x:Str}
  (hn:l.most=some n) (hn2:n<=J7) (hdf:d.params.defaults=[]) (hr:de k ap6)
  (hY:∀(w:S2) (h:N0),YP w h->(K w.params).In h)
  (F:∀ (w:S2) (mg:Str → Option J0) (fa:K4) (h:N0),(K w.params).In h → h.Ns K9 mg → mg d.name = some (.ref fa) →
   ∃fd:L4,(∀(s:J4) (u:J0),aq6 s fd ⟨[u],[]⟩ [(x,u)]) /\
    ∀base:N0,(K w.params).In base->base.Ns K9 mg->aV l.prog w (K w.params) mg base (CX w) k fa fd [x] (sp w))
  (hsp:∀(w:S2) (H:Hp) (a:K4) (ns:List Int),ns.length<=n->AE H->SqL (K w.params) H a (ns.map V.int)->sp w [.ref a] H (λv _=>v=.bl true) λ_ _ _=>False)
  (hCX:∀(w:S2) (H:Hp) (s:J4) (e:J0) (s':J4),CX w [] H s (λ_ _ _=>False) e s'->False) :
  PySem.W.WalkO q loose XP YP l.row.toRowW d [] (λf vs=>PySem.call f vs):=by
 refine Att.attach_call hn hdf λw s₀ s₁ mg mb fa o pm cd doc a vs ns G Y ho hd hcd hmg hobj hints cJ hg=>?_;have KX:=hY w _ Y;obtain⟨fd,hb,hF⟩:=F w mg fa _ KX G.T.g hmg;exact yv KX G.T.g G.T.b G.T.builtins G.T.nolimit hg hobj hints (R6 cJ hn2) hr hF hb (λH hO hS=>hsp w H a ns cJ hO hS) λH e s'=>hCX w H s₁ e s'
end L2
/- THE LAST THEOREM (shape; LID,My.* are yours):
   My.Adr: a structure of the addresses that your layer names (classes,functions);My.Txt K t: a structure (Prop) of the equations over K;
   My.txt_mk:{K} {implicit addresses ..} (e1:nsIn K K9 "law"=some (some (.ref f))) (e2:K.lookup f=some ⟨oc,od,.func (fnOf "law" "law" params body scope dV kV doc pm an cdv ct),sl⟩) (e3:codeIn K cdv "law"=true) ..:∃t,My.Txt K t
set_option maxRecDepth 100000 in
set_option maxHeartbeats 0 in
theorem PySem.Challenge.cw_LID_holds : PySem.Challenge.rw_LID.Holds := by
 w_on;o_law;k_head;(case hw=>w_witness2)
 k_fill
 refine L2.uZ (l:=PySem.Challenge.rw_LID) (n:=63) (k:=40) (x:="script") (CX:=λw=>..) (sp:=λ_=>My.sp_law) rfl (by decide) rfl ⟨rfl,by decide,by decide⟩ (λw h Y=>PySem.W.kIn_of Y) ?F ?S ?C
 case F =>
  intro w mg fa h KX G hmg;have T:∃t,My.Txt (L2.KOf KX) t:=by
   dsimp only[L2.KOf]                          -- K must stand as «<heap const> w.params» for k_is
   refine' My.txt_mk ?e1 ?e2 ?e3 ..
   (case e1=>PySem.W.k_is)                    -- in the order: a name->its address->its object->its parts
   (case e2=>PySem.W.k_is)
   ..
  obtain⟨t,T⟩:=T;have e0:=hmg.symm.trans (Q8 KX G T.law);cases e0                                       -- fa is the law's own address;exact⟨_,λs u=>.of_eq rfl,λbase kb nb=>My.law_fn T kb nb⟩     -- if «.of_eq rfl» comes too early: refine' ⟨_,?b,λbase kb nb=>My.law_fn T kb nb⟩;exact λs u=>.of_eq rfl
 case S=>exact λw H a ns hl hO hS=>..
 case C=>exact ..
(the tactic k_is has no namespace: write k_is) -/
namespace L2
open PySem PySem.Spec PyProof.Rows
def gj(s:aa6):Arguments:=match s with
 |.FunctionDef _ a _ _ _ _ _ _ _ _=>a
 |_=>{ posonlyargs:=[],args:=[],vararg:=none,kwonlyargs:=[],kw_defaults:=[],kwarg:=none,defaults:=[] }
def du(s:aa6):List aa6:=match s with
 |.FunctionDef _ _ b _ _ _ _ _ _ _=>b
 |_=>[]
def aj(s:aa6):af8:=match s with
 |.FunctionDef _ _ _ _ _ _ sc _ _ _=>sc
 |_=>{ kind:=.function,names:=[],isGenerator:=false,isCoroutine:=false }
abbrev CX0:CXT:=λ_ _ _ _ _ _=>False
abbrev E0:XK:=λ_ _ _=>False
theorem Ce{X:Cx}:uk CX0 X E0:=λ_ _ _ _ _ _ _ h=>h.elim
structure Fun(K:H0) (x qual:Str) (st:aa6) (f:K4) (fd:L4):Prop where
 ex:∃(oc:J0) (od:Option K4) (kV doc pm:J0) (an:Option K4) (cdv ct:J0) (osl:Array (Option J0)),
  fd=ad9 x qual (gj st) (du st) (aj st) .none kV doc pm an cdv ct/\K.lookup f=some ⟨oc,od,.func fd,osl⟩/\ah1 K cdv qual=true
 kp:ac5 K (.ref f)=true
section
variable{P:N4}{w:S2}{K:H0}{mg:Str->Option J0}{base:N0}{f:K4}{fd:L4}
theorem Fun.ok{x qual:Str}{st:aa6}{f:K4}{fd:L4}{N ps:List Str}{k:Nat}{sp:Sp}(F:Fun K x qual st f fd)(S:aw N ps (aj st))(len:∀vs H Q E,sp vs H Q E->vs.length=ps.length)
  (hbody:∀ (cdv:J0) (A:P5) (outer:List Env) (s:J4) (H:Hp) (vs:List V) (Q:VK) (E:XK),de k (A.deeper (ap3 qual (aj st) s.heap.objs.size f cdv)) → sp vs H Q E →
   ∃t,PSs (rq CX0 P w K mg base N qual (aj st) f cdv A outer s H E).nox (du st) t/\t { nx:=λ_ H'=>Q .non H',rt:=Q } (gC N vs) H):aV P w K mg base CX0 (k+1) f fd ps sp:=by
 obtain⟨oc,od,kV,doc,pm,an,cdv,ct,osl,rfl,lk,hcd⟩:=F.ex;refine EO lk hcd S len λA outer s H vs Q E hr hsp=>?_;obtain⟨t,h,q⟩:=hbody cdv A outer s H vs Q E hr hsp;exact⟨t,h.nox,q⟩
theorem Fun.binds{x qual:Str}{st:aa6}{f:K4}{fd:L4}{ps:List Str}(F:Fun K x qual st f fd)
  (h:∀(kV doc pm:J0) (an:Option K4) (cdv ct:J0) (us:List J0),us.length=ps.length->bindArgs (ad9 x qual (gj st) (du st) (aj st) .none kV doc pm an cdv ct) ⟨us,[]⟩=ag9 (ps.zip us)):eY K fd ps []:=by
 obtain⟨oc,od,kV,doc,pm,an,cdv,ct,osl,rfl,lk,hcd⟩:=F.ex;exact .all (h kV doc pm an cdv ct)
theorem xY{x qual:Str}{st:aa6}{f:K4}{oc:J0}{od an:Option K4}{osl:Array (Option J0)}{kV doc pm cdv ct:J0}(l:K.lookup f=some ⟨oc,od,.func (ad9 x qual (gj st) (du st) (aj st) .none kV doc pm an cdv ct),osl⟩)
  (c:ah1 K cdv qual=true) (k:ac5 K (.ref f)=true):Fun K x qual st f (ad9 x qual (gj st) (du st) (aj st) .none kV doc pm an cdv ct):=⟨⟨oc,od,kV,doc,pm,an,cdv,ct,osl,rfl,l,c⟩,k⟩
end
theorem bc{c A B:Prop}[Decidable c](h1:c->A)(h2:¬ c->B):if c then A else B:=by
 by_cases h:c
 ·rw[if_pos h];exact h1 h
 ·rw[if_neg h];exact h2 h
section
variable{κ:Type} [DecidableEq κ]
noncomputable def ko(kvs:List (κ×V))(k:κ):Option V:=(kvs.find? λkv=>decide (kv.1=k)).map (·.2)
noncomputable def kG(kvs:List (κ×V))(k:κ)(v:V):List (κ×V) :=
 if(kvs.any λkv=>decide (kv.1=k))=true then kvs.map (λkv=>if kv.1=k then(kv.1,v)else kv)else kvs++[(k,v)]
def G2(kvs:List (κ×V))(k:κ):List (κ×V):=kvs.filter λkv=>decide (kv.1≠k)
theorem kA{p:κ×V}{r:List (κ×V)}{k:κ}(e:p.1=k):ko (p::r) k=some p.2:=by simp[ko,ab2,e]
theorem j0{p:κ×V}{r:List (κ×V)}{k:κ}(e:¬ p.1=k):ko (p::r) k=ko r k:=by simp[ko,ab2,e]
theorem tu(k:κ):∀kvs:List (κ×V),(kvs.any λkv=>decide (kv.1=k))=(ko kvs k).isSome
 |[]=>rfl
 |p::r=>by
  rw[Z4]
  by_cases e:p.1=k
  ·simp only[kA e,decide_eq_true e,Bool.true_or,Option.isSome_some]
  ·rw[j0 e,decide_eq_false e,Bool.false_or];exact tu k r
theorem lJ(kvs:List (κ×V))(k:κ)(v:V):(kG kvs k v).length<=kvs.length+1:=by
 unfold kG
 split
 ·rw[u8];lia
 ·rw[J9,O3,Z7];lia
theorem l8.isSome_eq{o:Option V}{u:Option J0}(r:l8 o u):o.isSome=u.isSome:=by
 cases o with
 |none=>cases u with
  |none=>rfl
  |some _=>exact(show False from r).elim
 |some _=>cases u with
  |none=>exact(show False from r).elim
  |some _=>rfl
theorem l8.getD{o:Option V}{u:Option J0}{d:V}{d':J0}(r:l8 o u)(rd:aL d d'):aL (o.getD d) (u.getD d'):=by
 cases o with
 |none=>cases u with
  |none=>exact rd
  |some _=>exact(show False from r).elim
 |some _=>cases u with
  |none=>exact(show False from r).elim
  |some _=>exact r
theorem KV.val{kvs:List (κ×V)}{vs:List (κ×J0)}(r:KV kvs vs)(k:κ):l8 (ko kvs k) (ah9 vs k):=by
 unfold KV at r
 induction r with
 |nil=>exact aq9
 |@cons p q ps qs h t ih =>
  obtain⟨h1,h2⟩:=h
  by_cases e:p.1=k
  ·have e':q.1=k:=h1.symm.trans e;have b:ah9 (q::qs) k=some q.2:=by simp[ah9,ab2,e']
   rw[kA e,b];exact h2
  ·have e':¬ q.1=k:=λz=>e (h1.trans z);have b:ah9 (q::qs) k=ah9 qs k:=by simp[ah9,ab2,e']
   rw[j0 e,b];exact ih
theorem KV.any{kvs:List (κ×V)}{vs:List (κ×J0)}(r:KV kvs vs)(k:κ):(kvs.any λkv=>decide (kv.1=k))=vs.any λkv=>decide (kv.1=k):=by
 unfold KV at r
 induction r with
 |nil=>rfl
 |cons h t ih=>rw[Z4,Z4,ih,h.1]
theorem KV.repl{kvs:List (κ×V)}{vs:List (κ×J0)}(r:KV kvs vs)(k:κ){y:V}{u:J0}(ry:aL y u):
  KV (kvs.map λkv=>if kv.1=k then(kv.1,y)else kv) (vs.map λkv=>if kv.1=k then(kv.1,u)else kv):=by
 unfold KV at r ⊢
 induction r with
 |nil=>exact .nil
 |@cons p q ps qs h t ih =>
  rw[K2,K2];refine .cons ?_ ih;obtain⟨h1,h2⟩:=h
  by_cases e:p.1=k
  ·rw[if_pos e,if_pos (h1.symm.trans e)];exact⟨h1,ry⟩
  ·rw[if_neg e,if_neg (λz=>e (h1.trans z))];exact⟨h1,h2⟩
theorem KV.put{kvs:List (κ×V)}{vs:List (κ×J0)}(r:KV kvs vs)(k:κ){y:V}{u:J0}(ry:aL y u):KV (kG kvs k y) (stored vs k u):=by
 unfold kG stored;rw[r.any k]
 by_cases e:(vs.any λkv=>decide (kv.1=k))=true
 ·rw[if_pos e,if_pos e];exact r.repl k ry
 ·rw[if_neg e,if_neg e];exact aa9.snoc r ⟨rfl,ry⟩
theorem KV.length{kvs:List (κ×V)}{vs:List (κ×J0)}(r:KV kvs vs):kvs.length=vs.length:=an4 r
end
theorem ki{P:N4}{w:S2}{k:Key}{u:J0}(r:aL (kV k) u):(bB P w).is k u=true:=by
 cases k with
 |inl i=>obtain⟨t,e⟩:=(show ∃t,u=ak0 i t from r);subst e;exact rD P w i t
 |inr x=>obtain⟨t,e⟩:=(show ∃t,u=ar4 x t from r);subst e;exact tm P w x t
theorem pP{P:N4}{w:S2}:∀{ks:List Key}{us:List J0},ay (ks.map kV) us->ItemsAre (bB P w) ks us
 |[],_,r=>by rw[ai3]at r;cases r;exact .nil
 |k::ks,_,r=>by
  rw[K2]at r;cases r with
  |cons h t=>exact .cons (ki h) (pP t)
abbrev KT(H:Hp):List (List Key×V)->List (List Key×K4×J0)->Prop:=aa9 λp q=>p.1=q.1/\H q.2.1=some (.tup (p.1.map kV))/\aL p.2 q.2.2
theorem KT.val{H:Hp}{kvs:List (List Key×V)}{xs:List (List Key×K4×J0)}(r:KT H kvs xs)(k:List Key):l8 (ko kvs k) ((atKey xs k).map (·.2)):=by
 induction r with
 |nil=>exact aq9
 |@cons p q ps qs h t ih =>
  obtain⟨h1,_,h2⟩:=h
  by_cases e:p.1=k
  ·have e':q.1=k:=h1.symm.trans e;have b:atKey (q::qs) k=some q.2:=by simp[atKey,ab2,e']
   rw[kA e,b];exact h2
  ·have e':¬ q.1=k:=λz=>e (h1.trans z);have b:atKey (q::qs) k=atKey qs k:=by simp[atKey,ab2,e']
   rw[j0 e,b];exact ih
theorem KT.repl{H:Hp}{kvs:List (List Key×V)}{xs:List (List Key×K4×J0)}(r:KT H kvs xs)(k:List Key){y:V}{u:J0}(ry:aL y u):
  KT H (kvs.map λkv=>if kv.1=k then(kv.1,y)else kv) (xs.map (putAt k u)):=by
 induction r with
 |nil=>exact .nil
 |@cons p q ps qs h t ih =>
  rw[K2,K2];refine .cons ?_ ih;obtain⟨h1,h2,h3⟩:=h;unfold putAt
  by_cases e:p.1=k
  ·rw[if_pos e,if_pos (h1.symm.trans e)];exact⟨h1,h2,ry⟩
  ·rw[if_neg e,if_neg (λz=>e (h1.trans z))];exact⟨h1,h2,h3⟩
theorem KT.put{H:Hp}{kvs:List (List Key×V)}{xs:List (List Key×K4×J0)}(r:KT H kvs xs)(k:List Key){b:K4}{y:V}{u:J0}(hb:H b=some (.tup (k.map kV)))(ry:aL y u):
  KT H (kG kvs k y) (storedH xs k b u):=by
 have e:(kvs.any λkv=>decide (kv.1=k))=(atKey xs k).isSome:=by
  rw[tu,(r.val k).isSome_eq,Option.isSome_map]
 unfold kG storedH;rw[e]
 by_cases q:(atKey xs k).isSome=true
 ·rw[if_pos q,if_pos q];exact r.repl k ry
 ·rw[if_neg q,if_neg q];exact aa9.snoc r ⟨rfl,hb,ry⟩
theorem KT.keeps{H H':Hp}{kvs:List (List Key×V)}{xs:List (List Key×K4×J0)}(r:KT H kvs xs)(ht:∀b ys,H b=some (.tup ys)->H' b=some (.tup ys)):KT H' kvs xs :=
 aa9.mapP r λ_ _ z=>⟨z.1,ht _ _ z.2.1,z.2.2⟩
section
variable{P:N4}{w:S2}{H:Hp}{h:N0}{a:K4}
theorem B7{u:HO}(ok:HOk P w H h)(e:Rd H a u):bV P w H h a u:=e.ok ok
theorem sd{kvs:List (Key×V)}(ok:HOk P w H h)(e:Rd H a (.dK kvs)):kvs.length<=J7/\(a==ac9)=false/\∃vs,KV kvs vs/\h.DictOf (bB P w) a vs :=
 show bV P w H h a (.dK kvs)from B7 ok e
theorem Ft{kvs:List (Key×V)}(ok:HOk P w H h)(e:H a=some (.dK kvs)):kvs.length<=J7/\(a==ac9)=false/\∃vs,KV kvs vs/\h.DictOf (bB P w) a vs:=sd ok (.inl e)
theorem mH{ks:List Key}(ok:HOk P w H h)(e:H a=some (.tup (ks.map kV))):(aq1 (bB P w)).is h ks a:=by
 obtain⟨_,its,r,o,h1,h2,⟨n,h3⟩,_⟩:=(show bV P w H h a (.tup (ks.map kV))from ok a _ e);exact⟨o,its.toArray,n,h1,h2,h3,by simpa using pP r⟩
theorem rH{kvs:List (List Key×V)}(ok:HOk P w H h)(e:Rd H a (.dT kvs)):kvs.length<=J7/\(a==ac9)=false /\
  ∃xs,KT H kvs xs/\h.DictOfH (aq1 (bB P w)) a xs:=by
 obtain⟨z,y,xs,r,o,es,ep,h1,h2,h3,h4,h5⟩:=(show bV P w H h a (.dT kvs)from B7 ok e);refine⟨z,y,xs,r,o,es,ep,h1,h2,h3,h4,λx hx=>?_,h5⟩;have all:∀{l:List (List Key×V)} {m:List (List Key×K4×J0)},KT H l m->∀x∈m,(aq1 (bB P w)).is h x.1 x.2.1:=by
  intro l m q
  induction q with
  |nil=>intro x hx;exact nomatch hx
  |@cons p q ps qs hq t ih =>
   intro x hx;rcases L5.mp hx with e|hx
   ·subst e;exact mH ok (by rw[<-hq.1];exact hq.2.1)
   ·exact ih x hx
 exact all r x hx
theorem Fk{kvs:List (List Key×V)}(ok:HOk P w H h)(e:H a=some (.dT kvs)):kvs.length<=J7/\(a==ac9)=false /\
  ∃xs,KT H kvs xs/\h.DictOfH (aq1 (bB P w)) a xs:=rH ok (.inl e)
end
def mE(H:Hp)(a:K4)(y:V)(r:Option V):Prop :=
 (∃kvs k,Rd H a (.dK kvs)/\y=kV k/\r=ko kvs k)∨∃kvs k b,Rd H a (.dT kvs)/\y=.ref b/\H b=some (.tup (k.map kV))/\r=ko kvs k
def zR(H:Hp)(a:K4)(y v:V)(H':Hp):Prop :=
 (∃kvs k,H a=some (.dK kvs)/\y=kV k/\kvs.length<J7/\H'=upd H a (.dK (kG kvs k v))) ∨
 ∃kvs k b,H a=some (.dT kvs)/\y=.ref b/\H b=some (.tup (k.map kV))/\kvs.length<J7/\H'=upd H a (.dT (kG kvs k v))
theorem mE.t{H:Hp}{a b:K4}{kvs:List (List Key×V)}{k:List Key}(e:H a=some (.dT kvs))(eb:H b=some (.tup (k.map kV))):mE H a (.ref b) (ko kvs k):=.inr ⟨kvs,k,b,.inl e,rfl,eb,rfl⟩
theorem zR.t{H:Hp}{a b:K4}{kvs:List (List Key×V)}{k:List Key}{v:V}(e:H a=some (.dT kvs))(eb:H b=some (.tup (k.map kV)))(hl:kvs.length<J7):
  zR H a (.ref b) v (upd H a (.dT (kG kvs k v))):=.inr ⟨kvs,k,b,e,rfl,eb,hl,rfl⟩
section
variable{X:Cx}{af:List (K4×Obj)}{σ:St}{H:Hp}{s:J4}{a:K4}{y v:V}{u r:J0}{o:Option V}{A:P5}{E:J0->J4->Prop}
theorem Inv.big(I:Inv X af σ H s):ac9<s.heap.objs.size:=by
 have h:K9<s.heap.objs.size:=(I.mod.glob.keeps I.bk).lt;exact ak4 (by decide) h
theorem uC{Q:J0->J4->Prop}(hu:A.units+1<ac8)(I:Inv X af σ H s)(g:mE H a y (some v))(ry:aL y u)(h:∀w' s',Inv X af σ H s'->aL v w'->Q w' s'):
  L3 (N9 X.prog X.w) A (al4 (.ref a) u) Q E s:=by
 rcases g with⟨kvs,k,e,ey,l⟩|⟨kvs,k,b,e,ey,eb,l⟩
 ·subst ey;obtain⟨z,hd,vs,rel,dd⟩:=sd I.hok e;obtain⟨w',hw,rw'⟩:=l8.some_of (v:=v) (o:=ah9 vs k) (by rw[l];exact rel.val k);exact wpAny_getItem_of (ki ry) dd.mapOf hw (h w' _ (I.tok _) rw')
 ·subst ey;cases(show u=W1 b from ry);obtain⟨z,hd,xs,rel,dd⟩:=rH I.hok e;obtain⟨w',hw,rw'⟩:=l8.some_of (v:=v) (o:=(atKey xs k).map (·.2)) (by rw[l];exact rel.val k);obtain⟨p,hp,hp2⟩:=Option.map_eq_some_iff.mp hw;refine wpAny_getItem_heap (ai8 hu) (mH I.hok eb) dd hp ?_;rw[hp2];exact h w' _ (I.tok _) rw'
theorem FH{Q:J0->J4->Prop}(hu:A.units+1<ac8)(I:Inv X af σ H s)(g:mE H a y o)(ry:aL y u)(h:∀s',Inv X af σ H s'->Q (.bool o.isSome) s'):
  L3 (N9 X.prog X.w) A (Q0 .In u (.ref a)) Q E s:=by
 rcases g with⟨kvs,k,e,ey,l⟩|⟨kvs,k,b,e,ey,eb,l⟩
 ·subst ey;obtain⟨z,hd,vs,rel,dd⟩:=sd I.hok e;refine wpAny_in_of (ki ry) hd dd.mapOf ?_;rw[<-(rel.val k).isSome_eq,<-l];exact h _ (I.tok _)
 ·subst ey;cases(show u=W1 b from ry);obtain⟨z,hd,xs,rel,dd⟩:=rH I.hok e;refine wpAny_in_heap (ai8 hu) (mH I.hok eb) hd dd ?_;have q:=(rel.val k).isSome_eq;rw[Option.isSome_map]at q;rw[<-q,<-l];exact h _ (I.tok _)
theorem yO{Q:J0->J4->Prop}(hu:A.units+1<ac8)(I:Inv X af σ H s)(g:mE H a y o)(ry:aL y u)(h:∀s',Inv X af σ H s'->Q (.bool (!o.isSome)) s'):
  L3 (N9 X.prog X.w) A (Q0 .NotIn u (.ref a)) Q E s:=by
 rcases g with⟨kvs,k,e,ey,l⟩|⟨kvs,k,b,e,ey,eb,l⟩
 ·subst ey;obtain⟨z,hd,vs,rel,dd⟩:=sd I.hok e;refine wpAny_notIn_of (ki ry) hd dd.mapOf ?_;rw[<-(rel.val k).isSome_eq,<-l];exact h _ (I.tok _)
 ·subst ey;cases(show u=W1 b from ry);obtain⟨z,hd,xs,rel,dd⟩:=rH I.hok e;refine wpAny_notIn_heap (ai8 hu) (mH I.hok eb) hd dd ?_;have q:=(rel.val k).isSome_eq;rw[Option.isSome_map]at q;rw[<-q,<-l];exact h _ (I.tok _)
theorem rT{h':N0}{t':Nat}{ob:HO}(I:Inv X af σ H s)(mu:Mut (H a))(hs:Q9 a s.heap h')(he:∃q,h'.get? a=some q)(new:bV X.prog X.w (upd H a ob) h' a ob):
  Inv X af σ (upd H a ob) { s with heap:=h',toks:=t' } :=
 I.write (x:=a) (e:=a) mu (.inl rfl) (λb q hb z=>(hs.2 b hb).trans z) he new
theorem DV{P:N4}{w:S2}{H':Hp}{h':N0}{kvs:List (Key×V)}{vs:List (Key×J0)}(z:kvs.length<=J7)(hd:(a==ac9)=false)(rel:KV kvs vs)(dd:h'.DictOf (bB P w) a vs):
  bV P w H' h' a (.dK kvs):=⟨z,hd,vs,rel,dd⟩
theorem uE{H':Hp}{Q:Unit->J4->Prop}(hu:A.units+1<ac8)(I:Inv X af σ H s)(g:zR H a y v H')(ry:aL y u)(rv:aL v r)(h:∀s',Inv X af σ H' s'->Q () s'):
  L3 (N9 X.prog X.w) A (setItem (.ref a) u r) Q E s:=by
 rcases g with⟨kvs,k,e,ey,l,eH⟩|⟨kvs,k,b,e,ey,eb,l,eH⟩
 ·subst ey eH;obtain⟨z,hd,vs,rel,dd⟩:=Ft I.hok e;have hz:vs.length<=J7:=by rw[<-rel.length];exact z
  have hl:(kG kvs k v).length<=J7:=by have:=lJ kvs k v;lia
  refine wpAny_setItem_pairs (hsz:=hz) (ki ry) dd λh' dd' hs=>h _ ?_;have he:∃q,h'.get? a=some q:=let⟨q,_,_,hq,_⟩:=dd';⟨q,hq⟩
  exact rT I (by rw[e];exact aq9) hs he (DV hl hd (rel.put k rv) dd')
 ·subst ey eH;cases(show u=W1 b from ry);obtain⟨z,hd,xs,rel,dd⟩:=Fk I.hok e;have hz:xs.length<=J7:=by rw[<-an4 rel];exact z
  have hl:(kG kvs k v).length<=J7:=by have:=lJ kvs k v;lia
  refine wpAny_setItem_heap (hsz:=hz) (ai8 hu) (mH I.hok eb) dd λh' dd' hs=>h _ ?_;obtain⟨q,es,ep,hq,h2,h3,h4,_,h5⟩:=dd';refine rT I (by rw[e];exact aq9) hs ⟨q,hq⟩ ⟨hl,hd,_,(rel.put k eb rv).keeps λc ys ec=>?_,q,es,ep,hq,h2,h3,h4,h5⟩;rw[bj (FK ec e (λz=>nomatch z))];exact ec
end
def ze(i:N8):Prop:=∀ov iv,ap5 i false ov iv=operate [ov,iv] (al4 ov iv)
theorem vb{prog:N4}{w:S2}{A:P5}{E:J0->J4->Prop}{s:J4}{env:Env}{value slice:N8}{pos:Pos}{T id:String}{Q:J0->J4->Prop}
  (hl:typeLookup (.type T) "__getitem__"=ag9 (some (.builtin id))) (hs:ze slice)
  (h:L3 (N9 prog w) A (ad7 value env) (λo s₁=>L3 (N9 prog w) A (ad7 slice env) (λi s₂=>s₂.TypeIs o T/\L3 (N9 prog w) A (al4 o i) Q E s₂) E s₁) E s) :
  L3 (N9 prog w) A (ad7 (.Subscript value slice pos) env) Q E s:=by
 refine aq7 (T5 h (λo s₁ h₁=>T5 h₁ (λi s₂ h₂=>?_) λ_ _ x=>x) λ_ _ x=>x);obtain⟨hT,h₂⟩:=h₂;unfold subscriptTail;refine o0 ?_;rw[getitemInPython_of_ne hT.not_modules];refine o0 (ai9 hT hl ?_);have fin:L3 (N9 prog w) A (ap5 slice false o i) (λr s₃=>L3 (N9 prog w) A (letTemporaryGo value o r >>= λ_=>ag9 r) Q E s₃) E s₂:=by
  rw[hs o i];exact wpAny_operating (T5 h₂ (λr s₃ h₃=>o0 (wpAny_letTemporaryGo (J3 h₃))) λ_ _ x=>x)
 first
  |exact J3 (o0 fin)
  |exact o0 (J3 (o0 fin))
  |exact o0 fin
theorem sj{X:Cx}{af:List (K4×Obj)}{σ:St}{H:Hp}{s:J4}{a:K4}{y:V}{o:Option V}(I:Inv X af σ H s)(g:mE H a y o):s.TypeIs (.ref a) "dict":=by
 rcases g with⟨kvs,k,e,_,_⟩|⟨kvs,k,b,e,_,_,_⟩
 ·obtain⟨_,_,vs,_,dd⟩:=sd I.hok e;exact dd.typeIs
 ·obtain⟨_,_,xs,_,dd⟩:=rH I.hok e;exact dd.typeIs
def E6(td ty:TE):TE:=λσ H Q=>td σ H λx H1=>ty σ H1 λy H2=>∃a v,x=.ref a/\mE H2 a y (some v)/\Q v H2
def Ge(ty td:TE):TE:=λσ H Q=>ty σ H λy H1=>td σ H1 λx H2=>∃a o,x=.ref a/\mE H2 a y o/\Q (.bl o.isSome) H2
def vk(ty td:TE):TE:=λσ H Q=>ty σ H λy H1=>td σ H1 λx H2=>∃a o,x=.ref a/\mE H2 a y o/\Q (.bl (!o.isSome)) H2
def EK(td ty tv:TE):TS:=λD σ H=>tv σ H λv H1=>td σ H1 λx H2=>ty σ H2 λy H3=>∃a H4,x=.ref a/\zR H3 a y v H4/\D.nx σ H4
section
variable{X:Cx}{o i e value:N8}{pos pos' tpos:Pos}{td ty tv:TE}
theorem Bj(hu:X.A.units+1<ac8)(ho:PE X o td)(hi:PE X i ty)(hs:ze i):PE X (.Subscript o i pos) (E6 td ty):=by
 intro af s σ H Q I h;refine vb PySem.F.slot_dict_getitem.lookup hs (thn (ho af s σ H _ I h) λu s1 hup=>hup.el λx H1 I1 rx q1=>thn (hi af s1 σ H1 _ I1 q1) λiv s2 ⟨y,H2,I2,ry,a,v,ex,g,q2⟩=>?_);subst ex;obtain rfl:u=W1 a:=rx;exact⟨sj I2 g,uC hu I2 g ry λw' s3 I3 rw'=>⟨v,H2,I3,rw',q2⟩⟩
theorem C9(hu:X.A.units+1<ac8)(hi:PE X i ty)(ho:PE X o td):PC X .In i o (Ge ty td):=by
 intro af s σ H Q I h;refine thn (hi af s σ H _ I h) λiv s1 hup=>hup.el λy H1 I1 ry q1=>thn (ho af s1 σ H1 _ I1 q1) λu s2 ⟨x,H2,I2,rx,a,ov,ex,g,q2⟩=>?_;subst ex;obtain rfl:u=W1 a:=rx;exact FH hu I2 g ry λs3 I3=>⟨.bl ov.isSome,H2,I3,rfl,q2⟩
theorem v8(hu:X.A.units+1<ac8)(hi:PE X i ty)(ho:PE X o td):PC X .NotIn i o (vk ty td):=by
 intro af s σ H Q I h;refine thn (hi af s σ H _ I h) λiv s1 hup=>hup.el λy H1 I1 ry q1=>thn (ho af s1 σ H1 _ I1 q1) λu s2 ⟨x,H2,I2,rx,a,ov,ex,g,q2⟩=>?_;subst ex;obtain rfl:u=W1 a:=rx;exact yO hu I2 g ry λs3 I3=>⟨.bl (!ov.isSome),H2,I3,rfl,q2⟩
theorem AD(hu:X.A.units+1<ac8)(ho:PE X o td)(hi:PE X i ty)(hv:PE X value tv)(hs:ak2 value (some (.Subscript o i pos')) pos.line X.env=ag9 false):
  PS X (.Assign [.Subscript o i pos'] value pos) (EK td ty tv):=by
 intro af s σ H D I h;refine wpAny_Assign_Subscript (thn (hv af s σ H _ I h) λr s1 hup=>hup.el λv H1 I1 rv q1=>thn (ho af s1 σ H1 _ I1 q1) λu s2 hup=>hup.el λx H2 I2 rx q2=>thn (hi af s2 σ H2 _ I2 q2) λiv s3 ⟨y,H3,I3,ry,a,H4,ex,g,q3⟩=>?_) hs;subst ex;obtain rfl:u=W1 a:=rx;exact uE hu I3 g ry rv λs4 I4=>⟨σ,H4,I4,q3⟩
end
theorem yj{P:N4}{w:S2}{H:Hp}(h:N0)(hb:ac9<h.objs.size):bV P w H (h.push { cls:=.type "dict",data:=.dict #[] }) h.objs.size (.dT []) :=
 ⟨Q5 _,beq_eq_false_iff_ne.mpr (ab0 (L7 hb)),[],.nil,_,#[],0,K6 _ rfl,⟨rfl,rfl,rfl⟩,rfl,rfl,List.nodup_nil⟩
def Ew:TE:=λ_ H Q=>∀p,H p=none->Q (.ref p) (upd H p (.dT []))
section
variable{X:Cx}{pos:Pos}
theorem y9:PE X (.Dict [] [] pos) Ew:=λaf s σ H Q I h =>
 wpAny_Dict_empty ⟨.ref s.heap.objs.size,_,I.laid (a:=s.heap.objs.size) (o:=.dT []) (t':=s.toks) (λ_ _ q=>I0 _ q) (J6 _) (yj s.heap I.big),rfl,h _ (I.hok.fresh (J6 _))⟩
end
structure M1(X:Cx) (o:N8) (m:Str) (eU:Pos) (e:N8) (bT:Pos):Prop where
 base:ae3 o m X.env (ad7 o X.env)=ad7 o X.env
 few:((ab1 bT (K8 [e] X.env)).all (λx=>!x.1)&&(aq3 bT (al5 [] X.env)).all (λx=>x.1.isSome)
 &&decide (([e]:List N8).length+([]:List al6).length+(if([]:List al6).isEmpty then 0 else 1)<30))=true
 line:(eU.endLine==bT.line)=true
 trees:ab1 bT (K8 [e] X.env)=[(false,ad7 e X.env)]
structure M2(X:Cx) (o:N8) (m:Str) (eU:Pos) (e f:N8) (bT:Pos):Prop where
 base:ae3 o m X.env (ad7 o X.env)=ad7 o X.env
 few:((ab1 bT (K8 [e,f] X.env)).all (λx=>!x.1)&&(aq3 bT (al5 [] X.env)).all (λx=>x.1.isSome)
 &&decide (([e,f]:List N8).length+([]:List al6).length+(if([]:List al6).isEmpty then 0 else 1)<30))=true
 line:(eU.endLine==bT.line)=true
 trees:ab1 bT (K8 [e,f] X.env)=[(false,ad7 e X.env),(false,ad7 f X.env)]
noncomputable def aN(X:Cx)(scope:af8)(cl:List (Str×K4))(N:List Str)(C:K4)(s:J4)(H:Hp)(ex:List K4):Cx where
 prog:=X.prog
 w:=X.w
 K:=X.K
 mg:=X.mg
 base:=X.base
 A:=X.A
 N:=N
 s₀:=s
 H₀:=H
 env:=ar2 scope cl C X.env
 outer:=X.stack
 stack:=X.stack
 ex:=ex
 calm:=X.calm
 fn:=λ_=>false
 pn:=[]
 xe:=λ_ _=>False
noncomputable def bU:List Bool->St->St
 |true::ms,v::σ=>v::bU ms σ
 |false::ms,_::σ=>none::bU ms σ
 |[],_::σ=>none::bU [] σ
 |_,[]=>[]
theorem bX:∀(ms:List Bool) (σ:St),(bU ms σ).length=σ.length
 |true::ms,v::σ=>by simp[bU,bX ms σ]
 |false::ms,_::σ=>by simp[bU,bX ms σ]
 |[],_::σ=>by simp[bU,bX [] σ]
 |[],[]=>by simp[bU]
 |true::_,[]=>by simp[bU]
 |false::_,[]=>by simp[bU]
theorem iS:∀{ms:List Bool}{σ:St}{i:Nat}{v:V},(bU ms σ)[i]?=some (some v)->ms[i]?=some true/\σ[i]?=some (some v)
 |true::ms,v::σ,0,x,h=>by simpa[bU]using h
 |true::ms,v::σ,i+1,x,h=>by
  have:=iS (ms:=ms) (σ:=σ) (i:=i) (v:=x) (by simpa[bU]using h);simpa using this
 |false::ms,_::σ,0,x,h=>by simp[bU]at h
 |false::ms,_::σ,i+1,x,h=>by
  have:=iS (ms:=ms) (σ:=σ) (i:=i) (v:=x) (by simpa[bU]using h);simpa using this
 |[],_::σ,0,x,h=>by simp[bU]at h
 |[],_::σ,i+1,x,h=>by
  have:=iS (ms:=[]) (σ:=σ) (i:=i) (v:=x) (by simpa[bU]using h);simpa using this
 |[],[],_,_,h=>by simp[bU]at h
 |true::_,[],_,_,h=>by simp[bU]at h
 |false::_,[],_,_,h=>by simp[bU]at h
def jf(ms:List Bool)(k:Nat)(σ:St):St:=bU ms σ++M7 k none
theorem xr{ms:List Bool}{k:Nat}{σ:St}{i:Nat}{v:V}(h:(jf ms k σ)[i]?=some (some v)):i<σ.length/\ms[i]?=some true/\σ[i]?=some (some v):=by
 unfold jf at h
 by_cases hi:i<(bU ms σ).length
 ·rw[P3 hi]at h;exact⟨by rwa [bX]at hi,iS h⟩
 ·rw[X5 (by lia),ae2]at h
  split at h<;>cases h
structure fk(X:Cx) (scope:af8) (cl:List (Str×K4)) (ms:List Bool) (ar:List Str):Prop where
 kind:scope.kind=.function
 ncell:∀y∈scope.names,y.2≠.cell
 names:∀y∈scope.names,y.2=.local->scope.names.lookup y.1=some .local
 clos:closureFor scope X.env=ag9 cl
 sub:∀x c,cl.lookup x=some c->X.env.cells.lookup x=some c
 has:∀x,scope.names.lookup x=some .free->∃c,cl.lookup x=some c
 fr:∀x,scope.names.lookup x=some .free->X.env.scope.names.lookup x=some .cell∨X.env.scope.names.lookup x=some .free
 mask:∀(i:Nat) (x:Str),ms[i]?=some true->X.N[i]?=some x->scope.names.lookup x=some .free
 mlen:ms.length<=X.N.length
theorem jT{env:Env}:∀{names:List (Str×U6)}{x:Str}{k:U6},
  (names.map λ(n,k)=>if(k==Z5&&env.scope.kind==.function&&env.kindOf n==some .cell)then(n,aj0)else(n,k)).lookup x=some k->(∀y∈names,y.2≠.cell)->k=.cell∨k=.free->names.lookup x=some .free
 |[],_,_,h,_,_=>by simp at h
 |(n,k0)::r,x,k,h,hc,hk=>by
  have ih:=@jT env r x k;have h:ap7 x ((if(k0==Z5&&env.scope.kind==.function&&env.kindOf n==some .cell)=true then(n,aj0)else(n,k0))::_)=some k:=h;cases hx:x==n with
  |true =>
   by_cases hq:(k0==Z5&&env.scope.kind==.function&&env.kindOf n==some .cell)=true
   ·have:k0=.free:=by
     simp at hq;exact hq.1.1
    subst this;simp[P6,hx]
   ·rw[if_neg hq]at h;simp only[P6,hx]at h;cases h;rcases hk with rfl|rfl
    ·exact absurd rfl (hc (n,.cell) R4)
    ·simp[P6,hx]
  |false =>
   by_cases hq:(k0==Z5&&env.scope.kind==.function&&env.kindOf n==some .cell)=true
   ·rw[if_pos hq]at h;simp only[P6,hx]at h ⊢;exact ih h (λy hy=>hc y (O6 _ hy)) hk
   ·rw[if_neg hq]at h;simp only[P6,hx]at h ⊢;exact ih h (λy hy=>hc y (O6 _ hy)) hk
theorem kH{env:Env}:∀{names:List (Str×U6)}{x:Str},names.lookup x=some .free ->
  (names.map λ(n,k)=>if(k==Z5&&env.scope.kind==.function&&env.kindOf n==some .cell)then(n,aj0)else(n,k)).lookup x=some .cell ∨
  (names.map λ(n,k)=>if(k==Z5&&env.scope.kind==.function&&env.kindOf n==some .cell)then(n,aj0)else(n,k)).lookup x=some .free
 |[],_,h=>by simp at h
 |(n,k0)::r,x,h=>by
  have ih:=@kH env r x;show ap7 x ((if(k0==Z5&&env.scope.kind==.function&&env.kindOf n==some .cell)=true then(n,aj0)else(n,k0))::_)=_∨ap7 x ((if(k0==Z5&&env.scope.kind==.function&&env.kindOf n==some .cell)=true then(n,aj0)else(n,k0))::_)=_;cases hx:x==n with
  |true =>
   simp only[P6,hx]at h;cases h
   split
   ·left;simp[P6,hx]
   ·right;simp[P6,hx]
  |false =>
   simp only[P6,hx]at h
   split<;>(simp only[P6,hx];exact ih h)
section
variable{X:Cx}{af:List (K4×Obj)}{σ:St}{H H2:Hp}{s s2:J4}{scope:af8}{cl:List (Str×K4)}{ms:List Bool}{ar:List Str}
theorem zx(I:Inv X af σ H s)(S:fk X scope cl ms ar){fp:List K4}(hfp:∀b∈fp,gI X af H b)(hlt:∀b∈fp,b<s.heap.objs.size){C:K4}(hC:s.heap.objs.size<=C):
  (aN X scope cl (X.N++ar) C s H fp).Ok where
 mod:=I.ok.mod
 kind:=S.kind
 glob:=I.ok.glob
 blt:=I.ok.blt
 above:=hC
 inj:=λx y c h1 h2=>I.ok.inj x y c (S.sub x c h1) (S.sub y c h2)
 has:=λx hx=>S.has x (jT (env:=X.env) (k:=if(aN X scope cl (X.N++ar) C s H fp).env.kindOf x=some .cell then .cell else .free) (by
  rcases hx with hx|hx
  ·rw[if_pos hx];exact hx
  ·rw[if_neg (by rw[hx];decide)];exact hx) S.ncell (by split<;>simp))
 cab:=λx c h=>by cases h
 hd:=I.ok.hd
 frames:=I.ok.frames
 stk:=.inl rfl
 exf:=λb hb=>⟨L7 (K5 (hlt b hb) hC),λx c e=>(hfp b hb).2.2.2.2.1 x c (S.sub x c e)⟩
 bs:=I.bs
 bsz:=R6 I.ok.bsz I.sz
 noex:=λb o e hb=>by
  rcases(hfp b hb).2.2.2.1 with z|z
  ·exact I.ok.noex b o e z
  ·exact absurd (K5 (K7 e) (R6 I.ok.bsz z)) (ae0 _)
 exfs:=λb hb z=>by
  rcases L5.mp (I.stkSub b z)with e|e
  ·exact(hfp b hb).2.1 e
  ·exact(hfp b hb).2.2.1 e
 funs:=I.stack
 frf:=I.stkFree
theorem BH(I:Inv X af σ H s)(S:fk X scope cl ms ar){fp:List K4}(hfp:∀b∈fp,gI X af H b)(hlt:∀b∈fp,b<s.heap.objs.size){C:K4}(hC:s.heap.objs.size<=C)
  (os:s2.os=s.os) (bare:an5 s2.gens) (keep:∀b o,s.heap.get? b=some o->s2.heap.get? b=some o) {m:Str->Option J0} (hn:s2.heap.Ns C m) :
  Inv (aN X scope cl (X.N++ar) C s H fp) [] (jf ms ar.length σ) H s2 where
 ok:=zx I S hfp hlt hC
 os:=os
 bare:=bare
 base:=Un.kept keep
 loc:=⟨m,hn,λi x v h1 h2 h3=>by
  obtain⟨hi,hm,hv⟩:=xr h2;have hiN:i<X.N.length:=by rw[<-I.len];exact hi
  have hx:X.N[i]?=some x:=by
   have h1':(X.N++ar)[i]?=some x:=h1
   rwa [P3 hiN]at h1'
  have hf:=S.mask i x hm hx;obtain⟨m0,hn0,hl⟩:=I.loc;obtain⟨u,r,l⟩:=hl i x v hx hv (by rcases S.fr x hf with z|z<;>simp[Vis,z]);refine⟨u,r,.inr ⟨?_,?_⟩⟩
  ·exact kH (env:=X.env) hf
  ·obtain⟨c,hc⟩:=S.has x hf;have hc':=S.sub x c hc;rcases l with⟨k,_⟩|⟨_,c',e,z⟩
   ·rcases S.fr x hf with z|z<;>(have k':X.env.scope.names.lookup x=some .local:=k;rw[z]at k';cases k')
   ·rw[hc']at e;cases e;obtain⟨o,ho,hd⟩:=z;exact⟨c,hc,o,keep _ _ ho,hd⟩⟩
 cell:=λx c e=>by
  obtain⟨v,o,ho,hd⟩:=I.cell x c (S.sub x c e);exact⟨v,o,keep _ _ ho,hd⟩
 free:=I.hok.fresh hC
 freeC:=λx c e=>I.freeC x c (S.sub x c e)
 pin:=λp hp=>absurd (show p∈([]:List (K4×Obj))from hp) (by simp)
 hok:=I.hok.kept keep
 len:=by
  unfold jf;rw[J9,bX,List.length_replicate,I.len];show _=(X.N++ar).length;rw[J9]
end
def PIf(X:Cx)(ifs:List N8)(t:TT):Prop :=
 ∀(af:List (K4×Obj)) (s:J4) (σ:St) (H:Hp) (Q:Bool->Hp->Prop),Inv X af σ H s->t σ H Q ->
  L3 (N9 X.prog X.w) X.A (forIn ifs true λc r=>if r=true then do let ok <-isTrue c X.env (ad7 c X.env);ag9 (W8 ok)else ag9 (W8 r)) (TP X af σ Q) X.xe s
def GZ:TT:=λ_ H Q=>Q true H
theorem BQ{X:Cx}:PIf X [] GZ:=λ_ _ _ H _ I h=>wpAny_tests_nil ⟨H,I,h⟩
theorem Ah{X:Cx}{c:N8}{t:TT}(h:PT X c t):PIf X [c] t:=λaf s σ H Q I q=>wpAny_tests_one (h af s σ H Q I q)
abbrev fN(its:List J0)(n:Nat):Obj:={ cls:=.type "list",data:=.seq its.toArray n }
theorem thF{α:Type}{t:Sem α}{Q Q':α->J4->Prop}{M:Model}{A:P5}{E:J0->J4->Prop}{s:J4}(hE:E=λ_ _=>False)(h:L3 M A t Q E s)(hQ:∀a s,Q a s->Q' a s):L3 M A t Q' (λ_ _=>False) s:=T5 h hQ λe s x=>by rw[hE]at x;exact x
abbrev lcE(el:N8)(gs:List ak8)(sc:af8)(ps:Pos):N8:=.ListComp el gs sc ps
section
variable{prog:N4}{w:S2}{A:P5}{R:ar9->J4->Prop}{s:J4}{el tg elt i:N8}{fs:List N8}{k:Nat}{p:Pos}{it acc:J0}{env:Env}{gs:List ak8}{sc:af8}{ps:Pos}
abbrev AWt:=(J4->Prop)->J4->Prop
def vh(prog:N4)(w:S2)(A:P5)(elt:N8)(acc:J0)(env:Env):AWt:=λOk s=>L3 (N9 prog w) A (ad7 elt env) (λx s₄=>L3 (N9 prog w) A (call (.builtin "list.append") [acc,x]) (λ_ s₅=>Ok s₅) (λ_ _=>False) s₄) (λ_ _=>False) s
def zG(prog:N4)(w:S2)(A:P5)(ce:N8)(k:Nat)(i:N8)(acc:J0)(env:Env):AWt:=λOk s=>L3 (N9 prog w) A (ad7 i env) (λx s₄=>L3 (N9 prog w) A (ap2 x) (λit2 s₅ =>
 ah7 (N9 prog w) A (.compStart ce k it2 acc env) (λr s₆=>(∃f,r=.ok f)/\Ok s₆) s₅) (λ_ _=>False) s₄) (λ_ _=>False) s
def Bt(ce:N8)(k:Nat)(p:Pos)(tg:N8)(fs:List N8)(bd:J0->J0->Env->Sem Fin):Prop:=∀it acc env,compTurn ce k it acc env=(do
  ar5 p
  let r <-an1 it
  match r with
   |none=>ag9 (Fin.done Flow.next)
   |some v=>do
    ai6 tg it v
    ao4 tg env v
    let ok <-forIn fs true λc r=>if r=true then do let ok <-PySem.isTrue c env (ad7 c env);ag9 (W8 ok)else ag9 (W8 r)
    if ok=true then bd it acc env else again (ag0 ce k it acc env))
def Ba(prog:N4)(w:S2)(A:P5)(ce:N8)(k:Nat)(bd:J0->J0->Env->Sem Fin)(it acc:J0)(env:Env)(AW:AWt):Prop :=
 ∀Ok s (R:ar9->J4->Prop) (E:J0->J4->Prop),AW Ok s->L3 (N9 prog w) A (bd it acc env) (λfin s'=>match fin with|.done f=>R (.ok f) s'|.again c'=>c'=ag0 ce k it acc env/\Ok s') E s
theorem oI{bd:J0->J0->Env->Sem Fin}{AW:AWt}(hT:Bt (lcE el gs sc ps) k p tg fs bd)(hq:(ag0 (lcE el gs sc ps) k it acc env).quiet=true:=by rfl)(hb:Ba prog w A (lcE el gs sc ps) k bd it acc env AW)(I:Nat->J4->Prop)
  (turn:∀ n s,I n s → L3 (N9 prog w) A (an1 it) (λr s₁ => match r with
   |none=>R (.ok .next) s₁
   | some v => L3 (N9 prog w) A (ai6 tg it v) (λ_ s₁ => L3 (N9 prog w) A (ao4 tg env v) (λ_ s₂ =>
     L3 (N9 prog w) A (forIn fs true λc r=>if r=true then do let ok <-isTrue c env (ad7 c env);ag9 (W8 ok)else ag9 (W8 r)) (λok s₃ =>
      if ok=true then AW (λs₅=>∃m,m<n/\I m s₅) s₃
      else ∃m,m<n/\I m s₃) (λ_ _=>False) s₂) (λ_ _=>False) s₁) (λ_ _=>False) s₁) (λ_ _=>False) s)
  (n:Nat) (h:I n s) :
  ah7 (N9 prog w) A (.compLoop (lcE el gs sc ps) k it acc env) R s:=by
 refine codeAny_loop hq I (λn s hI=>?_) n h;show L3 _ A ((compTurn (lcE el gs sc ps) k it acc env).onRaise (λx=>do noteFrame x env;theTreesLotGoes x)) _ _ s;refine wpAny_noted ?_;rw[hT];refine o0 (an9 (o0 (T5 (turn n s hI) (λr s₁ h₁=>?_) λ_ _ h'=>h'.elim)));cases r with
 |none=>exact J3 h₁
 |some v =>
  refine o0 (T5 h₁ (λ_ s1 h₁=>?_) λ_ _ h'=>h'.elim);refine o0 (T5 h₁ (λ_ s₂ h₂=>o0 (T5 h₂ (λok s₃ h₃=>?_) λ_ _ h'=>h'.elim)) λ_ _ h'=>h'.elim);cases ok with
  |false=>exact J3 ⟨rfl,h₃⟩
  |true=>exact hb _ _ _ _ h₃
noncomputable def Cp(ce:N8)(k:Nat)(elt:N8):J0->J0->Env->Sem Fin:=λit acc env=>bind (bind (ad7 elt env) λx=>bind (call (J0.builtin "list.append") [acc,x]) λ_=>ag9 ()) λ(_:Unit)=>again (ag0 ce k it acc env)
noncomputable def B9(ce:N8)(k:Nat)(i:N8):J0->J0->Env->Sem Fin:=λit acc env=>do
 let x <-ad7 i env
 ar5 i.pos
 let x <-R3 i env x
 let it2 <-aq5 [x] (ap2 x)
 let _ <-runOwn (Code.compStart ce (k+1) it2 acc env) env
 again (ag0 ce k it acc env)
theorem z3:Ba prog w A (lcE el gs sc ps) k (Cp (lcE el gs sc ps) k elt) it acc env (vh prog w A elt acc env):=λOk s R E h =>
 o0 (o0 (T5 h (λx s₄ h₄=>o0 (T5 h₄ (λ_ s₅ h₅=>J3 (J3 ⟨rfl,h₅⟩)) λ_ _ h'=>h'.elim)) λ_ _ h'=>h'.elim))
theorem Bk(hs:∀x,R3 i env x=ag9 x):Ba prog w A (lcE el gs sc ps) k (B9 (lcE el gs sc ps) k i) it acc env (zG prog w A (lcE el gs sc ps) (k+1) i acc env):=λOk s R E h=>by
 refine o0 (T5 h (λx s₄ h₄=>o0 (an9 ?_)) λ_ _ h'=>h'.elim);rw[hs x];refine o0 (J3 (o0 (U4 (T5 h₄ (λit2 s₅ h₅=>?_) λ_ _ h'=>h'.elim))));refine o0 (wpAny_runOwn (ad8 h₅ λr s₆ h₆=>?_));obtain⟨⟨f,rfl⟩,h₆⟩:=h₆;exact J3 ⟨rfl,h₆⟩
def ya(ce:N8)(k:Nat)(p:Pos):Prop:=∀it acc env,compStart ce k it acc env=(do
  let r <-ask
  if r.params.followText "comprehension-iter-twice"=true then again (ag0 ce k it acc env)
   else do
    rule "comprehension.iter-twice"
    ar5 p
    let i <-ap2 it
    again (ag0 ce k i acc env))
theorem nS(hS:ya (lcE el gs sc ps) k p)(h:ah7 (N9 prog w) A (.compLoop (lcE el gs sc ps) k it acc env) R s)
  (h2:L3 (N9 prog w) A (ap2 it) (λit' s'=>ah7 (N9 prog w) A (.compLoop (lcE el gs sc ps) k it' acc env) R s') (λ_ _=>False) s) :
  ah7 (N9 prog w) A (.compStart (lcE el gs sc ps) k it acc env) R s:=by
 refine al8 ?_;show L3 _ A ((compStart (lcE el gs sc ps) k it acc env).onRaise (λx=>do noteFrame x env;ar5 theWindowsPlace)) _ _ s;refine ak9 ?_;rw[hS];refine o0 (wpAny_askSetting ?_);dsimp only
 split
 ·exact J3 ⟨rfl,h⟩
 ·exact o0 (ae9 (o0 (an9 (o0 (T5 h2 (λit' s' h'=>J3 ⟨rfl,h'⟩) λ_ _ h'=>h'.elim)))))
end
abbrev BK:=List V->St->Hp->(List V->St->Hp->Prop)->Prop
def kU(J:It)(g:TG)(tc:TT)(B:BK)(W:Nat->Nat->List V->St->Hp->Prop)(Z:List V->St->Hp->Prop):Prop :=
 ∀i m ys σ H,W i m ys σ H->ys.length<=J7/\((J.stop i H/\Z ys σ H) ∨
  (J.go i H/\∀x H',J.yld i H x H'->g x σ H' λσ2 H2=>tc σ2 H2 λb H3=>if b=true then B ys σ2 H3 (λys' σ' H'=>∃m',m'<m/\W (i+1) m' ys' σ' H')else ∃m',m'<m/\W (i+1) m' ys σ2 H3))
def nW(te:TE):BK:=λys σ H Z=>te σ H λy H'=>Z (ys++[y]) σ H'
def yQ(wi:TI)(g:TG)(tc:TT)(B:BK):BK:=λys σ H Z=>wi σ H λJ H'=>∃W:Nat->Nat->List V->St->Hp->Prop,(∃m,W 0 m ys σ H')/\kU J g tc B W Z
section
variable{Y:Cx}{D:K4}{el tg elt i1:N8}{fs:List N8}{g:TG}{tc:TT}{te:TE}{wi:TI}{B:BK}{k:Nat}{p:Pos}{gs:List ak8}{sc:af8}{ps:Pos}
def CB(Y:Cx)(D:K4)(AW:AWt)(B:BK):Prop:=∀(P:List (K4×Obj)) (its:List J0) (nn:Nat) (ys:List V) (σ:St) (H:Hp) (s:J4) (Z:List V->St->Hp->Prop),Inv Y ([(D,fN its nn)]++P) σ H s->ay ys its->ys.length<=J7->(∀p∈P,p.1≠D)->B ys σ H Z ->
 AW (λs'=>∃ys' its' n' σ' H',Inv Y ([(D,fN its' n')]++P) σ' H' s'/\ay ys' its'/\Z ys' σ' H') s
structure nX(Y:Cx) (D:K4):Prop where
 pn:Y.pn=[]
 calm:Y.calm=true
 xe:Y.xe=λ_ _=>False
 ex:D∈Y.ex∨Y.s₀.heap.objs.size<=D
 cell:∀x c,Y.env.cells.lookup x=some c->c≠D
theorem AWt.mono_leaf{prog:N4}{w:S2}{A:P5}{acc:J0}{env:Env}{Ok Ok':J4->Prop}{s:J4}(h:vh prog w A elt acc env Ok s)(k:∀s,Ok s->Ok' s):vh prog w A elt acc env Ok' s :=
 T5 h (λ_ _ h1=>T5 h1 (λ_ _ h2=>k _ h2) λ_ _ x=>x) λ_ _ x=>x
theorem xB(c:nX Y D)(he:PE Y elt te):CB Y D (vh Y.prog Y.w Y.A elt (.ref D) Y.env) (nW te):=by
 intro P its nn ys σ H s Z I rv hz hPD q;refine thF c.xe (he _ s σ H _ I q) λv s9 hup=>hup.el λy H9 I9 r9 q9=>?_;have pacc:=I9.pin (D,fN its nn) (O8 _ (U0 _ R4));have hzi:its.toArray.size<=J7:=by rw[J8,<-rv.length];exact hz
 refine PySem.wpAny_list_append_plain (hsz:=hzi) ⟨nn,pacc.1⟩ λh' hl' hs'=>?_;obtain⟨n',hl'⟩:=hl';have I10:Inv Y [] σ H9 { s9 with heap:=h' } :=
  Inv.turned (t':=s9.toks) (it:=D) (I9.pins_of λp hp=>absurd hp (by simp)) (λb o hb e=>(hs'.2 b hb).trans e) pacc.2.1 pacc.2.2.1 c.ex c.cell (λp hp=>absurd (show p∈([]:List (K4×Obj))from by rw[c.pn]at hp;exact hp) (by simp))
 refine⟨ys++[y],its++[v],n',σ,H9,I10.pins_of λp hp=>?_,rv.append (.cons r9 .nil),q9⟩;rcases K1.mp hp with z|z
 ·have e:p=(D,fN (its++[v]) n'):=K0.mp z;subst e;refine⟨?_,pacc.2.1,pacc.2.2.1,pacc.2.2.2.1,λv z=>by cases z⟩;rw[hl'];simp[fN]
 ·obtain⟨b1,b2,b3,b4,b5⟩:=I9.pin p (O8 _ (O8 _ z));exact⟨(hs'.2 _ (hPD p z)).trans b1,b2,b3,b4,b5⟩
structure Lv(Y:Cx) (D:K4) (ce:N8) (k:Nat) (p:Pos) (tg:N8) (fs:List N8) (B:BK):Prop where
 ex:∃bd AW,Bt ce k p tg fs bd/\(∀it,Ba Y.prog Y.w Y.A ce k bd it (.ref D) Y.env AW)/\CB Y D AW B/\∀{Ok Ok':J4->Prop} {s:J4},AW Ok s->(∀s,Ok s->Ok' s)->AW Ok' s
theorem vG(c:nX Y D)(he:PE Y elt te)(hT:Bt (lcE el gs sc ps) k p tg fs (Cp (lcE el gs sc ps) k elt)):Lv Y D (lcE el gs sc ps) k p tg fs (nW te):=⟨_,_,hT,λ_=>z3,xB c he,AWt.mono_leaf⟩
theorem pM(c:nX Y D)(L:Lv Y D (lcE el gs sc ps) k p tg fs B){it2:K4}
  (hg:PG Y tg g) (hif:PIf Y fs tc) {P:List (K4×Obj)} (hPD:∀p∈P,p.1≠D)
  {its0:List J0} {nn0:Nat} {ys0:List V} {σ:St} {H:Hp} {s:J4} (I:Inv Y ([(D,fN its0 nn0)]++P) σ H s) (rv0:ay ys0 its0) {fp2:List K4} {tn2:Nat->N0->Prop} {J2:It} (T:qS Y.prog Y.w Y.K tg J2 fp2 it2 tn2) (st:tn2 0 s.heap)
  (f:∀b∈fp2,gI Y ([(D,fN its0 nn0)]++P) H b) {W2:Nat->Nat->List V->St->Hp->Prop} {Z2:List V->St->Hp->Prop} {m0:Nat} (w0:W2 0 m0 ys0 σ H) (turn:kU J2 g tc B W2 Z2) {R:ar9->J4->Prop}
  (hR:∀(s':J4) (ys:List V) (its:List J0) (n:Nat) (σ':St) (H':Hp),Inv Y ([(D,fN its n)]++P) σ' H' s'->ay ys its->ys.length<=J7->Z2 ys σ' H'->R (.ok .next) s') :
  ah7 (N9 Y.prog Y.w) Y.A (.compLoop (lcE el gs sc ps) k (.ref it2) (.ref D) Y.env) R s:=by
 obtain⟨bd,AW,hT,hb,hB,hAW⟩:=L.ex;have fpc:∀{H:Hp} {n:Nat} {its:List J0},(∀b∈fp2,H b=none)->∀b∈fp2,gI Y ([(D,fN its n)]++P) H b:=λhn b hb=>by
  obtain⟨_,a1,a2,a3,a4,a5⟩:=f b hb;refine⟨hn b hb,a1,a2,a3,a4,λp hp=>?_⟩;rw[c.pn,N5]at hp;rcases K1.mp hp with z|z
  ·obtain rfl:=K0.mp z;exact a5 (D,fN its0 nn0) (by rw[c.pn];simp)
  ·exact a5 p (by rw[c.pn];simp[z])
 refine oI hT rfl (hb _) (λn s'=>∃i ys its nn σ' H',Inv Y ([(D,fN its nn)]++P) σ' H' s'/\ay ys its/\tn2 i s'.heap/\(∀b∈fp2,H' b=none)/\W2 i n ys σ' H') ?_ m0
  ⟨0,ys0,its0,nn0,σ,H,I,rv0,st,λb hb=>(f b hb).1,w0⟩
 rintro n s' ⟨i,ys,its,nn,σ',H',I4,rv,st4,fr4,w4⟩;obtain⟨hz,h⟩:=turn i n ys σ' H' w4;rcases h with⟨stop,hZ⟩|⟨go,step⟩
 ·refine thn (T.done Y rfl rfl rfl c.calm i _ s' _ H' (λ_ _=>False) I4 (fpc fr4) st4 stop) λr s4 ⟨hr,I5⟩=>?_;subst hr;exact hR s4 ys its nn σ' H' I5 rv hz hZ
 ·refine thn (T.item Y rfl rfl rfl c.calm i _ s' _ H' (λ_ _=>False) I4 (fpc fr4) st4 go) λr s5 ⟨u,hr,h5⟩=>?_;subst hr;refine thn h5 λ_ s6 ⟨x,H6,I6,r6,y6,st6,fr6⟩=>?_;have I6':=I6.pinned (fpc fr6) (T.obj _ _ st6);refine thF c.xe (hg _ s6 _ H6 x u _ I6' r6 (step x H6 y6)) λ_ s7 ⟨σ7,H7,I7,q7⟩=>?_;refine thF c.xe (hif _ s7 σ7 H7 _ I7 q7) λok s8 hup=>hup.el λH8 I8 q8=>?_;have keepfp:∀{its:List J0} {nn:Nat} {σ9:St} {H9:Hp} {s9:J4},Inv Y (([(D,fN its nn)]++P)++jI fp2 s6.heap) σ9 H9 s9->tn2 (i+1) s9.heap/\∀b∈fp2,H9 b=none:=λ{its nn σ9 H9 s9} I9 =>
   ⟨T.keep _ _ _ st6 λb hb o e=>(I9.pin (b,o) (O8 _ (O8 _ (gn hb e)))).1,λb hb=>by
    obtain⟨o,e,d⟩:=T.obj _ _ st6 b hb;exact(I9.pin (b,o) (O8 _ (O8 _ (gn hb e)))).2.1⟩
  cases ok with
  |false =>
   obtain⟨m',hm,w8⟩:=q8;obtain⟨a8,b8⟩:=keepfp I8;exact⟨m',hm,i+1,ys,its,nn,σ7,H8,I8.unpinned,rv,a8,b8,w8⟩
  |true =>
   have hPD2:∀p∈P++jI fp2 s6.heap,p.1≠D:=λp hp=>by
    rcases K1.mp hp with z|z
    ·exact hPD p z
    ·have hb:=(oV z).1;intro e;exact(f _ hb).2.2.2.2.2 (D,fN its0 nn0) (by rw[c.pn];simp) e.symm
   refine hAW (hB (P++jI fp2 s6.heap) its nn ys σ7 H8 s8 _ (by rw[<-aj4];exact I8) rv hz hPD2 q8) ?_;rintro s9 ⟨ys',its',n',σ',H',I',rv',m',hm,w'⟩;rw[<-aj4]at I';obtain⟨a9,b9⟩:=keepfp I';exact⟨m',hm,i+1,ys',its',n',σ',H',I'.unpinned,rv',a9,b9,w'⟩
theorem ut{prog:N4}{w:S2}{A:P5}{acc:J0}{env:Env}{Ok Ok':J4->Prop}{s:J4}(h:zG prog w A (lcE el gs sc ps) k i1 acc env Ok s)(h':∀s,Ok s->Ok' s):zG prog w A (lcE el gs sc ps) k i1 acc env Ok' s :=
 T5 h (λ_ _ h1=>T5 h1 (λ_ _ h2=>ad8 h2 λ_ _ h3=>⟨h3.1,h' _ h3.2⟩) λ_ _ x=>x) λ_ _ x=>x
theorem Bn{tg1:N8}{fs1:List N8}{p1:Pos}(c:nX Y D)(L:Lv Y D (lcE el gs sc ps) (k+1) p1 tg1 fs1 B)(hS:ya (lcE el gs sc ps) (k+1) p1)(hs:∀x,R3 i1 Y.env x=ag9 x)(hi:PI Y tg1 i1 wi)(hg:PG Y tg1 g)(hif:PIf Y fs1 tc)
  (hT:Bt (lcE el gs sc ps) k p tg fs (B9 (lcE el gs sc ps) k i1)):Lv Y D (lcE el gs sc ps) k p tg fs (yQ wi g tc B):=by
 refine⟨_,_,hT,λ_=>Bk hs,?_,ut⟩;intro P its nn ys σ H s Z I rv hz hPD q;refine thF c.xe (hi _ s σ H _ I q) λv s9 h9=>thF c.xe h9 λitv s10 h10=>?_;obtain⟨it2,fp2,tn2,J2,H10,e,I10,T2,st10,f10,W2,⟨m2,w2⟩,cin⟩:=h10;subst e;have loop:=pM c L hg hif hPD I10 rv T2 st10 f10 w2 cin (R:=λr s₆=>(∃f,r=.ok f)/\∃ys' its' n' σ' H',Inv Y ([(D,fN its' n')]++P) σ' H' s₆/\ay ys' its'/\Z ys' σ' H')
  (λs' ys its n σ' H' I' rv' _ hZ=>⟨⟨_,rfl⟩,ys,its,n,σ',H',I',rv',hZ⟩)
 exact nS hS loop (T2.self _ 0 _ _ _ st10 loop)
end
section
variable{X:Cx}{af:List (K4×Obj)}{σ σ':St}{H2 H':Hp}{s2 s':J4}{scope:af8}{cl:List (Str×K4)}{ms:List Bool}{ar:List Str}{elt t0 i0:N8}{f0:List N8}{gs:List ak8}{g0:TG}{tc0:TT}{B:BK}{p pos:Pos}
theorem pO(S:fk X scope cl ms ar)(cQ:X.calm=true)
  (hg0:∀C s H ex,PG (aN X scope cl (X.N++ar) C s H ex) t0 g0) (hif0:∀C s H ex,PIf (aN X scope cl (X.N++ar) C s H ex) f0 tc0)
  (hL:∀C s H ex D,nX (aN X scope cl (X.N++ar) C s H ex) D->Lv (aN X scope cl (X.N++ar) C s H ex) D (lcE elt (⟨t0,i0,f0,0⟩::gs) scope pos) 0 p t0 f0 B)
  (I2:Inv X af σ H2 s2) {it:K4} {fp:List K4} {tn:Nat->N0->Prop} {J:It} (T:qS X.prog X.w X.K t0 J fp it tn) (st2:tn 0 s2.heap) (fz:∀b∈fp,gI X af H2 b)
  {W:Nat->Nat->List V->St->Hp->Prop} {Z:List V->St->Hp->Prop} {m0:Nat} (w0:W 0 m0 [] (jf ms ar.length σ) H2) (turn:kU J g0 tc0 B W Z)
  {RR:J0->K4->ar9->J4->Prop} {E:J0->J4->Prop}
  (hRR:∀ (s':J4) (ys:List V) (its:List J0) (n:Nat) (σ':St) (H':Hp),Inv (aN X scope cl (X.N ++ ar) (s2.heap.objs.size + 1) s2 H2 fp) [(s2.heap.objs.size,fN its n)] σ' H' s' → ay ys its → ys.length ≤ J7 → Z ys σ' H' →
   RR (.ref s2.heap.objs.size) (s2.heap.objs.size+1) (.ok .next) s') :
  L3 (N9 X.prog X.w) X.A (newList []) (λacc s₃=>L3 (N9 X.prog X.w) X.A (newFunctionEnv scope X.env.globals cl [] X.env.qual none .none (some X.env)) (λcenv s₄ =>
   ah7 (N9 X.prog X.w) X.A (.compStart (lcE elt (⟨t0,i0,f0,0⟩::gs) scope pos) 0 (.ref it) acc { cenv with scope:=relabel scope X.env }) (RR acc cenv.locals) s₄) E s₃) E s2:=by
 refine S7 (wpAny_newFunctionEnv S.ncell (by intro y hy;simp at hy) (λh₁ hns₁ hsb₁=>?_) S.kind);dsimp only at hns₁ hsb₁ ⊢;have hsz:(s2.heap.push { cls:=.type "list",dict:=none,data:=.seq ([]:List J0).toArray }).objs.size=s2.heap.objs.size+1:=by rw[V1]
 rw[hsz]at hns₁ hsb₁ ⊢;have hlt:∀b∈fp,b<s2.heap.objs.size:=λb hb=>by
  obtain⟨o,e,_⟩:=T.obj _ _ st2 b hb;exact K7 e
 have old:∀b o,s2.heap.get? b=some o->h₁.get? b=some o:=λb o e=>hsb₁.extBut b o (L7 (V8 (K7 e))) (I0 _ (I0 _ e));have hacc:h₁.get? s2.heap.objs.size=some (fN [] 0):=hsb₁.extBut _ _ (L7 (ae8 _)) (I0 _ (K6 _ rfl));have hDn:H2 s2.heap.objs.size=none:=I2.hok.fresh (J6 _);have hDfs:∀b,s2.heap.objs.size<=b->b∉(aN X scope cl (X.N++ar) (s2.heap.objs.size+1) s2 H2 fp).fs:=λb hb z=>by
  rcases L5.mp (I2.stkSub b z)with e|e
  ·subst e;exact absurd (K5 I2.lt hb) (ae0 _)
  ·exact I2.nofs hb e
 have loop:∀s₃:J4,s₃={ s2 with heap:=h₁,toks:=s2.toks+([]:List (Str×J0)).length } ->
   ah7 (N9 X.prog X.w) X.A (.compLoop (lcE elt (⟨t0,i0,f0,0⟩::gs) scope pos) 0 (.ref it) (.ref s2.heap.objs.size) (ar2 scope cl (s2.heap.objs.size+1) X.env)) (RR (.ref s2.heap.objs.size) (s2.heap.objs.size+1)) s₃:=by
  rintro s₃ rfl;have I3:Inv (aN X scope cl (X.N++ar) (s2.heap.objs.size+1) s2 H2 fp) [] (jf ms ar.length σ) H2 { s2 with heap:=h₁,toks:=s2.toks+([]:List (Str×J0)).length } :=
   BH I2 S fz hlt (ah8 _) rfl I2.bare old hns₁
  have c:nX (aN X scope cl (X.N++ar) (s2.heap.objs.size+1) s2 H2 fp) s2.heap.objs.size:=⟨rfl,cQ,rfl,.inr (J6 _),λx c e=>by
   obtain⟨v,o,ho,_⟩:=I2.cell x c (S.sub x c e);exact L7 (K7 ho)⟩
  refine pM c (hL _ _ _ _ _ c) (hg0 _ _ _ _) (hif0 _ _ _ _) (P:=[]) (λp hp=>nomatch hp) (its0:=[]) (nn0:=0) (I3.pins_of λp hp=>?_) .nil T (T.keep _ _ _ st2 λb _ o e=>old b o e) (λb hb=>?_) w0 turn ?_
  ·have e:p=(s2.heap.objs.size,fN [] 0):=K0.mp hp;subst e;exact⟨hacc,hDn,L7 (ae8 _),hDfs _ (J6 _),λv z=>by cases z⟩
  ·exact⟨(fz b hb).1,L7 (V8 (hlt b hb)),(zx I2 S fz hlt (ah8 _)).exfs b hb,.inl hb,λx c e=>(fz b hb).2.2.2.2.1 x c (S.sub x c e),λp hp=>by
    have:p=(s2.heap.objs.size,_):=K0.mp (show p∈[(s2.heap.objs.size,_)]from hp);subst this;exact ab9 (hlt b hb)⟩
  ·exact λs' ys its n σ' H' I' rv hz hZ=>hRR s' ys its n σ' H' I' rv hz hZ
 exact codeAny_compStart_list (loop _ rfl) (T.self _ 0 _ _ _ (T.keep _ _ _ st2 λb _ o e=>old b o e) (loop _ rfl))
end
section
variable{X:Cx}{af:List (K4×Obj)}{σ σ':St}{H2 H':Hp}{s2 s':J4}{scope:af8}{cl:List (Str×K4)}{ms:List Bool}{ar:List Str}{tg iter elt:N8}{ifs:List N8}{g:TG}{tc:TT}{te:TE}{pos p:Pos}{B:BK}{gs:List ak8}
theorem oU(I2:Inv X af σ H2 s2){fp:List K4}(f2:∀b∈fp,gI X af H2 b){its:List J0}{n:Nat}{ys:List V}
  (I':Inv (aN X scope cl (X.N++ar) (s2.heap.objs.size+1) s2 H2 fp) [(s2.heap.objs.size,fN its n)] σ' H' s') (rv:ay ys its) (hz:ys.length<=J7) {h':N0} (hs:Q9 (s2.heap.objs.size+1) s'.heap h') :
  Inv X af σ (upd H' s2.heap.objs.size (.lst ys)) { s' with heap:=h' }/\H' s2.heap.objs.size=none:=by
 have pacc:=I'.pin (s2.heap.objs.size,fN its n) (O8 _ R4);have hC:H' (s2.heap.objs.size+1)=none:=I'.free;have hD:H' s2.heap.objs.size=none:=pacc.2.1;have up:∀b o,b≠s2.heap.objs.size+1->s'.heap.get? b=some o->h'.get? b=some o:=λb o hb e=>(hs.2 b hb).trans e;have nD:∀b u,H' b=some u->b≠s2.heap.objs.size:=λb u e z=>by rw[z,hD]at e;cases e
 have nC:∀b u,H' b=some u->b≠s2.heap.objs.size+1:=λb u e z=>by rw[z,hC]at e;cases e
 have hacc:h'.get? s2.heap.objs.size=some (fN its n):=up _ _ (L7 (ae8 _)) pacc.1;have hok:HOk X.prog X.w (upd H' s2.heap.objs.size (.lst ys)) h':=λb u e=>by
  by_cases hb:b=s2.heap.objs.size
  ·subst hb;rw[bx]at e;cases e;exact⟨hz,its,n,rv,hacc⟩
  ·rw[bj hb]at e;refine(I'.hok b u e).stay (λc v hc q=>up c v ?_ q) (λc q=>by rw[bj (nD c _ q)];exact q) λc xs q=>by rw[bj (nD c _ q)];exact q
   rcases hc with rfl|hc
   ·exact nC _ _ e
   ·exact nC _ _ hc
 have un:Un (frs X.stack) fp H2 (upd H' s2.heap.objs.size (.lst ys)) s2.heap h':=by
  have U:=I'.base;have ltD:∀b o,s2.heap.get? b=some o->b≠s2.heap.objs.size:=λb o e=>L7 (K7 e);have ltC:∀b o,s2.heap.get? b=some o->b≠s2.heap.objs.size+1:=λb o e=>L7 (V8 (K7 e));refine⟨λb o e nb hb hx=>up b o (ltC b o e) (U.keep b o e nb hb hx),λb o e nb hb hx=>?_,λb o e nb hx=>by rw[bj (ltD b o e)];exact U.free b o e nb hx,λb o e hx=>?_,
   λb xs e=>by have q:=U.tups b xs e;rw[bj (nD b _ q)];exact q,λb o u e=>by have q:=U.frzs b o u e;rw[bj (nD b _ q)];exact q,λb ps e=>?_⟩
  ·obtain⟨sl,q⟩:=U.slot b o e nb hb hx;exact⟨sl,up b _ (ltC b o e) q⟩
  ·obtain⟨o',q⟩:=U.there b o e hx;exact⟨o',up b _ (ltC b o e) q⟩
  ·obtain⟨more,q⟩:=U.tbls b ps e;exact⟨more,by rw[bj (nD b _ q)];exact q⟩
 exact⟨I2.call' (s':={ s' with heap:=h' }) (ch:=fp) I'.os un hok I'.bare λb hb=>⟨(f2 b hb).2.2.2.1,(f2 b hb).2.1,(f2 b hb).2.2.2.2.1,(f2 b hb).2.2.2.2.2⟩,hD⟩
def AS(ms:List Bool)(k:Nat)(wi:TI)(g:TG)(tc:TT)(B:BK):TE:=λσ H Q=>wi σ H λJ H1=>∃(W:Nat->Nat->List V->St->Hp->Prop) (Z:List V->St->Hp->Prop),(∃m,W 0 m [] (jf ms k σ) H1)/\kU J g tc B W Z /\
 ∀ys σ' H p,Z ys σ' H->H p=none->Q (.ref p) (upd H p (.lst ys))
abbrev tLc(ms:List Bool)(k:Nat)(wi:TI)(g:TG)(tc:TT)(te:TE):TE:=AS ms k wi g tc (nW te)
abbrev LvC(X:Cx)(scope:af8)(cl:List (Str×K4))(ar:List Str)(ce:N8)(p:Pos)(tg:N8)(ifs:List N8)(B:BK):Prop:=∀C s H ex D,nX (aN X scope cl (X.N++ar) C s H ex) D->Lv (aN X scope cl (X.N++ar) C s H ex) D ce 0 p tg ifs B
theorem zD(S:fk X scope cl ms ar)(cQ:X.calm=true){wi:TI}(hi:PI X tg iter wi)
  (hg:∀C s H ex,PG (aN X scope cl (X.N++ar) C s H ex) tg g) (hif:∀C s H ex,PIf (aN X scope cl (X.N++ar) C s H ex) ifs tc) (hL:LvC X scope cl ar (lcE elt (⟨tg,iter,ifs,0⟩::gs) scope pos) p tg ifs B)
  (hs:∀x,R3 iter X.env x=ag9 x:=by intro _;rfl):PE X (lcE elt (⟨tg,iter,ifs,0⟩::gs) scope pos) (AS ms ar.length wi g tc B):=by
 intro af s σ H Q I h;rw[eval_ListComp];refine wpAny_comprehension_free (use:=none) rfl hs S.clos S.kind S.names (thn (hi af s σ H _ I h) λv s1 h1=>thn h1 λitv s2 h2=>?_);obtain⟨it,fp,tn,J,H2,e,I2,T,st2,f2,W,Z,⟨m0,w0⟩,turn,q⟩:=h2;subst e;refine pO S cQ hg hif hL I2 T st2 f2 w0 turn (RR:=λacc C=>compPost (N9 X.prog X.w) X.A X.xe none (EP X af σ Q) acc C) ?_;intro s' ys its n σ' H' I' rv hz hZ;obtain⟨m,hm,_⟩:=I'.loc;refine⟨m,hm,λh' hs'=>?_⟩;obtain⟨I3,hD⟩:=oU I2 f2 I' rv hz hs';exact⟨.ref s2.heap.objs.size,_,I3,rfl,q ys _ H' _ hZ hD⟩
theorem pj{i:Nat}{x:Str}{spos pos':Pos}(hN:X.N.Nodup)(hix:X.N[i]?=some x)(hx:X.env.scope.names.lookup x=some .local)
  (hsw:ak2 (lcE elt (⟨tg,iter,ifs,0⟩::gs) scope pos) (some (.Name x pos')) spos.line X.env=ag9 true)
  (S:fk X scope cl ms ar) (cQ:X.calm=true) {wi:TI} (hi:PI X tg iter wi)
  (hg:∀C s H ex,PG (aN X scope cl (X.N++ar) C s H ex) tg g) (hif:∀C s H ex,PIf (aN X scope cl (X.N++ar) C s H ex) ifs tc) (hL:LvC X scope cl ar (lcE elt (⟨tg,iter,ifs,0⟩::gs) scope pos) p tg ifs B)
  (hs:∀x,R3 iter X.env x=ag9 x:=by intro _;rfl):PS X (.Assign [.Name x pos'] (lcE elt (⟨tg,iter,ifs,0⟩::gs) scope pos) spos) (Dt (AS ms ar.length wi g tc B) (rP i)):=by
 intro af s σ H D I h;rw[exec_Assign_Name_used _ _ _ _ hsw];refine o0 (an9 (o0 ?_));show L3 _ _ (do let _ <-comprehension (lcE elt (⟨tg,iter,ifs,0⟩::gs) scope pos) scope X.env _ (newList []) false (ad7 iter X.env) (some (ao4 (.Name x pos') X.env))) _ _ s;refine o0 (T5 (wpAny_comprehension_free (use:=some (ao4 (.Name x pos') X.env)) (Q:=λ_ s'=>SP X af D .next s') rfl hs S.clos S.kind S.names
  (thn (hi af s σ H _ I h) λv s1 h1=>thn h1 λitv s2 h2=>?_)) (λ_ s' hq=>J3 (J3 hq)) λ_ _ e=>e)
 obtain⟨it,fp,tn,J,H2,e,I2,T,st2,f2,W,Z,⟨m0,w0⟩,turn,q⟩:=h2;subst e;refine pO S cQ hg hif hL I2 T st2 f2 w0 turn (RR:=λacc C=>compPost (N9 X.prog X.w) X.A X.xe (some (ao4 (.Name x pos') X.env)) (λ_ s'=>SP X af D .next s') acc C) ?_;intro s' ys its n σ' H' I' rv hz hZ;obtain⟨m,hm,_⟩:=I'.loc;obtain⟨I3,hD⟩:=oU I2 f2 I' rv hz (Q9.refl (s2.heap.objs.size+1) s'.heap);have hq:=q ys _ H' _ hZ hD;show L3 _ _ (ao4 (.Name x pos') X.env (.ref s2.heap.objs.size)) _ _ _;refine wpAny_assign_Name (pH I3 hN hix (.inl hx) (v:=.ref s2.heap.objs.size) rfl (λs4 I4 hsame=>?_) (.inr hx));obtain⟨a,hsb,ha⟩:=hsame;have hLC:s2.heap.objs.size+1≠X.env.locals:=ab9 (V8 I2.lt);have haC:s2.heap.objs.size+1≠a:=by
  rcases ha with rfl|ha
  ·exact hLC
  ·intro z;obtain⟨v,o,ho,_⟩:=I2.cell x a ha;exact absurd (V8 (K7 ho)) (by rw[<-z];exact ae0 _)
 have hCn:upd H' s2.heap.objs.size (.lst ys) (s2.heap.objs.size+1)=none:=by rw[bj (ab9 (ae8 _))];exact I'.free
 refine⟨m,hm.sameBut hsb haC,λh' hs'=>?_⟩;refine⟨_,_,?_,hq⟩;have hL:∀b o,b≠s2.heap.objs.size+1->s4.heap.get? b=some o->h'.get? b=some o:=λb o hb e=>(hs'.2 b hb).trans e;have I5:=Inv.turned (t':=s4.toks) (h':=h') (it:=s2.heap.objs.size+1) I4 (λb o hb e=>hL b o hb e) hCn hLC (.inr (Nat.le_succ_of_le I2.sz)) (λy c e=>by
  obtain⟨v,o,ho,_⟩:=I2.cell y c e;exact L7 (V8 (K7 ho))) (λp hp=>by
  exact L7 (V8 (K7 (I2.pin p hp).1)))
 exact I5
theorem yE(he:∀C s H ex,PE (aN X scope cl (X.N++ar) C s H ex) elt te):LvC X scope cl ar (lcE elt [⟨tg,iter,ifs,0⟩] scope pos) iter.pos tg ifs (nW te):=λ_ _ _ _ _ c=>vG c (he _ _ _ _) λ_ _ _=>rfl
end
inductive Bx where
 |dk (ks:List Key)|dt (ks:List (List Key))|ins (C:K4) (fs:List Str)|key
 deriving Inhabited
inductive D where
 |non|bl (b:Bool)|int (i:Int)|str (x:Str)|tup (ds:List D)|lst (ds:List D)|scr (ds:List D)|emp|ref (a:K4)|box (t:Bx) (ds:List D)
 deriving Inhabited
inductive HD where
 |lst (ds:List D)|dK (kvs:List (Key×D))|dT (kvs:List (List Key×D))|dKr (o:Obj) (ks:List (Key×V)) (kvs:List (Key×D))|ins (C:K4) (fs:List (Str×D))
 |ext (φ:List V->N0->Prop) (ds:List D)
 deriving Inhabited
abbrev DH:=K4->Option HD
def aT(M:DH)(a:K4)(o:HD):DH:=λb=>if b=a then some o else M b
def ny(M:DH)(a:K4):DH:=λb=>if b=a then none else M b
abbrev noM:DH:=λ_=>none
theorem aE{M:DH}{a:K4}{o:HD}:aT M a o a=some o:=if_pos rfl
theorem aA{M:DH}{a b:K4}{o:HD}(h:b≠a):aT M a o b=M b:=if_neg h
theorem ir{M:DH}{a:K4}{o u:HD}:aT (aT M a o) a u=aT M a u:=by
 funext b;unfold aT;split<;>rfl
theorem o8{M:DH}{a:K4}:ny M a a=none:=if_pos rfl
theorem BJ{M:DH}{a b:K4}(h:b≠a):ny M a b=M b:=if_neg h
theorem jS{M:DH}{a:K4}{o:HD}(h:M a=none):ny (aT M a o) a=M:=by
 funext b;unfold ny aT;split
 ·rename_i e;rw[e,h]
 ·rfl
def pZ(K:H0)(M:DH)(H:Hp)(a:K4)(vs:List V):Prop:=(Rd H a (.tup vs)/\M a=none)∨SqT K (λ_=>none) a vs
def vy(M:DH)(H:Hp)(a:K4)(vs:List V):Prop:=H a=some (.lst vs)/\M a=none
def pI(K:H0)(M:DH)(H:Hp)(a:K4)(vs:List V):Prop:=((∃o,H a=some (.frz o (.lst vs)))/\M a=none)∨SqL K (λ_=>none) a vs
def Ga(M:DH)(H:Hp)(a:K4):Prop:=H a=some (.dK [])/\M a=none
def sR(M:DH)(H:Hp)(a:K4):Bx->List V->Prop
 |.dk ks,vs=>ks.length=vs.length/\(∃o,H a=some (.frz o (.dK (ks.zip vs))))/\M a=none
 |.dt ks,vs=>ks.length=vs.length/\(∃o,H a=some (.frz o (.dT (ks.zip vs))))/\M a=none
 |.ins C fs,vs=>fs.length=vs.length/\(∃dx,H a=some (.ins C dx (fs.zip vs)))/\M a=none
 |.key,vs=>True/\(∃_u:Unit,H a=some (.tup vs))/\M a=none
mutual
def Rep(K:H0)(M:DH)(H:Hp):D->V->Prop
 |.non,v=>v=.non
 |.bl b,v=>v=.bl b
 |.int i,v=>v=.int i
 |.str x,v=>v=.str x
 |.tup ds,v=>∃a vs,v=.ref a/\pZ K M H a vs/\aq K M H ds vs
 |.lst ds,v=>∃a vs,v=.ref a/\vy M H a vs/\aq K M H ds vs
 |.scr ds,v=>∃a vs,v=.ref a/\pI K M H a vs/\aq K M H ds vs
 |.emp,v=>∃a,v=.ref a/\Ga M H a
 |.ref a,v=>v=.ref a
 |.box t ds,v=>∃a vs,v=.ref a/\sR M H a t vs/\aq K M H ds vs
def aq(K:H0)(M:DH)(H:Hp):List D->List V->Prop
 |[],vs=>vs=[]
 |d::ds,vs=>∃v ws,vs=v::ws/\Rep K M H d v/\aq K M H ds ws
end
def Ext(M:DH)(H:Hp)(M':DH)(H':Hp):Prop:=∀a o,H a=some o->M a=none->H' a=some o/\M' a=none
theorem Ext.refl(M:DH)(H:Hp):Ext M H M H:=λ_ _ h n=>⟨h,n⟩
theorem Ext.trans{M M1 M2:DH}{H H1 H2:Hp}(a:Ext M H M1 H1)(b:Ext M1 H1 M2 H2):Ext M H M2 H2:=λc o h n=>b c o (a c o h n).1 (a c o h n).2
variable{K:H0}{M M' M1 M2:DH}{H H' H1 H2:Hp}
theorem pZ.ext{a:K4}{vs:List V}(h:pZ K M H a vs)(e:Ext M H M' H'):pZ K M' H' a vs:=by
 rcases h with⟨r|⟨o,r⟩,n⟩|h
 ·exact .inl ⟨.inl (e a _ r n).1,(e a _ r n).2⟩
 ·exact .inl ⟨.inr ⟨o,(e a _ r n).1⟩,(e a _ r n).2⟩
 ·exact .inr h
theorem vy.ext{a:K4}{vs:List V}(h:vy M H a vs)(e:Ext M H M' H'):vy M' H' a vs:=e a _ h.1 h.2
theorem pI.ext{a:K4}{vs:List V}(h:pI K M H a vs)(e:Ext M H M' H'):pI K M' H' a vs:=by
 rcases h with⟨⟨o,r⟩,n⟩|h
 ·exact .inl ⟨⟨o,(e a _ r n).1⟩,(e a _ r n).2⟩
 ·exact .inr h
theorem sR.ext{a:K4}{t:Bx}{vs:List V}(h:sR M H a t vs)(e:Ext M H M' H'):sR M' H' a t vs:=by
 cases t<;>(obtain⟨l,⟨o,r⟩,n⟩:=h;exact⟨l,⟨o,(e a _ r n).1⟩,(e a _ r n).2⟩)
mutual
theorem Rep.ext:∀{d:D}{v:V},Rep K M H d v->Ext M H M' H'->Rep K M' H' d v
 |.non,_,h,_=>h
 |.bl _,_,h,_=>h
 |.int _,_,h,_=>h
 |.str _,_,h,_=>h
 |.ref _,_,h,_=>h
 |.emp,_,h,e=>by
  simp only[Rep]at h ⊢;obtain⟨a,rfl,h1,h2⟩:=h;exact⟨a,rfl,e a _ h1 h2⟩
 |.tup ds,_,h,e=>by
  simp only[Rep]at h ⊢;obtain⟨a,vs,rfl,h1,h2⟩:=h;exact⟨a,vs,rfl,h1.ext e,aq.ext h2 e⟩
 |.lst ds,_,h,e=>by
  simp only[Rep]at h ⊢;obtain⟨a,vs,rfl,h1,h2⟩:=h;exact⟨a,vs,rfl,h1.ext e,aq.ext h2 e⟩
 |.scr ds,_,h,e=>by
  simp only[Rep]at h ⊢;obtain⟨a,vs,rfl,h1,h2⟩:=h;exact⟨a,vs,rfl,h1.ext e,aq.ext h2 e⟩
 |.box t ds,_,h,e=>by
  simp only[Rep]at h ⊢;obtain⟨a,vs,rfl,h1,h2⟩:=h;exact⟨a,vs,rfl,h1.ext e,aq.ext h2 e⟩
theorem aq.ext:∀{ds:List D}{vs:List V},aq K M H ds vs->Ext M H M' H'->aq K M' H' ds vs
 |[],_,h,_=>h
 |d::ds,_,h,e=>by
  simp only[aq]at h ⊢;obtain⟨v,ws,rfl,h1,h2⟩:=h;exact⟨v,ws,rfl,Rep.ext h1 e,aq.ext h2 e⟩
end
theorem aq.length:∀{ds:List D}{vs:List V},aq K M H ds vs->ds.length=vs.length
 |[],_,h=>by simp only[aq]at h;subst h;rfl
 |d::ds,_,h=>by
  simp only[aq]at h;obtain⟨v,ws,rfl,h1,h2⟩:=h;simp[aq.length h2]
theorem aq.nil:aq K M H [] []:=by simp[aq]
theorem aq.cons{d:D}{v:V}{ds:List D}{vs:List V}(h:Rep K M H d v)(t:aq K M H ds vs):aq K M H (d::ds) (v::vs):=by
 simp only[aq];exact⟨v,vs,rfl,h,t⟩
theorem aq.append:∀{ds es:List D}{vs ws:List V},aq K M H ds vs->aq K M H es ws->aq K M H (ds++es) (vs++ws)
 |[],_,_,_,h,t=>by simp only[aq]at h;subst h;exact t
 |d::ds,es,_,ws,h,t=>by
  simp only[aq]at h;obtain⟨v,us,rfl,h1,h2⟩:=h;exact aq.cons h1 (aq.append h2 t)
theorem aq.get:∀{ds:List D}{vs:List V}{i:Nat}{d:D},aq K M H ds vs->ds[i]?=some d->∃v,vs[i]?=some v/\Rep K M H d v
 |[],_,_,_,_,e=>by simp at e
 |d::ds,_,0,x,h,e=>by
  simp only[aq]at h;obtain⟨v,us,rfl,h1,h2⟩:=h;simp at e;subst e;exact⟨v,rfl,h1⟩
 |d::ds,_,i+1,x,h,e=>by
  simp only[aq]at h;obtain⟨v,us,rfl,h1,h2⟩:=h;obtain⟨w,a,b⟩:=aq.get (i:=i) (d:=x) h2 (by simpa using e);exact⟨w,by simpa using a,b⟩
theorem aq.take:∀{ds:List D}{vs:List V}(n:Nat),aq K M H ds vs->aq K M H (ds.take n) (vs.take n)
 |ds,vs,0,_=>by simp[aq]
 |[],_,n+1,h=>by simp only[aq]at h;subst h;simp[aq]
 |d::ds,_,n+1,h=>by
  simp only[aq]at h;obtain⟨v,us,rfl,h1,h2⟩:=h;exact aq.cons h1 (aq.take n h2)
theorem aq.drop:∀{ds:List D}{vs:List V}(n:Nat),aq K M H ds vs->aq K M H (ds.drop n) (vs.drop n)
 |ds,vs,0,h=>h
 |[],_,n+1,h=>by simp only[aq]at h;subst h;simp[aq]
 |d::ds,_,n+1,h=>by
  simp only[aq]at h;obtain⟨v,us,rfl,h1,h2⟩:=h;exact aq.drop n h2
theorem aq.set:∀{ds:List D}{vs:List V}{d:D}{v:V}(n:Nat),aq K M H ds vs->Rep K M H d v->aq K M H (ds.set n d) (vs.set n v)
 |[],_,_,_,n,h,r=>by simp only[aq]at h;subst h;simp[aq]
 |d::ds,_,_,_,0,h,r=>by
  simp only[aq]at h;obtain⟨v,us,rfl,h1,h2⟩:=h;exact aq.cons r h2
 |d::ds,_,_,_,n+1,h,r=>by
  simp only[aq]at h;obtain⟨v,us,rfl,h1,h2⟩:=h;exact aq.cons h1 (aq.set n h2 r)
theorem aq.one{d:D}{vs:List V}(h:aq K M H [d] vs):∃v,vs=[v]/\Rep K M H d v:=by
 simp only[aq]at h;obtain⟨v,us,rfl,h1,rfl⟩:=h;exact⟨v,rfl,h1⟩
theorem aq.two{d e:D}{vs:List V}(h:aq K M H [d,e] vs):∃v w,vs=[v,w]/\Rep K M H d v/\Rep K M H e w:=by
 simp only[aq]at h;obtain⟨v,us,rfl,h1,w,ws,rfl,h2,rfl⟩:=h;exact⟨v,w,rfl,h1,h2⟩
def KR(K:H0)(M:DH)(H:Hp){κ:Type}:List (κ×D)->List (κ×V)->Prop:=aa9 λp q=>p.1=q.1/\Rep K M H p.2 q.2
theorem KR.ext{κ:Type}{kvs:List (κ×D)}{ks:List (κ×V)}(h:KR K M H kvs ks)(e:Ext M H M' H'):KR K M' H' kvs ks:=aa9.imp' (λ_ _ r=>⟨r.1,r.2.ext e⟩) h
def mS(K:H0)(M:DH)(H:Hp)(a:K4):HD->Prop
 |.lst ds=>∃vs,H a=some (.lst vs)/\aq K M H ds vs
 |.dK kvs=>∃ks,H a=some (.dK ks)/\KR K M H kvs ks
 |.dT kvs=>∃ks,H a=some (.dT ks)/\KR K M H kvs ks
 |.dKr o ks kvs=>∃_u:Unit,H a=some (.frz o (.dK ks))/\KR K M H kvs ks
 |.ins C fs=>∃gs,(∃dx,H a=some (.ins C dx gs))/\KR K M H fs gs
 |.ext φ ds=>∃vs,H a=some (.ext (φ vs))/\aq K M H ds vs
def HR(K:H0)(M:DH)(H:Hp):Prop:=∀a o,M a=some o->mS K M H a o
theorem mS.some{a:K4}{o:HD}(h:mS K M H a o):∃u,H a=S3 u/\∀xs,u≠.tup xs/\∀ob,u≠.frz ob (.tup xs):=by
 cases o with
 |ins C fs=>obtain⟨gs,⟨dx,r⟩,_⟩:=h;exact⟨_,r,λxs=>⟨(by intro z;cases z),(by intro ob z;cases z)⟩⟩
 |_=>obtain⟨vs,r,_⟩:=h;exact⟨_,r,λxs=>⟨(by intro z;cases z),(by intro ob z;cases z)⟩⟩
theorem mS.keep{a:K4}{o:HD}(h:mS K M H a o)(e:Ext M H M' H')(q:H' a=H a):mS K M' H' a o:=by
 cases o with
 |ins C fs=>obtain⟨gs,⟨dx,r⟩,t⟩:=h;exact⟨gs,⟨dx,by rw[q];exact r⟩,t.ext e⟩
 |_=>obtain⟨vs,r,t⟩:=h;exact⟨vs,by rw[q];exact r,t.ext e⟩
theorem HR.fresh(h:HR K M H){p:K4}(e:H p=none):M p=none:=by
 cases q:M p with
 |none=>rfl
 |some o =>
  obtain⟨u,r,_⟩:=(h p _ q).some;rw[e]at r;cases r
theorem HR.nil:HR K noM H:=λ_ _ h=>nomatch h
theorem Ext.new{p:K4}{o:HO}(hr:HR K M H)(h:H p=none):Ext M H M (upd H p o):=λa u e n=>by
 have:a≠p:=cp e h;rw[bj this];exact⟨e,n⟩
theorem HR.ext1(h:HR K M H)(e:Ext M H M H')(keep:∀a o,M a=some o->H' a=H a):HR K M H':=λa o q=>(h a o q).keep e (keep a o q)
theorem HR.new{p:K4}{o:HO}(hr:HR K M H)(h:H p=none):HR K M (upd H p o):=hr.ext1 (Ext.new hr h) λa u q=>by
 have:a≠p:=λz=>by rw[z,hr.fresh h]at q;cases q
 rw[bj this]
theorem Ext.own{p:K4}{o:HO}{u:HD}(h:H p=none):Ext M H (aT M p u) (upd H p o):=λa x e n=>by
 have:a≠p:=cp e h;rw[bj this,aA this];exact⟨e,n⟩
theorem HR.put{p:K4}{o:HO}{u:HD}(hr:HR K M H)(e:Ext M H (aT M p u) (upd H p o))(c:mS K (aT M p u) (upd H p o) p u):HR K (aT M p u) (upd H p o):=λa w q=>by
 by_cases z:a=p
 ·subst z;rw[aE]at q;cases q;exact c
 ·rw[aA z]at q;exact(hr a w q).keep e (bj z)
theorem HR.own{p:K4}{ds:List D}{vs:List V}(hr:HR K M H)(h:H p=none)(r:aq K M H ds vs):HR K (aT M p (.lst ds)) (upd H p (.lst vs)) :=
 hr.put (Ext.own h) ⟨vs,bx,r.ext (Ext.own h)⟩
theorem Ext.write{a:K4}{o:HO}{u w:HD}(h:M a=some w):Ext M H (aT M a u) (upd H a o):=λb x e n=>by
 have:b≠a:=λz=>by rw[z,h]at n;cases n
 rw[bj this,aA this];exact⟨e,n⟩
theorem HR.write{a:K4}{w:HD}{ds:List D}{vs:List V}(hr:HR K M H)(h:M a=some w)(r:aq K M H ds vs):HR K (aT M a (.lst ds)) (upd H a (.lst vs)) :=
 hr.put (Ext.write h) ⟨vs,bx,r.ext (Ext.write h)⟩
def LeM(M1 M:DH):Prop:=∀a o,M1 a=some o->M a=some o
theorem LeM.none(h:LeM M1 M){a:K4}(n:M a=none):M1 a=none:=by
 cases q:M1 a with
 |none=>rfl
 |some o=>rw[h a o q]at n;cases n
theorem LeM.refl:LeM M M:=λ_ _ h=>h
theorem LeM.no:LeM noM M:=λ_ _ h=>nomatch h
theorem LeM.del{a:K4}:LeM (ny M a) M:=λb o h=>by
 unfold ny at h;split at h
 ·cases h
 ·exact h
theorem Ext.le(h:LeM M1 M):Ext M H M1 H:=λa o e n=>⟨e,h.none n⟩
theorem HR.le(hr:HR K M H)(h:LeM M1 M):HR K M1 H:=λa o q=>(hr a o (h a o q)).keep (Ext.le h) rfl
theorem Rep.froze(hr:HR K M H)(h:LeM M1 M){a:K4}{ds:List D}(e:M a=some (.lst ds))(n:M1 a=none):Rep K M1 H (.lst ds) (.ref a):=by
 obtain⟨vs,r,t⟩:=hr a _ e;simp only[Rep];exact⟨a,vs,rfl,⟨r,n⟩,t.ext (Ext.le h)⟩
mutual
def noL:D->Bool
 |.tup ds=>BX ds
 |.lst _=>false
 |.scr _=>false
 |.emp=>false
 |.box _ _=>false
 |_=>true
def BX:List D->Bool
 |[]=>true
 |d::ds=>noL d&&BX ds
end
mutual
theorem Rep.hard:∀{d:D}{v:V},noL d=true->Rep K M H d v->(∀a xs,Rd H a (.tup xs)->M' a=none)->Rep K M' H d v
 |.non,_,_,h,_=>h
 |.bl _,_,_,h,_=>h
 |.int _,_,_,h,_=>h
 |.str _,_,_,h,_=>h
 |.ref _,_,_,h,_=>h
 |.emp,_,n,_,_=>by simp[noL]at n
 |.box _ _,_,n,_,_=>by simp[noL]at n
 |.lst _,_,n,_,_=>by simp[noL]at n
 |.scr _,_,n,_,_=>by simp[noL]at n
 |.tup ds,_,n,h,e=>by
  simp only[Rep]at h ⊢;obtain⟨a,vs,rfl,h1,h2⟩:=h;refine⟨a,vs,rfl,?_,aq.hard (by simpa[noL]using n) h2 e⟩;rcases h1 with⟨r,_⟩|r
  ·exact .inl ⟨r,e a vs r⟩
  ·exact .inr r
theorem aq.hard:∀{ds:List D}{vs:List V},BX ds=true->aq K M H ds vs->(∀a xs,Rd H a (.tup xs)->M' a=none)->aq K M' H ds vs
 |[],_,_,h,_=>h
 |d::ds,_,n,h,e=>by
  simp only[aq]at h ⊢;obtain⟨v,ws,rfl,h1,h2⟩:=h;simp only[BX,N1]at n;exact⟨v,ws,rfl,Rep.hard n.1 h1 e,aq.hard n.2 h2 e⟩
end
abbrev DE:=List (Option D)
def SR(K:H0)(M:DH)(H:Hp)(σ:St)(Δ:DE):Prop:=σ.length=Δ.length/\∀(i:Nat) (d:D),Δ[i]?=some (some d)->∃v,σ[i]?=some (some v)/\Rep K M H d v
theorem SR.ext{σ:St}{Δ:DE}(h:SR K M H σ Δ)(e:Ext M H M' H'):SR K M' H' σ Δ:=⟨h.1,λi d q=>let⟨v,a,r⟩:=h.2 i d q;⟨v,a,r.ext e⟩⟩
theorem SR.set{σ:St}{Δ:DE}{d:D}{v:V}(h:SR K M H σ Δ)(i:Nat)(r:Rep K M H d v):SR K M H (σ.set i (some v)) (Δ.set i (some d)):=by
 refine⟨by simp[h.1],λj e q=>?_⟩
 by_cases hj:j=i
 ·subst hj
  by_cases hl:j<Δ.length
  ·rw[ab4 hl]at q;cases q;exact⟨v,ab4 (by rw[h.1];exact hl),r⟩
  ·rw[T4 (by simp;lia)]at q;cases q
 ·rw[ag8 (ab0 hj)]at q ⊢;exact h.2 j e q
abbrev TEd:=DE->DH->(D->DH->Prop)->Prop
abbrev TAd:=DE->DH->(List D->DH->Prop)->Prop
abbrev TTd:=DE->DH->(Bool->DH->Prop)->Prop
structure gE where
 nx:DE->DH->Prop
 rt:D->DH->Prop
 bk:DE->DH->Prop:=λ_ _=>False
 ct:DE->DH->Prop:=λ_ _=>False
abbrev TSd:=gE->DE->DH->Prop
def up(K:H0)(t:TEd):TE:=λσ H Q=>∃(Δ:DE) (M:DH) (R:D->DH->Prop),SR K M H σ Δ/\HR K M H/\t Δ M R /\
 ∀d M' v H',R d M'->Ext M H M' H'->HR K M' H'->Rep K M' H' d v->Q v H'
def upA(K:H0)(t:TAd):TA:=λσ H Q=>∃(Δ:DE) (M:DH) (R:List D->DH->Prop),SR K M H σ Δ/\HR K M H/\t Δ M R /\
 ∀ds M' vs H',R ds M'->Ext M H M' H'->HR K M' H'->aq K M' H' ds vs->Q vs H'
def upT(K:H0)(t:TTd):TT:=λσ H Q=>∃(Δ:DE) (M:DH) (R:Bool->DH->Prop),SR K M H σ Δ/\HR K M H/\t Δ M R /\
 ∀b M' H',R b M'->Ext M H M' H'->HR K M' H'->Q b H'
theorem upT.el{K:H0}{t:TTd}{σ:St}{H:Hp}{Q:Bool->Hp->Prop}{P:Prop}(h:upT K t σ H Q)(f:∀(Δ:DE) (M:DH) (R:Bool->DH->Prop),SR K M H σ Δ->HR K M H->t Δ M R->(∀b M' H',R b M'->Ext M H M' H'->HR K M' H'->Q b H')->P):P:=by
 obtain⟨x1,x2,x3,a,b,c,d⟩:=h;exact f x1 x2 x3 a b c d
theorem up.el{K:H0}{t:TEd}{σ:St}{H:Hp}{Q:VK}{P:Prop}(h:up K t σ H Q)(f:∀(Δ:DE) (M:DH) (R:D->DH->Prop),SR K M H σ Δ->HR K M H->t Δ M R->(∀d M' v H',R d M'->Ext M H M' H'->HR K M' H'->Rep K M' H' d v->Q v H')->P):P:=by
 obtain⟨x1,x2,x3,a,b,c,d⟩:=h;exact f x1 x2 x3 a b c d
theorem upA.el{K:H0}{t:TAd}{σ:St}{H:Hp}{Q:List V->Hp->Prop}{P:Prop}(h:upA K t σ H Q)(f:∀(Δ:DE) (M:DH) (R:List D->DH->Prop),SR K M H σ Δ->HR K M H->t Δ M R->(∀ds M' vs H',R ds M'->Ext M H M' H'->HR K M' H'->aq K M' H' ds vs->Q vs H')->P):P:=by
 obtain⟨x1,x2,x3,a,b,c,d⟩:=h;exact f x1 x2 x3 a b c d
structure UpE(K:H0) (E:gE) (D:tX) (M:DH) (H:Hp):Prop where
 nx:∀ Δ' M' σ' H',E.nx Δ' M'->Ext M H M' H'->HR K M' H'->SR K M' H' σ' Δ'->D.nx σ' H'
 bk:∀ Δ' M' σ' H',E.bk Δ' M'->Ext M H M' H'->HR K M' H'->SR K M' H' σ' Δ'->D.bk σ' H'
 ct:∀ Δ' M' σ' H',E.ct Δ' M'->Ext M H M' H'->HR K M' H'->SR K M' H' σ' Δ'->D.ct σ' H'
 rt:∀d M' v H',E.rt d M'->Ext M H M' H'->HR K M' H'->Rep K M' H' d v->D.rt v H'
theorem UpE.ext{E:gE}{D:tX}(u:UpE K E D M H)(e:Ext M H M' H'):UpE K E D M' H' :=
 ⟨λa b c d h x=>u.nx a b c d h (e.trans x),λa b c d h x=>u.bk a b c d h (e.trans x),λa b c d h x=>u.ct a b c d h (e.trans x),λa b c d h x=>u.rt a b c d h (e.trans x)⟩
def upS(K:H0)(t:TSd):TS:=λD σ H=>∃(Δ:DE) (M:DH) (E:gE),SR K M H σ Δ/\HR K M H/\t E Δ M/\UpE K E D M H
theorem upS.el{K:H0}{t:TSd}{E:tX}{σ:St}{H:Hp}{P:Prop}(h:upS K t E σ H)(f:∀(Δ:DE) (M:DH) (R:gE),SR K M H σ Δ->HR K M H->t R Δ M->UpE K R E M H->P):P:=by
 obtain⟨x1,x2,x3,a,b,c,d⟩:=h;exact f x1 x2 x3 a b c d
def PEd(X:Cx)(e:N8)(t:TEd):Prop:=PE X e (up X.K t)
def PAd(X:Cx)(es:List N8)(t:TAd):Prop:=PA X es (upA X.K t)
def PTd(X:Cx)(e:N8)(t:TTd):Prop:=PT X e (upT X.K t)
def PWd(X:Cx)(e:N8)(t:TTd):Prop:=PW X e (upT X.K t)
def PSd(X:Cx)(st:aa6)(t:TSd):Prop:=PS X st (upS X.K t)
def Ab(X:Cx)(st:List aa6)(t:TSd):Prop:=PSs X st (upS X.K t)
theorem PE.conv{X:Cx}{e:N8}{t t':TE}(h:PE X e t)(k:∀ σ H Q,t' σ H Q->t σ H Q):PE X e t':=λp s σ H Q I q=>h p s σ H Q I (k σ H Q q)
theorem PT.conv{X:Cx}{e:N8}{t t':TT}(h:PT X e t)(k:∀ σ H Q,t' σ H Q->t σ H Q):PT X e t':=λp s σ H Q I q=>h p s σ H Q I (k σ H Q q)
theorem PA.conv{X:Cx}{e:List N8}{t t':TA}(h:PA X e t)(k:∀ σ H Q,t' σ H Q->t σ H Q):PA X e t':=λps p s σ H Q I q=>h ps p s σ H Q I (k σ H Q q)
theorem PS.conv{X:Cx}{e:aa6}{t t':TS}(h:PS X e t)(k:∀D σ H,t' D σ H->t D σ H):PS X e t':=λp s σ H D I q=>h p s σ H D I (k D σ H q)
theorem PSs.conv{X:Cx}{e:List aa6}{t t':TS}(h:PSs X e t)(k:∀D σ H,t' D σ H->t D σ H):PSs X e t':=λp s σ H D I q=>h p s σ H D I (k D σ H q)
section
variable{X:Cx}{a b c:N8}{es:List N8}{ta tb:TEd}{pos:Pos}
def gJ(i:Nat):TEd:=λΔ M Q=>∃d,Δ[i]?=some (some d)/\Q d M
def dC(d:D):TEd:=λ_ M Q=>Q d M
theorem BL{x:Str}{i:Int}{t:Tok}{pos:Pos}(hg:Gl X x)(hm:X.mg x=some (.int i t))(hd:(x==("__debug__":Str))=false:=by decide):PEd X (.Name x pos) (dC (.int i)) :=
 (vF (v:=.int i) hg hm ⟨t,rfl⟩ hd).conv λσ H Q hup=>hup.el λΔ M R sr hr q k=>k _ M _ H q (Ext.refl _ _) hr (by simp[Rep])
theorem BG{x y:Str}{t:Tok}{pos:Pos}(hg:Gl X x)(hm:X.mg x=some (.str y t))(hd:(x==("__debug__":Str))=false:=by decide):PEd X (.Name x pos) (dC (.str y)) :=
 (vF (v:=.str y) hg hm ⟨t,rfl⟩ hd).conv λσ H Q hup=>hup.el λΔ M R sr hr q k=>k _ M _ H q (Ext.refl _ _) hr (by simp[Rep])
def xE:TAd:=λ_ M Q=>Q [] M
def pV(ta:TEd)(tr:TAd):TAd:=λΔ M Q=>ta Δ M λx M1=>tr Δ M1 λxs M2=>Q (x::xs) M2
def FG(t:TAd):TEd:=λΔ M Q=>t Δ M λds M1=>ds.length<=J7/\Q (.tup ds) M1
def Fg(t:TAd):TEd:=λΔ M Q=>t Δ M λds M1=>ds.length<=J7/\Q (.lst ds) M1
def B1(t:TAd):TEd:=λΔ M Q=>t Δ M λds M1=>ds.length<=J7/\∀p,M1 p=none->Q (.ref p) (aT M1 p (.lst ds))
def rdM(M:DH):D->D
 |.ref a=>match M a with|some (.lst ds)=>.lst ds|_=>.ref a
 |d=>d
def aX(K:H0)(M:DH)(H:Hp)(d:D)(v:V):Prop:=match d with
 |.tup ds=>∃a vs,v=.ref a/\SqT K H a vs/\aq K M H ds vs
 |.lst ds=>∃a vs,v=.ref a/\H a=some (.lst vs)/\aq K M H ds vs
 |.scr ds=>∃a vs,v=.ref a/\SqL K H a vs/\aq K M H ds vs
 |d=>Rep K M H d v
theorem pZ.sq{K:H0}{M:DH}{H:Hp}{a:K4}{vs:List V}(h:pZ K M H a vs):SqT K H a vs:=by
 rcases h with⟨h,_⟩|h
 ·exact .inl h
 ·rcases h with(h|⟨_,h⟩)|h
  ·cases h
  ·cases h
  ·exact .inr h
theorem pI.sq{K:H0}{M:DH}{H:Hp}{a:K4}{vs:List V}(h:pI K M H a vs):SqL K H a vs:=by
 rcases h with⟨⟨o,h⟩,_⟩|h
 ·exact .inl (.inr ⟨o,h⟩)
 ·rcases h with(h|⟨_,h⟩)|h
  ·cases h
  ·cases h
  ·exact .inr h
theorem Rep.rd{K:H0}{M:DH}{H:Hp}{d:D}{v:V}(hr:HR K M H)(h:Rep K M H d v):aX K M H (rdM M d) v:=by
 cases d with
 |tup ds=>simp only[Rep]at h;obtain⟨a,vs,e,t,r⟩:=h;exact⟨a,vs,e,t.sq,r⟩
 |lst ds=>simp only[Rep]at h;obtain⟨a,vs,e,t,r⟩:=h;exact⟨a,vs,e,t.1,r⟩
 |scr ds=>simp only[Rep]at h;obtain⟨a,vs,e,t,r⟩:=h;exact⟨a,vs,e,t.sq,r⟩
 |ref a =>
  simp only[rdM];cases q:M a with
  |none=>exact h
  |some o =>
   cases o with
   |lst ds =>
    obtain⟨vs,e,r⟩:=hr a _ q;simp only[Rep]at h;exact⟨a,vs,h,e,r⟩
   |dK _=>exact h
   |dT _=>exact h
   |dKr _ _ _=>exact h
   |ins _ _=>exact h
   |ext _ _=>exact h
 |non=>exact h
 |bl b=>exact h
 |int i=>exact h
 |str x=>exact h
 |emp=>exact h
 |box _ _=>exact h
def bY(X:Cx)(f:J0->J0->Sem J0)(r:D->D->Option D):Prop :=
 ∀(af:List (K4×Obj)) (s:J4) (σ:St) (H:Hp) (M:DH) (x y:V) (v u:J0) (dx dy dz:D) (Q:VK),Inv X af σ H s->HR X.K M H->aL x v->aL y u->aX X.K M H dx x->aX X.K M H dy y->r dx dy=some dz ->
  (∀w H',Ext M H M H'->HR X.K M H'->Rep X.K M H' dz w->Q w H')->L3 (N9 X.prog X.w) X.A (f v u) (EP X af σ Q) X.xe s
def F8(X:Cx)(f:J0->Sem J0)(r:D->Option D):Prop :=
 ∀(af:List (K4×Obj)) (s:J4) (σ:St) (H:Hp) (M:DH) (x:V) (v:J0) (dx dz:D) (Q:VK),Inv X af σ H s->HR X.K M H->aL x v->aX X.K M H dx x->r dx=some dz ->
  (∀w H',Ext M H M H'->HR X.K M H'->Rep X.K M H' dz w->Q w H')->L3 (N9 X.prog X.w) X.A (f v) (EP X af σ Q) X.xe s
def bO(X:Cx)(f:J0)(r:List D->Option D):Prop :=
 ∀(af:List (K4×Obj)) (s:J4) (σ:St) (H:Hp) (M:DH) (xs:List V) (us:List J0) (ds:List D) (dz:D) (Q:VK),Inv X af σ H s->HR X.K M H->ay xs us->aa9 (aX X.K M H) ds xs->r ds=some dz ->
  (∀w H',Ext M H M H'->HR X.K M H'->Rep X.K M H' dz w->Q w H')->L3 (N9 X.prog X.w) X.A (call f us) (EP X af σ Q) X.xe s
def dOp(r:D->D->Option D)(ta tb:TEd):TEd:=λΔ M Q=>ta Δ M λx M1=>tb Δ M1 λy M2=>∃z,r (rdM M2 x) (rdM M2 y)=some z/\Q z M2
def dUn(r:D->Option D)(ta:TEd):TEd:=λΔ M Q=>ta Δ M λx M1=>∃z,r (rdM M1 x)=some z/\Q z M1
def opV(K:H0)(r:D->D->Option D):R2:=λx y H Q=>∃dx dy dz M,HR K M H/\aX K M H dx x/\aX K M H dy y/\r dx dy=some dz/\∀w H',Ext M H M H'->HR K M H'->Rep K M H' dz w->Q w H'
theorem bY.v{f:J0->J0->Sem J0}{r:D->D->Option D}(h:bY X f r):OpR X f (opV X.K r):=λaf s σ H x y v u Q I rx ry ⟨dx,dy,dz,M,hr,r1,r2,e,k⟩=>h af s σ H M x y v u dx dy dz Q I hr rx ry r1 r2 e k
theorem ye{K:H0}{r:D->D->Option D}{ta tb:TEd}:∀ σ H Q,up K (dOp r ta tb) σ H Q->tOp (opV K r) (up K ta) (up K tb) σ H Q:=λσ H Q hup=>hup.el λΔ M R sr hr q k =>
 ⟨Δ,M,_,sr,hr,q,λx M1 v H1 q1 e1 hr1 rv=>⟨Δ,M1,_,sr.ext e1,hr1,q1,λy M2 u H2 ⟨z,ez,q2⟩ e2 hr2 ru=>⟨_,_,z,M2,hr2,(rv.ext e2).rd hr2,ru.rd hr2,ez,λw H' e3 hr3 rw_=>k z M2 w H' q2 ((e1.trans e2).trans e3) hr3 rw_⟩⟩⟩
def oA(t:TEd):TTd:=λΔ M Q=>t Δ M λx M1=>∃k,x=.bl k/\Q k M1
theorem CA{K:H0}{t:TEd}:∀ σ H Q,upT K (oA t) σ H Q->B5 (up K t) σ H Q:=λσ H Q hup=>hup.el λΔ M R sr hr q k =>
 ⟨Δ,M,_,sr,hr,q,λd M1 v H1 ⟨b,e,q1⟩ e1 hr1 rv=>⟨b,by subst e;simpa only[Rep]using rv,k b M1 H1 q1 e1 hr1⟩⟩
def Cz(t:TTd):TTd:=λΔ M Q=>t Δ M λc M1=>Q (!c) M1
def yf(t u:TTd):TTd:=λΔ M Q=>t Δ M λc M1=>if c=true then u Δ M1 Q else Q false M1
def FR(t u:TTd):TTd:=λΔ M Q=>t Δ M λc M1=>if c=true then Q true M1 else u Δ M1 Q
variable{tA tB':TTd}{rest:List N8}
theorem PW.conv{X:Cx}{e:N8}{t t':TT}(h:PW X e t)(k:∀ σ H Q,t' σ H Q->t σ H Q):PW X e t':=λw p s σ H Q I q=>h w p s σ H Q I (k σ H Q q)
theorem PWd.pt{e:N8}{t:TTd}(h:PWd X e t):PTd X e t:=PW.pt h
def E5(ta tb:TEd):TEd:=λΔ M Q=>ta Δ M λx M1=>∃c,x=.bl c/\if c=true then tb Δ M1 Q else Q (.bl false) M1
def E8(ta:TEd):TEd:=λΔ M Q=>ta Δ M λx M1=>∃c,x=.bl c/\Q (.bl (!c)) M1
def xG(r r':D->D->Option D)(ta tb tc:TEd):TEd:=λΔ M Q=>ta Δ M λx M1=>tb Δ M1 λy M2=>∃k,r (rdM M2 x) (rdM M2 y)=some (.bl k)/\if k=true then tc Δ M2 λz M3=>∃w,r' (rdM M3 y) (rdM M3 z)=some w/\Q w M3 else Q (.bl false) M2
theorem v6{K:H0}{M:DH}{H:Hp}(hr:HR K M H):∀{ds:List D}{vs:List V},aq K M H ds vs->aa9 (aX K M H) (ds.map (rdM M)) vs
 |[],_,h=>by simp only[aq]at h;subst h;exact .nil
 |d::ds,_,h=>by
  simp only[aq]at h;obtain⟨v,ws,rfl,h1,h2⟩:=h;exact .cons (h1.rd hr) (v6 hr h2)
def dCB(r:List D->Option D)(t:TAd):TEd:=λΔ M Q=>t Δ M λds M1=>∃z,r (ds.map (rdM M1))=some z/\Q z M1
theorem Cy{K:H0}{r:List D->Option D}{t:TAd}:∀ σ H Q,up K (dCB r t) σ H Q->tCB (λxs H Q=>∃ds dz M,HR K M H/\aa9 (aX K M H) ds xs/\r ds=some dz/\∀w H',Ext M H M H'->HR K M H'->Rep K M H' dz w->Q w H') (upA K t) σ H Q:=λσ H Q hup=>hup.el λΔ M R sr hr q k =>
 ⟨Δ,M,_,sr,hr,q,λds M1 vs H1 ⟨z,ez,q1⟩ e1 hr1 rv=>⟨_,z,M1,hr1,v6 hr1 rv,ez,λw H' e2 hr2 r2=>k z M1 w H' q1 (e1.trans e2) hr2 r2⟩⟩
theorem bO.v{f:J0}{r:List D->Option D}(h:bO X f r):dD X f (λxs H Q=>∃ds dz M,HR X.K M H/\aa9 (aX X.K M H) ds xs/\r ds=some dz/\∀w H',Ext M H M H'->HR X.K M H'->Rep X.K M H' dz w->Q w H') :=
 λaf s σ H xs us Q I rv ⟨ds,dz,M,hr,rr,e,k⟩=>h af s σ H M xs us ds dz Q I hr rv rr e k
end
section
variable{X:Cx}
theorem bY.of{f:J0->J0->Sem J0}{r2:R2}{r:D->D->Option D}(h:OpR X f r2)
  (k:∀(H:Hp) (M:DH) (x y:V) (dx dy dz:D) (Q:VK),HR X.K M H->aX X.K M H dx x->aX X.K M H dy y->r dx dy=some dz->(∀w H',Ext M H M H'->HR X.K M H'->Rep X.K M H' dz w->Q w H')->r2 x y H Q):bY X f r :=
 λaf s σ H M x y v u dx dy dz Q I hr rx ry r1 r2 e q=>h af s σ H x y v u Q I rx ry (k H M x y dx dy dz Q hr r1 r2 e q)
theorem bO.of{f:J0}{r2:List V->Hp->VK->Prop}{r:List D->Option D}(h:dD X f r2)
  (k:∀(H:Hp) (M:DH) (xs:List V) (ds:List D) (dz:D) (Q:VK),HR X.K M H->aa9 (aX X.K M H) ds xs->r ds=some dz->(∀w H',Ext M H M H'->HR X.K M H'->Rep X.K M H' dz w->Q w H')->r2 xs H Q):bO X f r :=
 λaf s σ H M xs us ds dz Q I hr rv r1 e q=>h af s σ H xs us Q I rv (k H M xs ds dz Q hr r1 e q)
theorem fT{K:H0}{M:DH}{H:Hp}{i:Int}{v:V}(h:aX K M H (.int i) v):v=.int i:=by simpa[aX,Rep]using h
theorem oy{K:H0}{M:DH}{H:Hp}{i:Str}{v:V}(h:aX K M H (.str i) v):v=.str i:=by simpa[aX,Rep]using h
theorem GH{K:H0}{M:DH}{H:Hp}{v:V}(h:aX K M H .non v):v=.non:=by simpa[aX,Rep]using h
def iOp(f:Int->Int->Option D):D->D->Option D
 |.int a,.int b=>f a b
 |_,_=>none
theorem nG{f:Int->Int->Option D}{x y z:D}(h:iOp f x y=some z):∃a b,x=.int a/\y=.int b/\f a b=some z:=by
 cases x<;>first|cases h|skip
 rename_i a;cases y<;>first|cases h|skip
 rename_i b;exact⟨a,b,rfl,rfl,h⟩
noncomputable def bD:D->Bool
 |.non=>true|.bl _=>true|.int _=>true|.str _=>true|_=>false
def toV:D->V
 |.bl b=>.bl b|.int i=>.int i|.str x=>.str x|_=>.non
theorem sA{K:H0}{M:DH}{H:Hp}{d:D}(h:bD d=true):Rep K M H d (toV d):=by
 cases d<;>first|(simp[Rep,toV];done)|cases h
theorem vR{f:J0->J0->Sem J0}{C:Int->Int->Prop}[∀i j,Decidable (C i j)]{g:Int->Int->D}(hs:∀i j,bD (g i j)=true)(h:OpR X f (rI C λi j=>toV (g i j))):
  bY X f (iOp λi j=>if C i j then some (g i j)else none) :=
 bY.of h λH M x y dx dy dz Q hr r1 r2 e q=>by
  obtain⟨a,b,rfl,rfl,e'⟩:=nG e;clear e;have e:=e'
  by_cases hc:C a b
  ·rw[if_pos hc]at e;cases e;exact⟨a,b,fT r1,fT r2,hc,q _ _ (Ext.refl _ _) hr (sA (hs a b))⟩
  ·rw[if_neg hc]at e;cases e
theorem nQ{f:J0->J0->Sem J0}{g:Int->Int->D}(hs:∀i j,bD (g i j)=true)(h:OpR X f (rI0 λi j=>toV (g i j))):
  bY X f (iOp λi j=>some (g i j)) :=
 bY.of h λH M x y dx dy dz Q hr r1 r2 e q=>by
  obtain⟨a,b,rfl,rfl,e⟩:=nG e;cases e;exact⟨a,b,fT r1,fT r2,q _ _ (Ext.refl _ _) hr (sA (hs a b))⟩
instance:∀i j,Decidable (qE i j):=λi j=>by unfold qE;exact inferInstance
instance:∀i j,Decidable (lb i j):=λi j=>by unfold lb;exact inferInstance
instance:∀i j,Decidable (ox i j):=λi j=>by unfold ox;exact inferInstance
theorem Cw:bY X (Z9 .Sub) (iOp λi j=>some (.int (i-j))):=nQ (λ_ _=>rfl) CU
theorem D9:bY X (Z9 .Mult) (iOp λi j=>if lb i j then some (.int (i*j))else none):=vR (λ_ _=>rfl) Da
theorem eA:bY X (Z9 .FloorDiv) (iOp λi j=>if qE i j then some (.int (i / j))else none):=vR (λ_ _=>rfl) AL
theorem bH:bY X (Z9 .Mod) (iOp λi j=>if 0<j then some (.int (i % j))else none):=vR (C:=λ_ j=>0<j) (λ_ _=>rfl) De
theorem v4:bY X (Z9 .Pow) (iOp λi j=>if ox i j then some (.int (i ^ j.toNat))else none):=vR (λ_ _=>rfl) Dk
theorem kE:bY X (Q0 .Lt) (iOp λi j=>some (.bl (decide (i<j)))):=nQ (λ_ _=>rfl) Gc
theorem j3:bY X (Q0 .LtE) (iOp λi j=>some (.bl (decide (i<=j)))):=nQ (λ_ _=>rfl) EZ
theorem DJ:bY X (Q0 .Gt) (iOp λi j=>some (.bl (decide (j<i)))):=nQ (λ_ _=>rfl) ET
theorem FQ:bY X (Q0 .GtE) (iOp λi j=>some (.bl (decide (j<=i)))):=nQ (λ_ _=>rfl) FB
theorem aq.at_{K:H0}{M:DH}{H:Hp}{ds:List D}{vs:List V}{i:Int}{d:D}(h:aq K M H ds vs)(e:atI ds i=some d):∃v,atI vs i=some v/\Rep K M H d v:=by
 unfold atI at e ⊢;rw[<-h.length];cases q:ixN ds.length i with
 |none=>rw[q]at e;cases e
 |some j =>
  rw[q]at e;have e':ds[j]?=some d:=e;obtain⟨v,a,b⟩:=h.get e';exact⟨v,a,b⟩
def ixD:D->D->Option D
 |.tup ds,.int i=>atI ds i
 |.lst ds,.int i=>atI ds i
 |.scr ds,.int i=>atI ds i
 |.str z,.int i=>if z.length<=J7 then(atI z.cps.toList i).map λc=>.str ⟨#[c]⟩else none
 |_,_=>none
theorem aD:IxR X (opV X.K ixD):=by
 intro value slice af s σ H x y v u Q I rx ry h hs;obtain⟨dx,dy,dz,M,hr,r1,r2,e,k⟩:=h;cases dx with
 |tup ds =>
  cases dy with
  |int i =>
   obtain⟨a,vs,rfl,sq,rl⟩:=r1;obtain⟨w,e2,rw_⟩:=rl.at_ e;exact CM value slice af s σ H _ _ v u Q I rx ry ⟨a,vs,i,w,rfl,fT r2,sq,e2,k w H (Ext.refl _ _) hr rw_⟩ hs
  |_=>cases e
 |lst ds =>
  cases dy with
  |int i =>
   obtain⟨a,vs,rfl,sq,rl⟩:=r1;obtain⟨w,e2,rw_⟩:=rl.at_ e;exact vJ value slice af s σ H _ _ v u Q I rx ry ⟨a,vs,i,w,rfl,fT r2,SqL.of sq,e2,k w H (Ext.refl _ _) hr rw_⟩ hs
  |_=>cases e
 |scr ds =>
  cases dy with
  |int i =>
   obtain⟨a,vs,rfl,sq,rl⟩:=r1;obtain⟨w,e2,rw_⟩:=rl.at_ e;exact vJ value slice af s σ H _ _ v u Q I rx ry ⟨a,vs,i,w,rfl,fT r2,sq,e2,k w H (Ext.refl _ _) hr rw_⟩ hs
  |_=>cases e
 |str z =>
  cases dy with
  |int i =>
   simp only[ixD]at e
   by_cases hz:z.length<=J7
   ·rw[if_pos hz]at e;cases q:atI z.cps.toList i with
    |none=>rw[q]at e;cases e
    |some c =>
     rw[q]at e;cases e;exact Dl value slice af s σ H _ _ v u Q I rx ry ⟨z,i,c,oy r1,fT r2,hz,q,k _ H (Ext.refl _ _) hr (by simp[Rep])⟩ hs
   ·rw[if_neg hz]at e;cases e
  |_=>cases e
 |_=>cases e
noncomputable def qf:D->D->Option D
 |.int a,.int b=>some (.int (a+b))
 |.str a,.str b=>if a.length+b.length<=J7 then some (.str (a++b))else none
 |.lst a,.lst b=>if a.length+b.length<=J7 then some (.lst (a++b))else none
 |.tup a,.tup b=>if a.length+b.length<=J7 then some (.tup (a++b))else none
 |_,_=>none
theorem ft{K:H0}{M:DH}{H:Hp}{p:K4}{ds:List D}{vs:List V}{Q:VK}(hr:HR K M H)(hp:H p=none)(r:aq K M H ds vs)(q:∀w H',Ext M H M H'->HR K M H'->Rep K M H' (.lst ds) w->Q w H'):Q (.ref p) (upd H p (.lst vs)) :=
 q _ _ (Ext.new hr hp) (hr.new hp) (by simp only[Rep];exact⟨p,vs,rfl,⟨bx,hr.fresh hp⟩,r.ext (Ext.new hr hp)⟩)
theorem oa{K:H0}{M:DH}{H:Hp}{p:K4}{ds:List D}{vs:List V}{Q:VK}(hr:HR K M H)(hp:H p=none)(r:aq K M H ds vs)(q:∀w H',Ext M H M H'->HR K M H'->Rep K M H' (.tup ds) w->Q w H'):Q (.ref p) (upd H p (.tup vs)) :=
 q _ _ (Ext.new hr hp) (hr.new hp) (by simp only[Rep];exact⟨p,vs,rfl,.inl ⟨.inl bx,hr.fresh hp⟩,r.ext (Ext.new hr hp)⟩)
theorem aX.tup{K:H0}{M:DH}{H:Hp}{ds:List D}{v:V}(hr:HR K M H)(h:aX K M H (.tup ds) v):Rep K M H (.tup ds) v:=by
 obtain⟨a,vs,rfl,sq,rl⟩:=h;simp only[Rep];refine⟨a,vs,rfl,?_,rl⟩;rcases sq with r|k
 ·refine .inl ⟨r,?_⟩;cases q:M a with
  |none=>rfl
  |some o =>
   obtain⟨u,z,m⟩:=(hr a _ q).some;rcases r with r|⟨ob,r⟩
   ·rw[z]at r;exact absurd (R7 r) (m _).1
   ·rw[z]at r;exact absurd (R7 r) ((m _).2 ob)
 ·exact .inr (.inr k)
theorem zt{prog:N4}{w:S2}{A:P5}{E:J0->J4->Prop}{s:J4}{t b:K4}{ws:List J0}{Q:J0->J4->Prop}(ht:ak1 s.heap t ([]:List J0).toArray)(hb:ak1 s.heap b ws.toArray)
  (h:Q (.ref b) s):L3 (N9 prog w) A (Z9 .Add (.ref t) (.ref b)) Q E s:=by
 obtain⟨⟨cls,dd,data,sl⟩,ho,hc,n,hd⟩:=id ht;obtain⟨⟨cls2,dd2,data2,sl2⟩,ho2,hc2,n2,hd2⟩:=id hb;simp only at hc hd hc2 hd2;subst hc hd hc2 hd2;exact concat_meets ⟨_,ho,rfl⟩ ⟨_,ho2,rfl⟩ noFill_tuple_add seq_tuple_add PySem.F.slot_tuple_add PySem.F.entry_tuple_add (PySem.F.args_tuple_add_2 _ _)
   (tuple_addW0 t b ([]:List J0).toArray ws.toArray n n2 dd dd2 sl sl2 (by simp)) ⟨ho,ho2,h⟩
theorem aI:bY X (Z9 .Add) qf:=by
 intro af s σ H M x y v u dx dy dz Q I hr rx ry r1 r2 e k;cases dx with
 |int a =>
  cases dy with
  |int b =>
   cases e;exact DU af s σ H x y v u Q I rx ry ⟨a,b,fT r1,fT r2,k _ H (Ext.refl _ _) hr (by simp[Rep])⟩
  |_=>cases e
 |str a =>
  cases dy with
  |str b =>
   simp only[qf]at e
   by_cases hz:a.length+b.length<=J7
   ·rw[if_pos hz]at e;cases e;exact uw af s σ H x y v u Q I rx ry ⟨a,b,oy r1,oy r2,hz,k _ H (Ext.refl _ _) hr (by simp[Rep])⟩
   ·rw[if_neg hz]at e;cases e
  |_=>cases e
 |lst a =>
  cases dy with
  |lst b =>
   simp only[qf]at e
   by_cases hz:a.length+b.length<=J7
   ·rw[if_pos hz]at e;cases e;obtain⟨l1,vs,rfl,h1,l1r⟩:=r1;obtain⟨l2,ws,rfl,h2,l2r⟩:=r2;exact yk af s σ H _ _ v u Q I rx ry ⟨l1,l2,vs,ws,rfl,rfl,h1,h2,by rw[<-l1r.length,<-l2r.length];exact hz,λp hp=>ft hr hp (l1r.append l2r) k⟩
   ·rw[if_neg hz]at e;cases e
  |_=>cases e
 |tup a =>
  cases dy with
  |tup b =>
   simp only[qf]at e
   by_cases hz:a.length+b.length<=J7
   ·rw[if_pos hz]at e;cases e;have t1:=aX.tup hr r1;have t2:=aX.tup hr r2;obtain⟨l1,vs,rfl,h1,l1r⟩:=r1;obtain⟨l2,ws,rfl,h2,l2r⟩:=r2
    by_cases hv:vs=[]
    ·subst hv;have ea:a=[]:=by
      have:=l1r.length;cases a with
      |nil=>rfl
      |cons _ _=>simp at this
     subst ea;cases rx;cases ry;obtain⟨its,q1,p1,_⟩:=I.tuple h1;obtain⟨its2,q2,p2,_⟩:=I.tuple h2;cases q1;exact zt p1 p2 ⟨.ref l2,H,I,rfl,k _ H (Ext.refl _ _) hr t2⟩
    ·refine Af af s σ H _ _ v u Q I rx ry ⟨l1,l2,vs,ws,rfl,rfl,h1,h2,hv,by rw[<-l1r.length,<-l2r.length];exact hz,λhw=>?_,λ_ p hp=>oa hr hp (l1r.append l2r) k⟩;subst hw;have eb:b=[]:=by
      have:=l2r.length;cases b with
      |nil=>rfl
      |cons _ _=>simp at this
     subst eb;rw[ad1]at k;exact k _ H (Ext.refl _ _) hr t1
   ·rw[if_neg hz]at e;cases e
  |_=>cases e
 |_=>cases e
mutual
def eqD:D->D->Bool
 |.non,.non=>true
 |.bl a,.bl b=>a==b
 |.bl a,.int b=>(if a then 1 else 0)==b
 |.int a,.bl b=>a==(if b then 1 else 0)
 |.int a,.int b=>a==b
 |.str a,.str b=>a==b
 |.tup a,.tup b=>cX a b
 |.lst a,.lst b=>cX a b
 |_,_=>false
def cX:List D->List D->Bool
 |[],[]=>true
 |a::as,b::bs=>eqD a b&&cX as bs
 |_,_=>false
end
mutual
def dLe:D->Nat->Bool
 |.tup _,0=>false
 |.tup ds,n+1=>cm ds n
 |.lst _,0=>false
 |.lst ds,n+1=>cm ds n
 |.scr _,_=>false
 |.emp,_=>false
 |.box _ _,_=>false
 |.ref _,_=>false
 |_,_=>true
def cm:List D->Nat->Bool
 |[],_=>true
 |d::ds,n=>dLe d n&&cm ds n
end
theorem fM:∀{ds:List D}{n i:Nat}{d:D},cm ds n=true->ds[i]?=some d->dLe d n=true
 |[],_,_,_,_,e=>by simp at e
 |d::ds,n,0,x,h,e=>by
  simp only[cm,N1]at h;simp at e;subst e;exact h.1
 |d::ds,n,i+1,x,h,e=>by
  simp only[cm,N1]at h;exact fM h.2 (by simpa using e)
theorem nL:∀{ds:List D}{n:Nat},cm ds n=true↔∀d∈ds,dLe d n=true
 |[],n=>by simp[cm]
 |d::ds,n=>by simp[cm,nL (ds:=ds)]
def eqN(ds es:List D)(j:Nat):Bool:=match ds[j]?,es[j]? with|some a,some b=>eqD a b|_,_=>false
theorem tP:∀{ds es:List D},cX ds es=true->ds.length=es.length
 |[],[],_=>rfl
 |[],_::_,h=>by simp[cX]at h
 |_::_,[],h=>by simp[cX]at h
 |_::ds,_::es,h=>by
  simp only[cX,N1]at h;simp[tP h.2]
theorem mD:∀{ds es:List D},cX ds es=((O2 (min ds.length es.length)).all (eqN ds es)&&ds.length==es.length)
 |[],[]=>by simp[cX]
 |[],_::_=>by simp[cX]
 |_::_,[]=>by simp[cX]
 |a::ds,b::es=>by
  have ih:=@mD ds es;simp only[cX,O3,Nat.add_min_add_right,List.range_succ_eq_map,ac1,V9];have e0:eqN (a::ds) (b::es) 0=eqD a b:=by simp[eqN]
  have e1:(eqN (a::ds) (b::es))∘Nat.succ=eqN ds es:=by
   funext j;simp[eqN]
  rw[e0,e1,ih];have e2:(ds.length+1==es.length+1)=(ds.length==es.length):=by
   rw[Q4];simp
  rw[e2,Bool.and_assoc]
theorem xm{ds es:List D}(h:ds.length=es.length):cX ds es=(O2 ds.length).all (eqN ds es):=by
 rw[mD,<-h,Nat.min_self];simp
theorem Rep.r{K:H0}{M:DH}{H:Hp}{d:D}{v:V}(h:Rep K M H d v):aX K M H d v:=by
 cases d with
 |tup ds=>simp only[Rep]at h;obtain⟨a,vs,e,t,r⟩:=h;exact⟨a,vs,e,t.sq,r⟩
 |lst ds=>simp only[Rep]at h;obtain⟨a,vs,e,t,r⟩:=h;exact⟨a,vs,e,t.1,r⟩
 |scr ds=>simp only[Rep]at h;obtain⟨a,vs,e,t,r⟩:=h;exact⟨a,vs,e,t.sq,r⟩
 |_=>exact h
theorem Ci{af:List (K4×Obj)}{σ:St}{H:Hp}{s:J4}{a:K4}{vs ws:List V}(I:Inv X af σ H s)(h:SqT X.K H a vs)(h':H a=some (.lst ws)):False:=by
 obtain⟨its,r,⟨o,e,c,n,d⟩,_⟩:=I.tuple h;obtain⟨_,its',n',_,e'⟩:=I.hok a _ h';rw[e]at e';cases e';exact absurd (show al0 "list"=al0 "tuple" from c) (by decide)
theorem zU{af:List (K4×Obj)}{σ:St}{H:Hp}{s:J4}(I:Inv X af σ H s){M M':DH}:∀(n:Nat) {d e:D}{v:V},dLe d n=true->dLe e n=true->aX X.K M H d v->aX X.K M' H e v->eqD d e=true:=by
  intro n
  induction n with
  | zero =>
    intro d e v hd he r1 r2;cases d<;>first|(simp[dLe]at hd;done)|skip
    all_goals cases e<;>first|(simp[dLe]at he;done)|skip
    all_goals (simp only[aX,Rep]at r1 r2;subst r1;first|(cases r2;simp[eqD];done)|cases r2)
  | succ n ih =>
    intro d e v hd he r1 r2;have lists:∀{ds es:List D} {vs:List V},cm ds n=true->cm es n=true->aq X.K M H ds vs->aq X.K M' H es vs->cX ds es=true:=by
      intro ds
      induction ds with
      | nil =>
        intro es vs _ _ h1 h2;simp only[aq]at h1;subst h1;cases es with
        |nil=>simp[cX]
        |cons _ _=>simp[aq]at h2
      | cons a ds ihl =>
        intro es vs d1 d2 h1 h2;simp only[aq]at h1;obtain⟨v,ws,rfl,h3,h4⟩:=h1;cases es with
        |nil=>simp[aq]at h2
        | cons b es =>
          simp only[aq]at h2;obtain⟨v',ws',e',h5,h6⟩:=h2;cases e';simp only[cm,N1]at d1 d2;simp only[cX,N1];exact⟨ih d1.1 d2.1 h3.r h5.r,ihl d1.2 d2.2 h4 h6⟩
    cases d with
    | tup ds =>
      obtain⟨a,vs,rfl,sq,rl⟩:=r1;cases e with
      | tup es =>
        obtain⟨b,ws,e',sq',rl'⟩:=r2;cases e';have:=I.tuple_inj sq sq';subst this;simp only[eqD];exact lists (by simpa[dLe]using hd) (by simpa[dLe]using he) rl rl'
      | lst es =>
        obtain⟨b,ws,e',sq',rl'⟩:=r2;cases e';exact(Ci I sq sq').elim
      |_=>first|(simp[dLe]at he;done)|(simp only[aX,Rep]at r2;cases r2)
    | lst ds =>
      obtain⟨a,vs,rfl,sq,rl⟩:=r1;cases e with
      | lst es =>
        obtain⟨b,ws,e',sq',rl'⟩:=r2;cases e';rw[sq]at sq';cases sq';simp only[eqD];exact lists (by simpa[dLe]using hd) (by simpa[dLe]using he) rl rl'
      | tup es =>
        obtain⟨b,ws,e',sq',rl'⟩:=r2;cases e';exact(Ci I sq' sq).elim
      |_=>first|(simp[dLe]at he;done)|(simp only[aX,Rep]at r2;cases r2)
    | _ =>
      first
      |(simp[dLe]at hd;done)
      | (cases e with
         |tup es=>(obtain⟨b,ws,e',sq',rl'⟩:=r2;subst e';simp only[aX,Rep]at r1;cases r1)
         |lst es=>(obtain⟨b,ws,e',sq',rl'⟩:=r2;subst e';simp only[aX,Rep]at r1;cases r1)
         |_=>first|(simp[dLe]at he;done)|(simp only[aX,Rep]at r1 r2;subst r1;first|(cases r2;simp[eqD];done)|cases r2))
theorem aX.at{K:H0}{M:DH}{H:Hp}{d:D}{v:V}{u:J0}(r:aX K M H d v)(q:aL v u):match d with|.non=>u=.none|.bl b=>u=.bool b|.int i=>∃t,u=.int i t|.str x=>∃t,u=.str x t|_=>True:=by
 cases d<;>first|trivial|(simp only[aX,Rep]at r;subst r;exact q)
open PySem.SeqAt in
theorem mK{af:List (K4×Obj)}{σ:St}{H:Hp}{s:J4}(I:Inv X af σ H s){M M':DH}:∀(n:Nat) {A:P5}{d e:D}{v w:V}{u1 u2:J0},A.units+n<ac8->dLe d n=true->dLe e n=true ->
  aX X.K M H d v->aX X.K M' H e w->aL v u1->aL w u2->EqAt A s u1 u2 (eqD d e)/\RcAt A s u1 u2 (eqD d e)/\RcNeAt A s u1 u2 (!(eqD d e)):=by
 intro n
 induction n with
 |zero =>
  intro A d e v w u1 u2 hu hd he r1 r2 q1 q2;have hu0:A.units<ac8:=by lia
  cases d<;>first|(simp[dLe]at hd;done)|skip
  all_goals cases e<;>first|(simp[dLe]at he;done)|skip
  all_goals simp only[aX,Rep]at r1 r2
  all_goals subst r1
  all_goals subst r2
  all_goals simp only[aL]at q1 q2
  all_goals first|(obtain⟨t1,rfl⟩:=q1)|subst q1
  all_goals first|(obtain⟨t2,rfl⟩:=q2)|subst q2
  all_goals simp only[eqD]
  ·exact⟨EqAt.same _,RcAt.none_none,RcNeAt.none_none⟩
  ·exact⟨EqAt.none_bool _,RcAt.none_bool _,RcNeAt.none_bool _⟩
  ·exact⟨EqAt.none_int _ _,RcAt.none_int _ _,RcNeAt.none_int _ _⟩
  ·exact⟨EqAt.none_str _ _,RcAt.none_str _ _,RcNeAt.none_str _ _⟩
  ·exact⟨EqAt.bool_none _,RcAt.bool_none _,RcNeAt.bool_none _⟩
  ·exact⟨EqAt.bool_bool _ _,RcAt.bool_bool _ _,RcNeAt.bool_bool _ _⟩
  ·exact⟨EqAt.bool_int _ _ _,RcAt.bool_int _ _ _,RcNeAt.bool_int _ _ _⟩
  ·exact⟨EqAt.bool_str _ _ _,RcAt.bool_str _ _ _,RcNeAt.bool_str _ _ _⟩
  ·exact⟨EqAt.int_none _ _,RcAt.int_none _ _,RcNeAt.int_none _ _⟩
  ·exact⟨EqAt.int_bool _ _ _,RcAt.int_bool _ _ _,RcNeAt.int_bool _ _ _⟩
  ·exact⟨EqAt.int_int _ _ _ _,RcAt.int_int _ _ _ _,RcNeAt.int_int _ _ _ _⟩
  ·exact⟨EqAt.int_str _ _ _ _,RcAt.int_str _ _ _ _,RcNeAt.int_str _ _ _ _⟩
  ·exact⟨EqAt.str_none _ _,RcAt.str_none _ _,RcNeAt.str_none _ _⟩
  ·exact⟨EqAt.str_bool _ _ _,RcAt.str_bool _ _ _,RcNeAt.str_bool _ _ _⟩
  ·exact⟨EqAt.str_int _ _ _ _,RcAt.str_int _ _ _ _,RcNeAt.str_int _ _ _ _⟩
  ·exact⟨EqAt.str_str _ _ _ _,RcAt.str_str _ _ _ _,RcNeAt.str_str _ _ _ _⟩
 |succ n ih =>
  intro A d e v w u1 u2 hu hd he r1 r2 q1 q2;have hu0:A.units<ac8:=by lia
  have hu1:A.in1.units+n<ac8:=by show A.units+1+n<ac8;lia
  have item:∀{ds es:List D} {vs ws:List V} {us us2:List J0},cm ds n=true->cm es n=true->aq X.K M H ds vs->aq X.K M' H es ws->ay vs us->ay ws us2 ->
    ∀j (h1:j<us.toArray.size) (h2:j<us2.toArray.size),EqAt A.in1 s us.toArray[j] us2.toArray[j] (eqN ds es j):=by
   intro ds es vs ws us us2 d1 d2 h1 h2 h3 h4 j hj1 hj2;have l1:=h1.length;have l2:=h2.length;have l3:=h3.length;have l4:=h4.length;have j1:j<ds.length:=by simp at hj1;lia
   have j2:j<es.length:=by simp at hj2;lia
   obtain⟨v1,g1,p1⟩:=h1.get (i:=j) (d:=ds[j]) (by simp[j1]);obtain⟨v2,g2,p2⟩:=h2.get (i:=j) (d:=es[j]) (by simp[j2]);obtain⟨u1,k1,m1⟩:=h3.get g1;obtain⟨u2,k2,m2⟩:=h4.get g2;have e1:us.toArray[j]=u1:=by
    simp at hj1;simpa[J1 hj1]using k1
   have e2:us2.toArray[j]=u2:=by
    simp at hj2;simpa[J1 hj2]using k2
   rw[e1,e2];have e3:eqN ds es j=eqD ds[j] es[j]:=by simp[eqN,j1,j2]
   rw[e3];exact(ih hu1 (fM d1 (i:=j) (by simp[j1])) (fM d2 (i:=j) (by simp[j2])) p1.r p2.r m1 m2).1
  have both:∀{a b:K4},v=.ref a->w=.ref b->RcAt A s (.ref a) (.ref b) (eqD d e)->EqAt A s (.ref a) (.ref b) (eqD d e):=by
   intro a b ea eb rc
   by_cases hab:a=b
   ·subst hab;subst ea;subst eb;rw[zU I (n+1) hd he r1 r2];exact EqAt.same _
   ·exact EqAt.of_refs hab rc
  cases d with
  |tup ds =>
   obtain⟨a,vs,rfl,sq,rl⟩:=id r1;cases q1;obtain⟨its,rv,pt,_⟩:=I.tuple sq;have hd':cm ds n=true:=by simpa[dLe]using hd
   cases e with
   |tup es =>
    obtain⟨b,ws,rfl,sq',rl'⟩:=id r2;cases q2;obtain⟨its2,rv2,pt2,_⟩:=I.tuple sq';have he':cm es n=true:=by simpa[dLe]using he
    have it:=item hd' he' rl rl' rv rv2;have t1:=RcAt.tuples (e:=eqN ds es) pt pt2 hu0 it;have t2:=RcNeAt.tuples (e:=eqN ds es) pt pt2 hu0 it;rw[J8,J8,<-rv.length,<-rv2.length,<-rl.length,<-rl'.length,<-mD]at t1 t2;have rc:RcAt A s (.ref a) (.ref b) (eqD (.tup ds) (.tup es)):=by simpa only[eqD]using t1
    exact⟨both rfl rfl rc,rc,by simpa only[eqD]using t2⟩
   |lst es =>
    obtain⟨b,ws,rfl,sq',rl'⟩:=id r2;cases q2;obtain⟨its2,rv2,pt2,_⟩:=I.list (SqL.of sq');simp only[eqD];exact⟨EqAt.tuple_list pt pt2.isList hu0,RcAt.tuple_list pt pt2.isList hu0,RcNeAt.tuple_list pt pt2.isList hu0⟩
   |non=>obtain rfl:=r2.at q2;simp only[eqD];exact⟨EqAt.tuple_none pt hu0,RcAt.tuple_none pt hu0,RcNeAt.tuple_none pt hu0⟩
   |bl b=>obtain rfl:=r2.at q2;simp only[eqD];exact⟨EqAt.tuple_bool _ pt hu0,RcAt.tuple_bool _ pt hu0,RcNeAt.tuple_bool _ pt hu0⟩
   |int b=>obtain⟨t,rfl⟩:=r2.at q2;simp only[eqD];exact⟨EqAt.tuple_int _ _ pt hu0,RcAt.tuple_int _ _ pt hu0,RcNeAt.tuple_int _ _ pt hu0⟩
   |str b=>obtain⟨t,rfl⟩:=r2.at q2;simp only[eqD];exact⟨EqAt.tuple_str _ _ pt hu0,RcAt.tuple_str _ _ pt hu0,RcNeAt.tuple_str _ _ pt hu0⟩
   |_=>simp[dLe]at he
  |lst ds =>
   obtain⟨a,vs,rfl,sq,rl⟩:=id r1;cases q1;obtain⟨its,rv,pt,_⟩:=I.list (SqL.of sq);have hd':cm ds n=true:=by simpa[dLe]using hd
   cases e with
   |lst es =>
    obtain⟨b,ws,rfl,sq',rl'⟩:=id r2;cases q2;obtain⟨its2,rv2,pt2,_⟩:=I.list (SqL.of sq');have he':cm es n=true:=by simpa[dLe]using he
    have hs:its.toArray.size=ds.length/\its2.toArray.size=es.length:=by rw[J8,J8,<-rv.length,<-rv2.length,<-rl.length,<-rl'.length];exact⟨rfl,rfl⟩
    have rc:RcAt A s (.ref a) (.ref b) (eqD (.lst ds) (.lst es))/\RcNeAt A s (.ref a) (.ref b) (!(eqD (.lst ds) (.lst es))):=by
     by_cases hl:ds.length=es.length
     ·have hsz:its.toArray.size=its2.toArray.size:=by rw[hs.1,hs.2];exact hl
      have it:=item hd' he' rl rl' rv rv2;have t1:=RcAt.lists (e:=eqN ds es) pt.isList pt2.isList hsz hu0 it;have t2:=RcNeAt.lists (e:=eqN ds es) pt.isList pt2.isList hsz hu0 it;rw[hs.1,<-xm hl]at t1 t2;exact⟨by simpa only[eqD]using t1,by simpa only[eqD]using t2⟩
     ·have hsz:(its.toArray.size != its2.toArray.size)=true:=by rw[hs.1,hs.2];simpa using hl
      have e0:eqD (.lst ds) (.lst es)=false:=by
       simp only[eqD];cases q:cX ds es with
       |false=>rfl
       |true=>exact absurd (tP q) hl
      rw[e0];exact⟨RcAt.lists_lengths pt.isList pt2.isList hsz hu0,RcNeAt.lists_lengths pt.isList pt2.isList hsz hu0⟩
    exact⟨both rfl rfl rc.1,rc⟩
   |tup es =>
    obtain⟨b,ws,rfl,sq',rl'⟩:=id r2;cases q2;obtain⟨its2,rv2,pt2,_⟩:=I.tuple sq';simp only[eqD];exact⟨EqAt.list_tuple pt.isList pt2 hu0,RcAt.list_tuple pt.isList pt2 hu0,RcNeAt.list_tuple pt.isList pt2 hu0⟩
   |non=>obtain rfl:=r2.at q2;simp only[eqD];exact⟨EqAt.list_none pt.isList hu0,RcAt.list_none pt.isList hu0,RcNeAt.list_none pt.isList hu0⟩
   |bl b=>obtain rfl:=r2.at q2;simp only[eqD];exact⟨EqAt.list_bool _ pt.isList hu0,RcAt.list_bool _ pt.isList hu0,RcNeAt.list_bool _ pt.isList hu0⟩
   |int b=>obtain⟨t,rfl⟩:=r2.at q2;simp only[eqD];exact⟨EqAt.list_int _ _ pt.isList hu0,RcAt.list_int _ _ pt.isList hu0,RcNeAt.list_int _ _ pt.isList hu0⟩
   |str b=>obtain⟨t,rfl⟩:=r2.at q2;simp only[eqD];exact⟨EqAt.list_str _ _ pt.isList hu0,RcAt.list_str _ _ pt.isList hu0,RcNeAt.list_str _ _ pt.isList hu0⟩
   |_=>simp[dLe]at he
  |non =>
   cases e with
   |tup es =>
    obtain⟨b,ws,rfl,sq',rl'⟩:=id r2;cases q2;obtain⟨its2,rv2,pt2,_⟩:=I.tuple sq';obtain rfl:=r1.at q1;simp only[eqD];exact⟨EqAt.none_tuple pt2 hu0,RcAt.none_tuple pt2 hu0,RcNeAt.none_tuple pt2 hu0⟩
   |lst es =>
    obtain⟨b,ws,rfl,sq',rl'⟩:=id r2;cases q2;obtain⟨its2,rv2,pt2,_⟩:=I.list (SqL.of sq');obtain rfl:=r1.at q1;simp only[eqD];exact⟨EqAt.none_list pt2.isList hu0,RcAt.none_list pt2.isList hu0,RcNeAt.none_list pt2.isList hu0⟩
   |_=>first|(simp[dLe]at he;done)|exact ih (A:=A) (by lia) (by simp[dLe]) (by simp[dLe]) r1 r2 q1 q2
  |bl a =>
   cases e with
   |tup es =>
    obtain⟨b,ws,rfl,sq',rl'⟩:=id r2;cases q2;obtain⟨its2,rv2,pt2,_⟩:=I.tuple sq';obtain rfl:=r1.at q1;simp only[eqD];exact⟨EqAt.bool_tuple _ pt2 hu0,RcAt.bool_tuple _ pt2 hu0,RcNeAt.bool_tuple _ pt2 hu0⟩
   |lst es =>
    obtain⟨b,ws,rfl,sq',rl'⟩:=id r2;cases q2;obtain⟨its2,rv2,pt2,_⟩:=I.list (SqL.of sq');obtain rfl:=r1.at q1;simp only[eqD];exact⟨EqAt.bool_list _ pt2.isList hu0,RcAt.bool_list _ pt2.isList hu0,RcNeAt.bool_list _ pt2.isList hu0⟩
   |_=>first|(simp[dLe]at he;done)|exact ih (A:=A) (by lia) (by simp[dLe]) (by simp[dLe]) r1 r2 q1 q2
  |int a =>
   cases e with
   |tup es =>
    obtain⟨b,ws,rfl,sq',rl'⟩:=id r2;cases q2;obtain⟨its2,rv2,pt2,_⟩:=I.tuple sq';obtain⟨t,rfl⟩:=r1.at q1;simp only[eqD];exact⟨EqAt.int_tuple _ _ pt2 hu0,RcAt.int_tuple _ _ pt2 hu0,RcNeAt.int_tuple _ _ pt2 hu0⟩
   |lst es =>
    obtain⟨b,ws,rfl,sq',rl'⟩:=id r2;cases q2;obtain⟨its2,rv2,pt2,_⟩:=I.list (SqL.of sq');obtain⟨t,rfl⟩:=r1.at q1;simp only[eqD];exact⟨EqAt.int_list _ _ pt2.isList hu0,RcAt.int_list _ _ pt2.isList hu0,RcNeAt.int_list _ _ pt2.isList hu0⟩
   |_=>first|(simp[dLe]at he;done)|exact ih (A:=A) (by lia) (by simp[dLe]) (by simp[dLe]) r1 r2 q1 q2
  |str a =>
   cases e with
   |tup es =>
    obtain⟨b,ws,rfl,sq',rl'⟩:=id r2;cases q2;obtain⟨its2,rv2,pt2,_⟩:=I.tuple sq';obtain⟨t,rfl⟩:=r1.at q1;simp only[eqD];exact⟨EqAt.str_tuple _ _ pt2 hu0,RcAt.str_tuple _ _ pt2 hu0,RcNeAt.str_tuple _ _ pt2 hu0⟩
   |lst es =>
    obtain⟨b,ws,rfl,sq',rl'⟩:=id r2;cases q2;obtain⟨its2,rv2,pt2,_⟩:=I.list (SqL.of sq');obtain⟨t,rfl⟩:=r1.at q1;simp only[eqD];exact⟨EqAt.str_list _ _ pt2.isList hu0,RcAt.str_list _ _ pt2.isList hu0,RcNeAt.str_list _ _ pt2.isList hu0⟩
   |_=>first|(simp[dLe]at he;done)|exact ih (A:=A) (by lia) (by simp[dLe]) (by simp[dLe]) r1 r2 q1 q2
  |_=>simp[dLe]at hd
end
section
variable{X:Cx}{a b c e:N8}{es:List N8}{te ta tb:TEd}{pos:Pos}{st:aa6}{rest:List aa6}{t u:TSd}
def xA:TSd:=λE Δ M=>E.nx Δ M
def DO(t u:TSd):TSd:=λE Δ M=>t { E with nx:=u E } Δ M
def EW(te:TEd):TSd:=λE Δ M=>te Δ M E.rt
def zI(te:TEd):TSd:=λE Δ M=>te Δ M λ_ M1=>E.nx Δ M1
def Dz(c:TTd)(t u:TSd):TSd:=λE Δ M=>c Δ M λb M1=>if b=true then t E Δ M1 else u E Δ M1
def yw(i:Nat)(te:TEd):TSd:=λE Δ M=>te Δ M λd M1=>E.nx (Δ.set i (some d)) M1
def FY(i:Nat)(te:TEd)(r:D->D->Option D):TSd:=λE Δ M=>∃x,Δ[i]?=some (some x)/\te Δ M λy M1=>∃z,r (rdM M1 x) (rdM M1 y)=some z/\E.nx (Δ.set i (some z)) M1
def xS(i:Nat)(t:TSd):TSd:=λE Δ M=>∃a ds,Δ[i]?=some (some (.ref a))/\M a=some (.lst ds)/\t E (Δ.set i (some (.lst ds))) (ny M a)
abbrev GD:=D->DE->Option DE
def PGd(X:Cx)(tg:N8)(g:GD):Prop:=∃gv:TG,PG X tg gv/\∀(d:D) (v:V) (σ:St) (Δ Δ':DE) (M:DH) (H:Hp) (Q:St->Hp->Prop),SR X.K M H σ Δ->HR X.K M H->Rep X.K M H d v->g d Δ=some Δ'->(∀ σ',SR X.K M H σ' Δ'->Q σ' H)->gv v σ H Q
def gg(i:Nat):GD:=λd Δ=>some (Δ.set i (some d))
theorem aZ{i:Nat}{x:Str}(hN:X.N.Nodup)(hi:X.N[i]?=some x)(hx:Loc X.env.scope x)(hf:X.fn x=true∨X.env.scope.names.lookup x=some .local:=by first|exact .inl rfl|exact .inr rfl|assumption):PGd X (.Name x pos) (gg i) :=
 ⟨rP i,vN hN hi hx hf,λd v σ Δ Δ' M H Q sr hr rv e k=>by cases e;exact k _ (sr.set i rv)⟩
abbrev GDs:=List D->DE->Option DE
def A9(X:Cx)(tgs:List N8)(g:GDs):Prop:=∃gv:TGs,PGs X tgs gv/\∀(ds:List D) (vs:List V) (σ:St) (Δ Δ':DE) (M:DH) (H:Hp) (Q:St->Hp->Prop),SR X.K M H σ Δ->HR X.K M H->aq X.K M H ds vs->g ds Δ=some Δ'->(∀ σ',SR X.K M H σ' Δ'->Q σ' H)->gv vs σ H Q
def sL:GDs:=λds Δ=>match ds with|[]=>some Δ|_=>none
def gX(g:GD)(gs:GDs):GDs:=λds Δ=>match ds with|[]=>none|d::r=>(g d Δ).bind λΔ1=>gs r Δ1
def nT(g:GDs)(n:Nat):GD:=λd Δ=>match d with|.tup ds=>if ds.length=n then g ds Δ else none|_=>none
theorem nB:A9 X [] sL:=⟨DZ,vO,λds vs σ Δ Δ' M H Q sr hr rv e k=>by
 cases ds with
 |nil=>simp only[aq]at rv;subst rv;cases e;exact⟨rfl,k _ sr⟩
 |cons _ _=>cases e⟩
theorem cO{tg:N8}{tgs:List N8}{g:GD}{gs:GDs}(h1:PGd X tg g)(h2:A9 X tgs gs)
  (hs:(Z8 (tg::tgs) X.env).map (·.2)=ao4 tg X.env::(Z8 tgs X.env).map (·.2):=by rfl):A9 X (tg::tgs) (gX g gs):=by
 obtain⟨g1,p1,k1⟩:=h1;obtain⟨g2,p2,k2⟩:=h2;refine⟨yl g1 g2,sV p1 p2 hs,λds vs σ Δ Δ' M H Q sr hr rv e k=>?_⟩;cases ds with
 |nil=>cases e
 |cons d r =>
  simp only[aq]at rv;obtain⟨v,ws,rfl,h3,h4⟩:=rv;simp only[gX]at e;cases q:g d Δ with
  |none=>rw[q]at e;cases e
  |some Δ1 =>
   rw[q]at e;exact⟨v,ws,rfl,k1 d v σ Δ Δ1 M H _ sr hr h3 q λσ1 sr1=>k2 r ws σ1 Δ1 Δ' M H Q sr1 hr h4 e k⟩
theorem mM{tgs:List N8}{kx:Nat}{g:GDs}{n:Nat}(hc:X.calm=true)(h:A9 X tgs g)(hn:(Z8 tgs X.env).length=n:=by rfl)(hst:(Z8 tgs X.env).findIdx? (·.1)=none:=by rfl):PGd X (.Tuple tgs kx pos) (nT g n):=by
 obtain⟨g1,p1,k1⟩:=h;refine⟨Dg X.K n g1,xO hc p1 hn hst,λd v σ Δ Δ' M H Q sr hr rv e k=>?_⟩;cases d with
 |tup ds =>
  simp only[nT]at e
  by_cases hl:ds.length=n
  ·rw[if_pos hl]at e;simp only[Rep]at rv;obtain⟨a,vs,rfl,ta,rl⟩:=rv;exact⟨a,vs,rfl,ta.sq,by rw[<-rl.length];exact hl,k1 ds vs σ Δ Δ' M H Q sr hr rl e k⟩
  ·rw[if_neg hl]at e;cases e
 |_=>cases e
def Gf(te:TEd)(g:GD):TSd:=λE Δ M=>te Δ M λd M1=>∃ Δ',g d Δ=some Δ'/\E.nx Δ' M1
abbrev TId:=DE->DH->(List D->DH->Prop)->Prop
def ItD(K:H0)(J:It)(ds:List D)(M1:DH)(H1:Hp):Prop:=∀M2 H2,Ext M1 H1 M2 H2->HR K M2 H2->∀i,(∀d,ds[i]?=some d->J.go i H2/\∀x H',J.yld i H2 x H'->Ext M2 H2 M2 H'/\HR K M2 H'/\Rep K M2 H' d x)/\(ds.length<=i->J.stop i H2)
def upI(K:H0)(wi:TId):TI:=λσ H R=>∃(Δ:DE) (M:DH) (R':List D->DH->Prop),SR K M H σ Δ/\HR K M H/\wi Δ M R'/\∀ds M1 J H1,R' ds M1->Ext M H M1 H1->HR K M1 H1->ItD K J ds M1 H1->R J H1
theorem upI.el{K:H0}{t:TId}{σ:St}{H:Hp}{Q:It->Hp->Prop}{P:Prop}(h:upI K t σ H Q)(f:∀(Δ:DE) (M:DH) (R:List D->DH->Prop),SR K M H σ Δ->HR K M H->t Δ M R->(∀ds M1 J H1,R ds M1->Ext M H M1 H1->HR K M1 H1->ItD K J ds M1 H1->Q J H1)->P):P:=by
 obtain⟨x1,x2,x3,a,b,c,d⟩:=h;exact f x1 x2 x3 a b c d
def PId(X:Cx)(tg iter:N8)(wi:TId):Prop:=PI X tg iter (upI X.K wi)
theorem PI.conv{tg iter:N8}{w w':TI}(h:PI X tg iter w)(k:∀ σ H R,w' σ H R->w σ H R):PI X tg iter w':=λp s σ H R I q=>h p s σ H R I (k σ H R q)
variable{tg iter:N8}
def jX(lo:Int)(n:Nat):List D:=(O2 n).map λ(k:Nat)=>.int (lo+(k:Int))
theorem b7{lo:Int}{n i:Nat}{d:D}(h:(jX lo n)[i]?=some d):i<n/\d=.int (lo+i):=by
 unfold jX at h;rw[L8]at h
 by_cases hi:i<n
 ·rw[List.getElem?_range hi]at h;cases h;exact⟨hi,rfl⟩
 ·rw[T4 (by simp;omega)]at h;cases h
theorem vo{K:H0}{lo:Int}{n:Nat}{M1:DH}{H1:Hp}:ItD K (Itr lo n) (jX lo n) M1 H1:=λM2 H2 e2 hr2 i=>⟨λd hd=>by
  obtain⟨h1,rfl⟩:=b7 hd;refine⟨h1,λx H' ⟨eH,y⟩=>?_⟩;subst eH;subst y;exact⟨Ext.refl _ _,hr2,by simp[Rep]⟩,λhl=>by
  show n<=i;simpa[jX]using hl⟩
def xU(ta:TAd):TId:=λΔ M R=>ta Δ M λds M1=>∃j:Int,ds=[.int j]/\-(2 ^ 62)<=j/\j<2 ^ 62/\R (jX 0 j.toNat) M1
def zf(ta:TAd):TId:=λΔ M R=>ta Δ M λds M1=>∃i j:Int,ds=[.int i,.int j]/\(-(2 ^ 62)<=i/\i<2 ^ 62/\-(2 ^ 62)<=j/\j<2 ^ 62)/\R (jX i (j-i).toNat) M1
def dh(g:GD)(tb:TSd)(E:gE):List D->DE->DH->Prop
 |[],Δ,M=>E.nx Δ M
 |d::ds,Δ,M=>∃ Δ',g d Δ=some Δ'/\tb { E with nx:=dh g tb E ds,ct:=dh g tb E ds,bk:=E.nx } Δ' M
def E2(wi:TId)(g:GD)(tb:TSd):TSd:=λE Δ M=>wi Δ M λds M1=>dh g tb E ds Δ M1
def yn(c:TTd)(tb:TSd):TSd:=λE Δ M=>∃W:Nat->DE->DH->Prop,(∃m,W m Δ M)/\∀m Δ M,W m Δ M->c Δ M λb M1=>if b=true then tb { E with nx:=λΔ' M'=>∃m',m'<m/\W m' Δ' M',ct:=λΔ' M'=>∃m',m'<m/\W m' Δ' M',bk:=E.nx } Δ M1 else E.nx Δ M1
end
def vB:D->Prop
 |.tup ds=>ds.length<=J7
 |.lst ds=>ds.length<=J7
 |.scr ds=>ds.length<=J7
 |_=>True
section
variable{X:Cx}{a b c e:N8}{es:List N8}{te ta tb:TEd}{pos:Pos}{tg iter elt:N8}
theorem aX.len{K:H0}{af:List (K4×Obj)}{σ:St}{H:Hp}{s:J4}{M:DH}{d:D}{v:V}(I:Inv X af σ H s)(h:Rep X.K M H d v):vB d:=by
 cases d with
 |tup ds =>
  simp only[Rep]at h;obtain⟨a,vs,e,t,r⟩:=h;obtain⟨_,_,_,z⟩:=I.tuple t.sq;simp only[vB];rw[r.length];exact z
 |lst ds =>
  simp only[Rep]at h;obtain⟨a,vs,e,t,r⟩:=h;obtain⟨_,_,_,z⟩:=I.list (SqL.of t.1);simp only[vB];rw[r.length];exact z
 |scr ds =>
  simp only[Rep]at h;obtain⟨a,vs,e,t,r⟩:=h;obtain⟨_,_,_,z⟩:=I.list t.sq;simp only[vB];rw[r.length];exact z
 |_=>trivial
noncomputable def cD:List Bool->DE->DE
 |true::ms,v::σ=>v::cD ms σ
 |false::ms,_::σ=>none::cD ms σ
 |[],_::σ=>none::cD [] σ
 |_,[]=>[]
def se(ms:List Bool)(k:Nat)(Δ:DE):DE:=cD ms Δ++M7 k none
theorem cW:∀(ms:List Bool) (σ:DE),(cD ms σ).length=σ.length
 |true::ms,v::σ=>by simp[cD,cW ms σ]
 |false::ms,_::σ=>by simp[cD,cW ms σ]
 |[],_::σ=>by simp[cD,cW [] σ]
 |[],[]=>by simp[cD]
 |true::_,[]=>by simp[cD]
 |false::_,[]=>by simp[cD]
theorem iT:∀{ms:List Bool}{σ:DE}{i:Nat}{v:D},(cD ms σ)[i]?=some (some v)->ms[i]?=some true/\σ[i]?=some (some v)
 |true::ms,v::σ,0,x,h=>by simpa[cD]using h
 |true::ms,v::σ,i+1,x,h=>by
  have:=iT (ms:=ms) (σ:=σ) (i:=i) (v:=x) (by simpa[cD]using h);simpa using this
 |false::ms,_::σ,0,x,h=>by simp[cD]at h
 |false::ms,_::σ,i+1,x,h=>by
  have:=iT (ms:=ms) (σ:=σ) (i:=i) (v:=x) (by simpa[cD]using h);simpa using this
 |[],_::σ,0,x,h=>by simp[cD]at h
 |[],_::σ,i+1,x,h=>by
  have:=iT (ms:=[]) (σ:=σ) (i:=i) (v:=x) (by simpa[cD]using h);simpa using this
 |[],[],_,_,h=>by simp[cD]at h
 |true::_,[],_,_,h=>by simp[cD]at h
 |false::_,[],_,_,h=>by simp[cD]at h
theorem ju:∀{ms:List Bool}{σ:St}{i:Nat}{v:V},ms[i]?=some true->σ[i]?=some (some v)->(bU ms σ)[i]?=some (some v)
 |true::ms,v::σ,0,x,h,h2=>by simpa[bU]using h2
 |true::ms,v::σ,i+1,x,h,h2=>by
  have:=ju (ms:=ms) (σ:=σ) (i:=i) (v:=x) (by simpa using h) (by simpa using h2);simpa[bU]using this
 |false::ms,_::σ,0,x,h,h2=>by simp at h
 |false::ms,_::σ,i+1,x,h,h2=>by
  have:=ju (ms:=ms) (σ:=σ) (i:=i) (v:=x) (by simpa using h) (by simpa using h2);simpa[bU]using this
 |[],_,_,_,h,_=>by simp at h
 |_::_,[],_,_,_,h=>by simp at h
theorem SR.comp{K:H0}{M:DH}{H:Hp}{σ:St}{Δ:DE}(ms:List Bool)(k:Nat)(h:SR K M H σ Δ):SR K M H (jf ms k σ) (se ms k Δ):=by
 refine⟨by simp[jf,se,bX,cW,h.1],λi d q=>?_⟩;unfold se at q
 by_cases hi:i<(cD ms Δ).length
 ·rw[P3 hi]at q;obtain⟨m,e⟩:=iT q;obtain⟨v,ev,rv⟩:=h.2 i d e;refine⟨v,?_,rv⟩;have:=ju m ev;unfold jf;rw[P3 (by rw[bX,h.1,<-cW ms];exact hi)];exact this
 ·rw[X5 (by lia),ae2]at q
  split at q<;>cases q
def cV(g:GD)(tc:TTd)(te:TEd):List D->DE->DH->List D->(List D->DH->Prop)->Prop
 |[],_,M,acc,Q=>Q acc M
 |d::ds,Δ,M,acc,Q=>∃ Δ',g d Δ=some Δ'/\tc Δ' M λb M1=>if b=true then te Δ' M1 λy M2=>cV g tc te ds Δ' M2 (acc++[y]) Q else cV g tc te ds Δ' M1 acc Q
def dLc(ms:List Bool)(k:Nat)(wi:TId)(g:GD)(tc:TTd)(te:TEd):TEd:=λΔ M Q=>wi Δ M λds M1=>ds.length<=J7/\cV g tc te ds (se ms k Δ) M1 [] λys M2=>Q (.lst ys) M2
def Gb(X:Cx)(ifs:List N8)(t:TTd):Prop:=PIf X ifs (upT X.K t)
def sE:TTd:=λ_ M Q=>Q true M
abbrev o6(K:H0)(g:GD)(gv:TG):Prop:=∀(d:D) (v:V) (σ:St) (Δ Δ':DE) (M:DH) (H:Hp) (Q:St->Hp->Prop),SR K M H σ Δ->HR K M H->Rep K M H d v->g d Δ=some Δ'->(∀ σ',SR K M H σ' Δ'->Q σ' H)->gv v σ H Q
theorem By{K:H0}{g:GD}{tc:TTd}{te:TEd}{gv:TG}(kg:o6 K g gv){J:It}{ds:List D}{M1:DH}{H1:Hp}(it:ItD K J ds M1 H1)(hr1:HR K M1 H1)(hz:ds.length<=J7){R:List D->DH->Prop}{σ:St}{Δ:DE}(sr:SR K M1 H1 σ Δ)(q:cV g tc te ds Δ M1 [] R):
  ∃(W:Nat->Nat->List V->St->Hp->Prop) (Z:List V->St->Hp->Prop),(∃m,W 0 m [] σ H1)/\kU J gv (upT K tc) (nW (up K te)) W Z/\∀ys σ' H',Z ys σ' H'->∃M' acc,Ext M1 H1 M' H'/\HR K M' H'/\aq K M' H' acc ys/\R acc M':=by
 refine⟨λi m ys σ' H'=>∃ Δ' M' acc,m=ds.length-i/\i<=ds.length/\Ext M1 H1 M' H'/\HR K M' H'/\SR K M' H' σ' Δ'/\aq K M' H' acc ys/\acc.length<=i/\cV g tc te (ds.drop i) Δ' M' acc R,_,
  ⟨ds.length,_,M1,[],by simp,Q5 _,Ext.refl _ _,hr1,sr,aq.nil,by simp,q⟩,?_,λ_ _ _ z=>z⟩
 rintro i m ys σ2 H2 ⟨Δ2,M2,acc,rfl,hi2,e2,hr2,sr2,ra,la,f2⟩;have hl:ys.length<=J7:=by rw[<-ra.length];lia
 refine⟨hl,?_⟩;obtain⟨go,stop⟩:=it M2 H2 e2 hr2 i
 by_cases hlt:i<ds.length
 ·have hd:ds[i]?=some ds[i]:=by simp[hlt]
  obtain⟨g1,y1⟩:=go _ hd;rw[Z6 hlt]at f2;simp only[cV]at f2;obtain⟨Δ3,eg,f3⟩:=f2;refine .inr ⟨g1,λx H' hy=>?_⟩;obtain⟨e3,hr3,rx⟩:=y1 x H' hy;refine kg _ x σ2 Δ2 Δ3 M2 H' _ (sr2.ext e3) hr3 rx eg λσ3 sr3=>?_;refine⟨Δ3,M2,_,sr3,hr3,f3,λb M4 H4 q4 e4 hr4=>?_⟩;cases b with
  |true =>
   simp only[if_true]at q4 ⊢;refine⟨Δ3,M4,_,sr3.ext e4,hr4,q4,λy M5 v5 H5 q5 e5 hr5 rv5=>?_⟩;refine⟨ds.length-(i+1),by lia,Δ3,M5,acc++[y],rfl,hlt,((e2.trans e3).trans e4).trans e5,hr5,(sr3.ext e4).ext e5,(((ra.ext e3).ext e4).ext e5).append (aq.cons rv5 aq.nil),by simp;lia,q5⟩
  |false =>
   simp only[J5,if_false]at q4 ⊢;exact⟨ds.length-(i+1),by lia,Δ3,M4,acc,rfl,hlt,(e2.trans e3).trans e4,hr4,sr3.ext e4,(ra.ext e3).ext e4,by lia,q4⟩
 ·rw[af0 (by lia)]at f2;exact .inl ⟨stop (by lia),M2,acc,e2,hr2,ra,f2⟩
theorem vE{K:H0}{wi:TId}{g:GD}{tc:TTd}{te:TEd}{gv:TG}{ms:List Bool}{kk:Nat}(kg:o6 K g gv):
  ∀ σ H Q,up K (dLc ms kk wi g tc te) σ H Q->tLc ms kk (upI K wi) gv (upT K tc) (up K te) σ H Q:=by
 rintro σ H Q ⟨Δ,M,R,sr,hr,q,k⟩;refine⟨Δ,M,_,sr,hr,q,λds M1 J H1 ⟨hz,q1⟩ e1 hr1 it=>?_⟩;obtain⟨W,Z,hW,hC,hZ⟩:=By kg it hr1 hz ((sr.ext e1).comp ms kk) q1;refine⟨W,Z,hW,hC,λys σ' H' p z hp=>?_⟩;obtain⟨M',acc,e',hr',ra,q'⟩:=hZ _ _ _ z;refine k _ M' _ _ q' ((e1.trans e').trans (Ext.new hr' hp)) (hr'.new hp) ?_;simp only[Rep];exact⟨p,ys,rfl,⟨bx,hr'.fresh hp⟩,ra.ext (Ext.new hr' hp)⟩
variable{scope:af8}{cl:List (Str×K4)}{ms:List Bool}{ar:List Str}{ifs:List N8}
def PGa(X:Cx)(scope:af8)(cl:List (Str×K4))(ar:List Str)(tg:N8)(g:GD):Prop:=∃gv:TG,(∀C s H ex,PG (aN X scope cl (X.N++ar) C s H ex) tg gv)/\o6 X.K g gv
theorem aG{i:Nat}{x:Str}{pos:Pos}(hN:(X.N++ar).Nodup)(hi:(X.N++ar)[i]?=some x)(hx:(relabel scope X.env).names.lookup x=some .local):PGa X scope cl ar (.Name x pos) (gg i) :=
 ⟨rP i,λC s H ex=>vN hN hi (.inl hx) (.inr hx),λd v σ Δ Δ' M H Q sr hr rv e k=>by cases e;exact k _ (sr.set i rv)⟩
end
abbrev SpD:=List D->DH->(D->DH->Prop)->Prop
def spD(K:H0)(n:Nat)(S:SpD):Sp:=λvs H Q _=>∃(ds:List D) (M:DH) (R:D->DH->Prop),ds.length=n/\aq K M H ds vs/\HR K M H/\S ds M R/\∀d M' v H',R d M'->Ext M H M' H'->HR K M' H'->Rep K M' H' d v->Q v H'
theorem Ac{K:H0}{n:Nat}{S:SpD}{vs:List V}{H:Hp}{Q:VK}{E:XK}(h:spD K n S vs H Q E):vs.length=n:=by
 obtain⟨ds,M,R,hl,r,_⟩:=h;rw[<-r.length];exact hl
def jC(N:List Str)(ds:List D):DE:=ds.map some++M7 (N.length-ds.length) none
theorem zb{K:H0}{M:DH}{H:Hp}{N:List Str}:∀{ds:List D}{vs:List V},aq K M H ds vs->SR K M H (gC N vs) (jC N ds):=by
 intro ds vs h;have hl:=h.length;refine⟨by simp[gC,jC,hl],λi d q=>?_⟩;unfold jC at q
 by_cases hi:i<ds.length
 ·rw[P3 (by simpa using hi),L8]at q;cases e:ds[i]? with
  |none=>rw[e]at q;cases q
  |some d' =>
   rw[e]at q;cases q;obtain⟨v,gv,rv⟩:=h.get e;refine⟨v,?_,rv⟩;unfold gC;rw[P3 (by simp;lia),L8,gv];rfl
 ·rw[X5 (by simpa using hi),ae2]at q
  split at q<;>cases q
section
variable{P:N4}{w:S2}{K:H0}{mg:Str->Option J0}{base:N0}{f:K4}{fd:L4}
theorem Fun.okD{x qual:Str}{st:aa6}{f:K4}{fd:L4}{N ps:List Str}{k n:Nat}{S:SpD}(F:Fun K x qual st f fd)(hn:ps.length=n)(Sc:aw N ps (aj st))
  (hbody:∀ (cdv:J0) (A:P5) (outer:List Env) (s:J4) (H:Hp) (E:XK),de k (A.deeper (ap3 qual (aj st) s.heap.objs.size f cdv)) →
   ∃t:TSd,Ab (rq CX0 P w K mg base N qual (aj st) f cdv A outer s H E).nox (du st) t/\∀ds M R,ds.length=n->S ds M R->t { nx:=λ_ M'=>R .non M',rt:=R } (jC N ds) M):aV P w K mg base CX0 (k+1) f fd ps (spD K n S):=by
 refine F.ok Sc (λvs H Q E h=>by rw[hn];exact Ac h) (λcdv A outer s H vs Q E hr h=>?_);obtain⟨t,ht,hq⟩:=hbody cdv A outer s H E hr;obtain⟨ds,M,R,hl,r,hrr,q,k'⟩:=h;refine⟨_,ht,jC N ds,M,_,zb r,hrr,hq ds M R hl q,⟨λΔ' M' σ' H' q' e' hr' _=>k' .non M' .non H' q' e' hr' (by simp[Rep]),λ_ _ _ _ q'=>ab7 q',λ_ _ _ _ q'=>ab7 q',λd M' v H' q' e' hr' rv=>k' d M' v H' q' e' hr' rv⟩⟩
end
section
variable{X:Cx}{a b c e:N8}{es:List N8}{te ta tb:TEd}{t:TAd}{pos:Pos}
def nZ(n:Nat)(S:SpD)(t:TAd):TEd:=λΔ M Q=>t Δ M λds M1=>ds.length=n/\S ds M1 Q
theorem CS{k:Nat}{f:K4}{fd:L4}{ps:List Str}{n:Nat}{S:SpD}{x:Str}{p:Pos}(F:aV X.prog X.w X.K X.mg X.base CX0 k f fd ps (spD X.K n S))(hr:de k X.A)(hg:Gl X x)(hm:X.mg x=some (.ref f))(hk:ac5 X.K (.ref f)=true)(hb:eY X.K fd ps [])
  (ha:PAd X (e::es) t) (hdb:(x==("__debug__":Str))=false:=by decide) (he:K8 (e::es) X.env=(false,ad7 e X.env)::K8 es X.env:=by rfl) (hpl:(ab1 pos (K8 es X.env)).any (·.1)=false:=by rfl) :
  PEd X (.Call (.Name x p) (e::es) [] pos) (nZ n S t) :=
 (BN F hr hg hm hk hb .nil Ce ha hdb he hpl).conv λσ H Q hup => hup.el λΔ M R sr hr q k => ⟨Δ,M,_,sr,hr,q,λds M1 vs H1 ⟨hl,q1⟩ e1 hr1 rv => by
  dsimp only;rw[ad1];exact⟨ds,M1,R,hl,rv,hr1,q1,λd M' v H' q' e' hr' rv'=>k d M' v H' q' (e1.trans e') hr' rv'⟩⟩
def DF(to te:TEd):TEd:=λΔ M Q=>to Δ M λo M1=>∃a l,o=.ref a/\M1 a=some (.lst l)/\te Δ M1 λd M2=>∃ds,M2 a=some (.lst ds)/\ds.length<J7/\Q .non (aT M2 a (.lst (ds++[d])))
end
def ItW(n:Nat)(Vp:Nat->V->Prop):It:=⟨λi _=>i<n,λi H x H'=>H'=H/\Vp i x,λi _=>n<=i⟩
theorem w9{P:N4}{w:S2}{K:H0}{tg:N8}{it:K4}{n:Nat}{Pv:Nat->J0->Prop}{St:Nat->N0->Prop}{ty:String}{Vp:Nat->V->Prop}
  (W:∀A:P5,A.handled=none->Walks P w A it [it] [it] n Pv St) (ho:∀i h,St i h->∃o,h.get? it=some o/\o.cls=.type ty/\∃vs,o.data=.fields vs)
  (hn:["enumerate","zip","dict_itemiterator","dict_reverseitemiterator","odict_iterator","itertools.zip_longest","itertools.pairwise"].contains ty=false)
  (hv:∀i u,Pv i u->∃x,aL x u/\Vp i x) (hself:∀(A:P5) (i:Nat) (s:J4) (Q:J0->J4->Prop) (E:J0->J4->Prop),St i s.heap->Q (.ref it) s->L3 (N9 P w) A (ap2 (.ref it)) Q E s):qS P w K tg (ItW n Vp) [it] it (λi h=>i<=n/\St i h) where
 mem:=by simp
 obj:=λi h st b hb=>by
  have e:b=it:=by simpa using hb
  subst e;obtain⟨o,e,c,vs,d⟩:=ho i h st.2;exact⟨o,e,λv z=>by rw[d]at z;cases z⟩
 keep:=λi h h' st k=>⟨st.1,(W { handled:=none } rfl).frame i h h' st.2 k⟩
 item:=by
  intro X hP hw hK hc i af s σ H E I hf st hg;subst hP hw hK;obtain⟨f0,f1,f2,f3,f4,f5⟩:=hf it (by simp);refine(W X.A (I.ok.hd hc)).item i s _ _ hg st.2 λv h' tk pv st' kk=>?_;have I1:Inv X af σ H { s with heap:=h',toks:=tk }:=I.turned (λb o hb e=>kk b o (by simpa using hb) e) f0 f1 f3 f4 f5;obtain⟨x,rx,vx⟩:=hv i v pv;obtain⟨o,e,c,vs,d⟩:=ho _ _ st';exact⟨v,rfl,vZ (s:={ s with heap:=h',toks:=tk }) e c d hn ⟨x,H,I1,rx,⟨rfl,vx⟩,⟨hg,st'⟩,λb hb=>(hf b hb).1⟩⟩
 done:=by
  intro X hP hw hK hc i af s σ H E I hf st hg;subst hP hw hK;obtain⟨f0,f1,f2,f3,f4,f5⟩:=hf it (by simp);have e:i=n:=Nat.le_antisymm st.1 hg;subst e;exact(W X.A (I.ok.hd hc)).done s _ _ st.2 λh' tk kk=>⟨rfl,I.turned (λb o hb e=>kk b o (by simpa using hb) e) f0 f1 f3 f4 f5⟩
 self:=λA i s Q E st h=>hself A i s Q E st.2 h
section
variable{X:Cx}{a b c e:N8}{es:List N8}{te ta tb:TEd}{t:TAd}{pos:Pos}{tg iter:N8}
noncomputable def gQ(x:Str):List D:=x.cps.toList.map λc=>.str ⟨#[c]⟩
theorem vq{af:List (K4×Obj)}{σ:St}{H:Hp}{s:J4}{x:Str}{t:Tok}{R:It->Hp->Prop}(I:Inv X af σ H s)(ty:String)(hn:["enumerate","zip","dict_itemiterator","dict_reverseitemiterator","odict_iterator","itertools.zip_longest","itertools.pairwise"].contains ty=false)
  (W:∀A:P5,A.handled=none->Walks X.prog X.w A s.heap.objs.size [s.heap.objs.size] [s.heap.objs.size] x.cps.size (SignAt x) (λi h=>h.IsStrIter s.heap.objs.size ty x t i))
  (hself:∀(A:P5) (i:Nat) (s':J4) (Q:J0->J4->Prop) (E:J0->J4->Prop),s'.heap.IsStrIter s.heap.objs.size ty x t i->Q (.ref s.heap.objs.size) s'->L3 (N9 X.prog X.w) A (ap2 (.ref s.heap.objs.size)) Q E s')
  (q:R (ItW x.cps.size λi v=>∃c,x.cps[i]?=some c/\v=.str ⟨#[c]⟩) H):PIE X af σ tg R (.ref s.heap.objs.size) { s with heap:=s.heap.push { cls:=.type ty,data:=.fields #[.str x t,.int 0 0] } }:=by
 have I1:Inv X af σ H { s with heap:=s.heap.push { cls:=.type ty,data:=.fields #[.str x t,.int 0 0] } }:=I.kept (t':=s.toks) λb o e=>I0 _ e;refine⟨s.heap.objs.size,[s.heap.objs.size],_,_,H,rfl,I1,w9 W (λi h st=>?_) hn (λi u ⟨c,t',e,ev⟩=>⟨.str ⟨#[c]⟩,⟨t',ev⟩,c,e,rfl⟩) hself,⟨Q5 _,_,K6 _ rfl,rfl,rfl⟩,λb hb=>?_,q⟩
 ·obtain⟨o,e,c,d⟩:=st;exact⟨o,e,c,_,d⟩
 ·have e:b=s.heap.objs.size:=by simpa using hb
  subst e;exact I.fpOk (J6 _) (I.hok.fresh (J6 _))
end
section
variable{X:Cx}{a b c e:N8}{es:List N8}{te ta tb:TEd}{t:TAd}{pos:Pos}
def eqF(x y:D):Option D:=if dLe x 60=true/\dLe y 60=true then some (.bl (eqD x y))else none
theorem zg{x y z:D}(h:eqF x y=some z):dLe x 60=true/\dLe y 60=true/\z=.bl (eqD x y):=by
 unfold eqF at h
 by_cases hc:dLe x 60=true/\dLe y 60=true
 ·rw[if_pos hc]at h;cases h;exact⟨hc.1,hc.2,rfl⟩
 ·rw[if_neg hc]at h;cases h
theorem gK(hu:X.A.units+64<ac8):bY X (Q0 .Eq) eqF:=by
 intro af s σ H M x y v u dx dy dz Q I hr rx ry r1 r2 e k;obtain⟨h1,h2,rfl⟩:=zg e;exact(mK I 60 (A:=X.A) (by lia) h1 h2 r1 r2 rx ry).2.1 X.prog X.w X.xe _ ⟨.bl (eqD dx dy),H,I,rfl,k _ H (Ext.refl _ _) hr (by simp[Rep])⟩
def inD(neg:Bool)(x y:D):Option D:=match y with
 |.lst ds=>if bD x=true/\ds.all bD=true then some (.bl (xor neg (ds.any λd=>eqD d x)))else none
 |.tup ds=>if bD x=true/\ds.all bD=true then some (.bl (xor neg (ds.any λd=>eqD d x)))else none
 |_=>none
theorem D3{K:H0}{M:DH}{H:Hp}{d:D}{v:V}(h:bD d=true)(r:Rep K M H d v):v=toV d/\iH v=true:=by
 cases d<;>first|(simp only[Rep]at r;subst r;exact⟨rfl,rfl⟩)|cases h
theorem Aw{x y:D}(hx:bD x=true)(hy:bD y=true):eqV (toV x) (toV y)=eqD x y:=by
 cases x<;>cases y<;>first|(simp[bD]at hx;done)|(simp[bD]at hy;done)|(simp[toV,eqV,eqD];done)
theorem iA{K:H0}{M:DH}{H:Hp}{x:D}(hx:bD x=true):∀{ds:List D}{vs:List V},aq K M H ds vs->ds.all bD=true->vs.all iH=true/\inV (toV x) vs=ds.any λd=>eqD d x
 |[],_,h,_=>by simp only[aq]at h;subst h;simp[inV]
 |d::ds,_,h,ha=>by
  simp only[aq]at h;obtain⟨v,ws,rfl,h3,h4⟩:=h;rw[ac1,N1]at ha;obtain⟨e1,e2⟩:=D3 ha.1 h3;obtain⟨e3,e4⟩:=iA hx h4 ha.2;subst e1;refine⟨by rw[ac1,e2,e3];rfl,?_⟩;unfold inV at e4 ⊢;rw[Z4,Z4,e4,Aw ha.1 hx]
theorem aX.scal{K:H0}{M:DH}{H:Hp}{d:D}{v:V}(h:bD d=true)(r:aX K M H d v):v=toV d/\iH v=true:=by
 cases d<;>first|(simp only[aX,Rep]at r;subst r;exact⟨rfl,rfl⟩)|cases h
theorem Gu:bY X (Q0 .In) (inD false):=bY.of wc λH M x y dx dy dz Q hr r1 r2 e q=>by
 cases dy with
 |lst ds =>
  simp only[inD]at e
  by_cases hc:bD dx=true/\ds.all bD=true
  ·rw[if_pos hc]at e;cases e;obtain⟨l,vs,rfl,sq,rl⟩:=r2;obtain⟨e1,e2⟩:=aX.scal hc.1 r1;obtain⟨e3,e4⟩:=iA hc.1 rl hc.2;subst e1;refine⟨l,vs,rfl,.inl (SqL.of sq),e2,e3,q _ H (Ext.refl _ _) hr ?_⟩;rw[e4];simp[Rep]
  ·rw[if_neg hc]at e;cases e
 |tup ds =>
  simp only[inD]at e
  by_cases hc:bD dx=true/\ds.all bD=true
  ·rw[if_pos hc]at e;cases e;obtain⟨l,vs,rfl,sq,rl⟩:=r2;obtain⟨e1,e2⟩:=aX.scal hc.1 r1;obtain⟨e3,e4⟩:=iA hc.1 rl hc.2;subst e1;refine⟨l,vs,rfl,.inr sq,e2,e3,q _ H (Ext.refl _ _) hr ?_⟩;rw[e4];simp[Rep]
  ·rw[if_neg hc]at e;cases e
 |_=>cases e
theorem BE:bY X (Q0 .NotIn) (inD true):=bY.of rg λH M x y dx dy dz Q hr r1 r2 e q=>by
 cases dy with
 |lst ds =>
  simp only[inD]at e
  by_cases hc:bD dx=true/\ds.all bD=true
  ·rw[if_pos hc]at e;cases e;obtain⟨l,vs,rfl,sq,rl⟩:=r2;obtain⟨e1,e2⟩:=aX.scal hc.1 r1;obtain⟨e3,e4⟩:=iA hc.1 rl hc.2;subst e1;refine⟨l,vs,rfl,.inl (SqL.of sq),e2,e3,q _ H (Ext.refl _ _) hr ?_⟩;rw[e4];simp[Rep]
  ·rw[if_neg hc]at e;cases e
 |tup ds =>
  simp only[inD]at e
  by_cases hc:bD dx=true/\ds.all bD=true
  ·rw[if_pos hc]at e;cases e;obtain⟨l,vs,rfl,sq,rl⟩:=r2;obtain⟨e1,e2⟩:=aX.scal hc.1 r1;obtain⟨e3,e4⟩:=iA hc.1 rl hc.2;subst e1;refine⟨l,vs,rfl,.inr sq,e2,e3,q _ H (Ext.refl _ _) hr ?_⟩;rw[e4];simp[Rep]
  ·rw[if_neg hc]at e;cases e
 |_=>cases e
def ma(f:D->Option D):List D->Option D
 |[d]=>f d
 |_=>none
theorem kh{K:H0}{M:DH}{H:Hp}{d:D}{xs:List V}(h:aa9 (aX K M H) [d] xs):∃v,xs=[v]/\aX K M H d v:=by
 cases h with
 |cons r t=>cases t;exact⟨_,rfl,r⟩
theorem cw{f:D->Option D}{ds:List D}{z:D}(h:ma f ds=some z):∃d,ds=[d]/\f d=some z:=by
 match ds,h with
 |[d],h=>exact⟨d,rfl,h⟩
noncomputable def rF:D->Option D
 |.tup ds=>some (.int ds.length)
 |.lst ds=>some (.int ds.length)
 |.scr ds=>some (.int ds.length)
 |.str x=>if x.length<=J7 then some (.int x.length)else none
 |_=>none
theorem aY:bO X (.builtin "len") (ma rF):=bO.of (dD.or qD qG) λH M xs ds dz Q hr rp e q=>by
 obtain⟨d,rfl,e0⟩:=cw e;clear e;have e:=e0;clear e0;obtain⟨v,rfl,r⟩:=kh rp;cases d with
 |tup ds=>cases e;obtain⟨l,vs,rfl,sq,rl⟩:=r;exact .inl ⟨l,vs,rfl,.inr sq,q _ H (Ext.refl _ _) hr (by rw[<-rl.length];simp[Rep])⟩
 |lst ds=>cases e;obtain⟨l,vs,rfl,sq,rl⟩:=r;exact .inl ⟨l,vs,rfl,.inl (SqL.of sq),q _ H (Ext.refl _ _) hr (by rw[<-rl.length];simp[Rep])⟩
 |scr ds=>cases e;obtain⟨l,vs,rfl,sq,rl⟩:=r;exact .inl ⟨l,vs,rfl,.inl sq,q _ H (Ext.refl _ _) hr (by rw[<-rl.length];simp[Rep])⟩
 |str x =>
  simp only[rF]at e
  by_cases hz:x.length<=J7
  ·rw[if_pos hz]at e;cases e;exact .inr ⟨x,by rw[oy r],hz,q _ H (Ext.refl _ _) hr (by simp[Rep])⟩
  ·rw[if_neg hz]at e;cases e
 |_=>cases e
def Fp:D->Option D
 |.int i=>some (.int (if i<0 then -i else i))
 |_=>none
theorem EU:bO X (.builtin "abs") (ma Fp):=bO.of xK λH M xs ds dz Q hr rp e q=>by
 obtain⟨d,rfl,e0⟩:=cw e;clear e;have e:=e0;clear e0;obtain⟨v,rfl,r⟩:=kh rp;cases d with
 |int i=>cases e;exact⟨i,by rw[fT r],q _ H (Ext.refl _ _) hr (by simp[Rep])⟩
 |_=>cases e
def Dd:D->Option D
 |.lst ds=>some (.tup ds)
 |.tup ds=>some (.tup ds)
 |_=>none
theorem dq:bO X (.type "tuple") (ma Dd):=bO.of oD λH M xs ds dz Q hr rp e q=>by
 obtain⟨d,rfl,e0⟩:=cw e;clear e;have e:=e0;clear e0;obtain⟨v,rfl,r⟩:=kh rp;cases d with
 |lst ds=>cases e;obtain⟨l,vs,rfl,sq,rl⟩:=r;exact⟨l,vs,rfl,.inl ⟨SqL.of sq,λp hp=>oa hr hp rl q⟩⟩
 |tup ds=>cases e;have t1:=aX.tup hr r;obtain⟨l,vs,rfl,sq,rl⟩:=r;exact⟨l,vs,rfl,.inr ⟨sq,q _ H (Ext.refl _ _) hr t1⟩⟩
 |_=>cases e
def F6:D->Option D
 |.lst ds=>some (.lst ds)
 |.scr ds=>some (.lst ds)
 |.tup ds=>some (.lst ds)
 |_=>none
theorem nY:bO X (.type "list") (ma F6):=bO.of qF λH M xs ds dz Q hr rp e q=>by
 obtain⟨d,rfl,e0⟩:=cw e;clear e;have e:=e0;clear e0;obtain⟨v,rfl,r⟩:=kh rp;cases d with
 |lst ds=>cases e;obtain⟨l,vs,rfl,sq,rl⟩:=r;exact⟨l,vs,rfl,.inl (SqL.of sq),λp hp=>ft hr hp rl q⟩
 |scr ds=>cases e;obtain⟨l,vs,rfl,sq,rl⟩:=r;exact⟨l,vs,rfl,.inl sq,λp hp=>ft hr hp rl q⟩
 |tup ds=>cases e;obtain⟨l,vs,rfl,sq,rl⟩:=r;exact⟨l,vs,rfl,.inr sq,λp hp=>ft hr hp rl q⟩
 |_=>cases e
def nJ:D->Bool
 |.bl _=>true
 |_=>false
def kW:D->Bool
 |.bl b=>b
 |_=>false
def oq:D->Option D
 |.lst ds=>if ds.all nJ=true then some (.bl (ds.all kW))else none
 |_=>none
def yW:D->Option D
 |.lst ds=>if ds.all nJ=true then some (.bl (ds.any kW))else none
 |_=>none
theorem wM{p:Nat->Bool}{q:D->Bool}:∀{ds:List D},(∀i d,ds[i]?=some d->p i=q d)->(O2 ds.length).all p=ds.all q:=by
 intro ds h;rw[Q4,O4,O4];constructor
 ·intro hh d hd;obtain⟨i,hi,e⟩:=U1.mp hd;rw[<-h i d (by rw[J1 hi,e])];exact hh i (P8.mpr hi)
 ·intro hh i hi;have hi:=P8.mp hi;rw[h i ds[i] (by simp[hi])];exact hh _ (P7 hi)
theorem wz{p:Nat->Bool}{q:D->Bool}:∀{ds:List D},(∀i d,ds[i]?=some d->p i=q d)->(O2 ds.length).any p=ds.any q:=by
 intro ds h;rw[Q4,V2,V2];constructor
 ·rintro⟨i,hi,hp⟩;have hi:=P8.mp hi;exact⟨ds[i],P7 hi,by rw[<-h i ds[i] (by simp[hi])];exact hp⟩
 ·rintro⟨d,hd,hq⟩;obtain⟨i,hi,e⟩:=U1.mp hd;exact⟨i,P8.mpr hi,by rw[h i d (by rw[J1 hi,e])];exact hq⟩
theorem sf{K:H0}{M:DH}{H:Hp}{ds:List D}{vs:List V}{us:List J0}(rl:aq K M H ds vs)(rv:ay vs us)(hb:ds.all nJ=true){i:Nat}{u:J0}(h:us[i]?=some u):∃d,ds[i]?=some d/\u=.bool (kW d):=by
 have hi:i<ds.length:=by rw[rl.length,rv.length];exact(K3.mp h).1
 obtain⟨v,g,r⟩:=rl.get (i:=i) (d:=ds[i]) (by simp[hi]);obtain⟨u',g',r'⟩:=rv.get g;rw[h]at g';cases g';have hbi:=O4.mp hb ds[i] (P7 hi);refine⟨ds[i],by simp[hi],?_⟩;cases q:ds[i]with
 |bl b=>rw[q]at r;simp only[Rep]at r;subst r;exact r'
 |_=>rw[q]at hbi;cases hbi
theorem jm(hc:X.calm=true):bO X (.builtin "all") (ma oq):=by
 intro af s σ H M xs us ds dz Q I hr rv rp e k;obtain⟨d,rfl,e0⟩:=cw e;clear e;have e:=e0;clear e0;obtain⟨v,rfl,r⟩:=kh rp;obtain⟨u,rfl,ru⟩:=ay.one rv;cases d with
 |lst ds =>
  simp only[oq]at e
  by_cases hb:ds.all nJ=true
  ·rw[if_pos hb]at e;cases e;obtain⟨l,vs,rfl,sq,rl⟩:=r;cases ru;obtain⟨its,rv,pl,hz⟩:=I.list (SqL.of sq);have hne:l≠s.heap.objs.size:=L7 (I.hok.lt sq);refine call_all_walk (W7 pl.isList ⟨s.heap.objs.size,[s.heap.objs.size,l],[s.heap.objs.size],its.toArray.size,_,_,λi=>(ds[i]?.map kW).getD false,rfl,Walks.list (A:=X.A.in1) (show X.A.in1.handled=none from I.ok.hd hc) s.heap.objs.size l hne its.toArray,⟨⟨_,K6 _ rfl,rfl,rfl⟩,?_⟩,λi v s' Q' E' hv q=>?_,λh' tk kk=>?_⟩)
   ·obtain⟨o,e,c⟩:=pl.isList;exact⟨o,I0 _ e,c⟩
   ·obtain⟨d,hd,rfl⟩:=sf rl rv hb (i:=i) (u:=v) (by simpa using hv);dsimp only at q;rw[hd]at q;exact V5 q
   ·have I1:Inv X af σ H { s with heap:=h',toks:=tk }:=I.kept (t':=tk) λb o e=>kk b o (by simpa using L7 (K7 e)) (I0 _ e);refine⟨.bl _,H,I1,rfl,k _ H (Ext.refl _ _) hr ?_⟩;rw[J8,<-rv.length,<-rl.length,wM (q:=kW) (λi d hd=>by simp[hd])];simp[Rep]
  ·rw[if_neg hb]at e;cases e
 |_=>cases e
theorem Ca(hc:X.calm=true):bO X (.builtin "any") (ma yW):=by
 intro af s σ H M xs us ds dz Q I hr rv rp e k;obtain⟨d,rfl,e0⟩:=cw e;clear e;have e:=e0;clear e0;obtain⟨v,rfl,r⟩:=kh rp;obtain⟨u,rfl,ru⟩:=ay.one rv;cases d with
 |lst ds =>
  simp only[yW]at e
  by_cases hb:ds.all nJ=true
  ·rw[if_pos hb]at e;cases e;obtain⟨l,vs,rfl,sq,rl⟩:=r;cases ru;obtain⟨its,rv,pl,hz⟩:=I.list (SqL.of sq);have hne:l≠s.heap.objs.size:=L7 (I.hok.lt sq);refine call_any_walk (W7 pl.isList ⟨s.heap.objs.size,[s.heap.objs.size,l],[s.heap.objs.size],its.toArray.size,_,_,λi=>(ds[i]?.map kW).getD false,rfl,Walks.list (A:=X.A.in1) (show X.A.in1.handled=none from I.ok.hd hc) s.heap.objs.size l hne its.toArray,⟨⟨_,K6 _ rfl,rfl,rfl⟩,?_⟩,λi v s' Q' E' hv q=>?_,λh' tk kk=>?_⟩)
   ·obtain⟨o,e,c⟩:=pl.isList;exact⟨o,I0 _ e,c⟩
   ·obtain⟨d,hd,rfl⟩:=sf rl rv hb (i:=i) (u:=v) (by simpa using hv);dsimp only at q;rw[hd]at q;exact V5 q
   ·have I1:Inv X af σ H { s with heap:=h',toks:=tk }:=I.kept (t':=tk) λb o e=>kk b o (by simpa using L7 (K7 e)) (I0 _ e);refine⟨.bl _,H,I1,rfl,k _ H (Ext.refl _ _) hr ?_⟩;rw[J8,<-rv.length,<-rl.length,wz (q:=kW) (λi d hd=>by simp[hd])];simp[Rep]
  ·rw[if_neg hb]at e;cases e
 |_=>cases e
end
section
variable{X:Cx}{a b c e:N8}{es:List N8}{te ta tb:TEd}{t:TAd}{pos:Pos}
noncomputable def BM(T:String):D->Option Bool
 |.non=>some false
 |.bl _=>some (T=="bool" || T=="int")
 |.int _=>some (T=="int")
 |.str _=>some (T=="str")
 |.tup _=>some (T=="tuple")
 |.lst _=>some (T=="list")
 |.emp=>some (T=="dict")
 |_=>none
def okT(T:String):Bool:=T=="bool" || T=="int" || T=="str" || T=="tuple" || T=="list"
def Gg(T:String)(te:TEd):TEd:=λΔ M Q=>te Δ M λd M1=>∃k,BM T (rdM M1 d)=some k/\Q (.bl k) M1
theorem wQ{T:String}(hT:okT T=true){af:List (K4×Obj)}{s:J4}{σ:St}{H:Hp}{M:DH}{v:V}{u:J0}{d:D}{k:Bool}{Q:VK}(I:Inv X af σ H s)(r:aL v u)(rd:aX X.K M H d v)(e:BM T d=some k)(q:Q (.bl k) H):
  L3 (N9 X.prog X.w) X.A (call (.builtin "isinstance") [u,.type T]) (EP X af σ Q) X.xe s:=by
 have fin:∀{k'} ,k=k'->EP X af σ Q (.bool k') s:=λe=>by subst e;exact⟨.bl k,H,I,rfl,q⟩
 have fint:∀{k'} ,k=k'->EP X af σ Q (.bool k') { s with toks:=s.toks+1 }:=λe=>by subst e;exact⟨.bl k,H,I.tok _,rfl,q⟩
 have h5:T="bool"∨T="int"∨T="str"∨T="tuple"∨T="list":=by
  simp[okT]at hT;rcases hT with(((h|h)|h)|h)|h<;>simp[h]
 cases d with
 |non =>
  simp only[aX,Rep]at rd;subst rd;simp only[aL]at r;subst r;cases e;rcases h5 with rfl|rfl|rfl|rfl|rfl
  ·exact IsiPair.NoneType_bool (fint rfl)
  ·exact IsiPair.NoneType_int (fint rfl)
  ·exact IsiPair.NoneType_str (fint rfl)
  ·exact IsiPair.NoneType_tuple (fint rfl)
  ·exact IsiPair.NoneType_list (fint rfl)
 |bl b =>
  simp only[aX,Rep]at rd;subst rd;simp only[aL]at r;subst r;cases e;rcases h5 with rfl|rfl|rfl|rfl|rfl
  ·exact IsiPair.bool_bool (fin rfl)
  ·exact IsiPair.bool_int (fin rfl)
  ·exact IsiPair.bool_str (fint rfl)
  ·exact IsiPair.bool_tuple (fint rfl)
  ·exact IsiPair.bool_list (fint rfl)
 |int i =>
  simp only[aX,Rep]at rd;subst rd;obtain⟨t,rfl⟩:=r;cases e;rcases h5 with rfl|rfl|rfl|rfl|rfl
  ·exact IsiPair.int_bool (fint rfl)
  ·exact IsiPair.int_int (fin rfl)
  ·exact IsiPair.int_str (fint rfl)
  ·exact IsiPair.int_tuple (fint rfl)
  ·exact IsiPair.int_list (fint rfl)
 |str x =>
  simp only[aX,Rep]at rd;subst rd;obtain⟨t,rfl⟩:=r;cases e;rcases h5 with rfl|rfl|rfl|rfl|rfl
  ·exact IsiPair.str_bool (fint rfl)
  ·exact IsiPair.str_int (fint rfl)
  ·exact IsiPair.str_str (fin rfl)
  ·exact IsiPair.str_tuple (fint rfl)
  ·exact IsiPair.str_list (fint rfl)
 |tup ds =>
  obtain⟨a,vs,rfl,sq,rl⟩:=rd;cases r;cases e;obtain⟨its,rv,⟨o,ho,hc,_⟩,_⟩:=I.tuple sq;rcases h5 with rfl|rfl|rfl|rfl|rfl
  ·exact IsiPair.tuple_bool ho hc (fint rfl)
  ·exact IsiPair.tuple_int ho hc (fint rfl)
  ·exact IsiPair.tuple_str ho hc (fint rfl)
  ·exact IsiPair.tuple_tuple ho hc (fin rfl)
  ·exact IsiPair.tuple_list ho hc (fint rfl)
 |lst ds =>
  obtain⟨a,vs,rfl,sq,rl⟩:=rd;cases r;cases e;obtain⟨its,rv,⟨o,n,ho,hc,_⟩,_⟩:=I.list (SqL.of sq);rcases h5 with rfl|rfl|rfl|rfl|rfl
  ·exact IsiPair.list_bool ho hc (fint rfl)
  ·exact IsiPair.list_int ho hc (fint rfl)
  ·exact IsiPair.list_str ho hc (fint rfl)
  ·exact IsiPair.list_tuple ho hc (fint rfl)
  ·exact IsiPair.list_list ho hc (fin rfl)
 |emp =>
  simp only[aX,Rep]at rd;obtain⟨a,rfl,h1,_⟩:=rd;cases r;cases e;obtain⟨_,_,_,_,o,es,ep,ho,ex,_⟩:=I.hok a _ h1;rcases h5 with rfl|rfl|rfl|rfl|rfl
  ·exact IsiPair.dict_bool ho ex.1 (fint rfl)
  ·exact IsiPair.dict_int ho ex.1 (fint rfl)
  ·exact IsiPair.dict_str ho ex.1 (fint rfl)
  ·exact IsiPair.dict_tuple ho ex.1 (fint rfl)
  ·exact IsiPair.dict_list ho ex.1 (fint rfl)
 |_=>cases e
abbrev TOd:=DE->DH->(Option Int->DH->Prop)->Prop
def upO(K:H0)(t:TOd):TO:=λσ H Q=>∃(Δ:DE) (M:DH) (R:Option Int->DH->Prop),SR K M H σ Δ/\HR K M H/\t Δ M R/\∀i M' H',R i M'->Ext M H M' H'->HR K M' H'->Q i H'
theorem upO.el{K:H0}{t:TOd}{σ:St}{H:Hp}{Q:Option Int->Hp->Prop}{P:Prop}(h:upO K t σ H Q)(f:∀(Δ:DE) (M:DH) (R:Option Int->DH->Prop),SR K M H σ Δ->HR K M H->t Δ M R->(∀i M' H',R i M'->Ext M H M' H'->HR K M' H'->Q i H')->P):P:=by
 obtain⟨x1,x2,x3,a,b,c,d⟩:=h;exact f x1 x2 x3 a b c d
def POd(X:Cx)(e:Option N8)(t:TOd):Prop:=PO X e (upO X.K t)
def qU:TOd:=λ_ M Q=>Q none M
def yD(t:TEd):TOd:=λΔ M Q=>t Δ M λd M1=>∃i,d=.int i/\Q (some i) M1
theorem PO.conv{e:Option N8}{t t':TO}(h:PO X e t)(k:∀ σ H Q,t' σ H Q->t σ H Q):PO X e t':=λp s σ H Q I q=>h p s σ H Q I (k σ H Q q)
theorem Bw:POd X none qU:=Al.conv λσ H Q hup=>hup.el λΔ M R sr hr q k=>k none M H q (Ext.refl _ _) hr
theorem Ae(h:PEd X e te):POd X (some e) (yD te):=(BU h).conv λσ H Q hup=>hup.el λΔ M R sr hr q k=>⟨Δ,M,_,sr,hr,q,λd M1 v H1 ⟨i,ed,q1⟩ e1 hr1 rv=>⟨i,by subst ed;simpa only[Rep]using rv,k _ M1 H1 q1 e1 hr1⟩⟩
def c8(xs:List D)(lo hi:Option Int):List D:=(xs.drop (HT.sIx xs.length 0 lo)).take (HT.sIx xs.length xs.length hi-HT.sIx xs.length 0 lo)
def slD:D->Option Int->Option Int->Option D
 |.lst ds,lo,hi=>some (.lst (c8 ds lo hi))
 |.scr ds,lo,hi=>some (.lst (c8 ds lo hi))
 |.str x,lo,hi=>if x.length<=J7 then some (.str (al9 x lo hi))else none
 |.tup ds,lo,hi=>if HT.sIx ds.length 0 lo=0/\HT.sIx ds.length ds.length hi=ds.length then none else some (.tup (c8 ds lo hi))
 |_,_,_=>none
def Gk:V->Option Int->Option Int->Hp->VK->Prop:=λx lo hi H Q=>∃z,x=.str z/\z.length<=J7/\Q (.str (al9 z lo hi)) H
theorem Ej:SlR X Gk:=by
 intro af s σ H x v vl vu lo hi sl Q I rx hs pl pu h;obtain⟨z,rfl,hz,q⟩:=h;obtain⟨t,rfl⟩:=rx;refine⟨"str",_,PySem.F.slot_str_getitem.lookup,typeIs_str _ _ _,?_⟩;have fin:∀(t':Tok) (k:Nat),EP X af σ Q (.str (al9 z lo hi) t') { s with toks:=k }:=λt' k=>⟨.str (al9 z lo hi),H,I.tok _,⟨t',rfl⟩,q⟩;cases pl with
 |none =>
  cases pu with
  |none=>exact ae4 (l:=none) (u:=none) (st:=none) hs rfl (am0 ⟨R6 (ao5 z _ _) hz,fin⟩)
  |int j tj=>exact ae4 (l:=none) (u:=some (j,tj)) (st:=none) hs rfl (am0 ⟨R6 (ao5 z _ _) hz,fin⟩)
 |int i ti =>
  cases pu with
  |none=>exact ae4 (l:=some (i,ti)) (u:=none) (st:=none) hs rfl (am0 ⟨R6 (ao5 z _ _) hz,fin⟩)
  |int j tj=>exact ae4 (l:=some (i,ti)) (u:=some (j,tj)) (st:=none) hs rfl (am0 ⟨R6 (ao5 z _ _) hz,fin⟩)
end
def cS(names:List (Str×U6))(cells:List (Str×K4)):List (Str×K4):=(names.filterMap λy=>if y.2==.free then(cells.lookup y.1).map λc=>(y.1,c)else none).reverse
noncomputable def fG(env:Env)(y:Str×U6)(cs:List (Str×K4)):Sem (ForInStep (List (Str×K4))):=if(y.2==.free)=true then(do let c <-cellOf env y.1;ag9 (W8 ((y.1,c)::cs)))else ag9 (W8 cs)
theorem kJ{env:Env}:∀(names:List (Str×U6)) (acc:List (Str×K4)),(∀y∈names,y.2=.free->(env.cells.lookup y.1).isSome=true) ->
  (forIn names acc (fG env):Sem (List (Str×K4)))=ag9 (cS names env.cells++acc)
 |[],acc,_=>by simp[cS]
 |y::r,acc,h=>by
  rw[List.forIn_cons]
  by_cases hk:(y.2==Z5)=true
  ·have hs:=h y R4 (by simpa using hk);obtain⟨c,hc⟩:=Option.isSome_iff_exists.mp hs;have e1:fG env y acc=ag9 (W8 ((y.1,c)::acc)):=by
    unfold fG cellOf;rw[if_pos hk,hc];simp only[as4]
   rw[e1];simp only[as4];rw[kJ r ((y.1,c)::acc) λy hy=>h y (O6 _ hy)];have e2:cS (y::r) env.cells=cS r env.cells++[(y.1,c)]:=by
    unfold cS;rw[R5,if_pos hk,hc];simp
   rw[e2];simp
  ·have e1:fG env y acc=ag9 (W8 acc):=by
    unfold fG;rw[if_neg hk]
   rw[e1];simp only[as4];rw[kJ r acc λy hy=>h y (O6 _ hy)];have e2:cS (y::r) env.cells=cS r env.cells:=by
    unfold cS;rw[R5,if_neg hk]
   rw[e2]
theorem AQ{scope:af8}{env:Env}(h:∀y∈scope.names,y.2=.free->(env.cells.lookup y.1).isSome=true):closureFor scope env=ag9 (cS scope.names env.cells):=by
 have:=kJ (env:=env) scope.names [] h;simp only[ad1]at this;show(forIn scope.names [] (fG env) >>= λcs=>ag9 cs)=_;rw[this];simp only[as4]
theorem yg{cells:List (Str×K4)}{names:List (Str×U6)}{x:Str}{c:K4}(h:(cS names cells).lookup x=some c):cells.lookup x=some c:=by
 have hm:=U7 h;unfold cS at hm;rw[List.mem_reverse,ac0]at hm;obtain⟨y,_,e⟩:=hm
 split at e
 ·cases q:cells.lookup y.1 with
  |none=>rw[q]at e;cases e
  |some c'=>rw[q]at e;cases e;exact q
 ·cases e
theorem eI:∀{l:List (Str×K4)}{x:Str}{c:K4},(x,c)∈l->∃c',l.lookup x=some c'
 |(y,d)::l,x,c,h=>by
  rw[P6];cases q:x==y with
  |true=>exact⟨d,by simp⟩
  |false =>
   rcases L5.mp h with e|h
   ·cases e;simp at q
   ·simpa using eI h
theorem zr{cells:List (Str×K4)}{names:List (Str×U6)}{x:Str}(h:names.lookup x=some .free)(hs:(cells.lookup x).isSome=true):∃c,(cS names cells).lookup x=some c:=by
 obtain⟨c,hc⟩:=Option.isSome_iff_exists.mp hs;refine eI (c:=c) ?_;unfold cS;rw[List.mem_reverse,ac0];exact⟨(x,.free),U7 h,by simp[hc]⟩
noncomputable def aS(fs:af8)(N:List Str)(scope:af8)(ms:List Bool):Bool :=
 scope.kind==.function&&scope.names.all (λy=>y.2 != .cell)&&scope.names.all (λy=>y.2 != .local || scope.names.lookup y.1==some .local) &&
 scope.names.all (λy=>y.2 != .free || fs.names.lookup y.1==some .cell)&&(ms.zip N).all (λy=>!y.1 || scope.names.lookup y.2==some .free)&&decide (ms.length<=N.length)
theorem aH{X:Cx}{scope:af8}{ms:List Bool}{ar:List Str}{n0:Nat}(hX:X.env.cells=as0 n0 X.env.scope.names [])(c:aS X.env.scope X.N scope ms=true):fk X scope (cS scope.names X.env.cells) ms ar:=by
 unfold aS at c;simp only[N1,O4,decide_eq_true_eq]at c;obtain⟨⟨⟨⟨⟨c1,c2⟩,c3⟩,c4⟩,c5⟩,c6⟩:=c;have fr:∀x,(x,Z5)∈scope.names->X.env.scope.names.lookup x=some .cell:=λx hx=>by
  have:=c4 _ hx;simpa using this
 have cs:∀x,(x,Z5)∈scope.names->(X.env.cells.lookup x).isSome=true:=λx hx=>by
  rw[hX];exact PySem.W.cellsFrom_some _ _ _ (.inl (fr x hx))
 refine⟨by simpa using c1,λy hy e=>?_,λy hy e=>?_,AQ λy hy e=>?_,λx c h=>yg h,λx h=>zr h (cs x (U7 h)),λx h=>.inl (fr x (U7 h)),λi x h1 h2=>?_,c6⟩
 ·have:=c2 y hy;rw[e]at this;simp at this
 ·have:=c3 y hy;simpa[e]using this
 ·obtain⟨a,b⟩:=y;cases e;exact cs a hy
 ·have:=c5 (true,x) (by
   rw[af5];exact⟨i,by rw[List.getElem?_zip_eq_some];exact⟨h1,h2⟩⟩)
  simpa using this
structure FnD(P:N4) (w:S2) (K:H0) (mg:Str->Option J0) (base:N0) (x:Str) (k n:Nat) (S:SpD):Prop where
 ex:∃(f:K4) (fd:L4) (ps:List Str),aV P w K mg base CX0 k f fd ps (spD K n S)/\mg x=some (.ref f)/\ac5 K (.ref f)=true/\eY K fd ps []
section
variable{X:Cx}{e:N8}{es:List N8}{t:TAd}{pos p:Pos}{x:Str}{k n:Nat}{S:SpD}
theorem dc(F:FnD X.prog X.w X.K X.mg X.base x k n S)(hr:de k X.A)(hg:Gl X x)(ha:PAd X (e::es) t)(hdb:(x==("__debug__":Str))=false:=by decide)(he:K8 (e::es) X.env=(false,ad7 e X.env)::K8 es X.env:=by rfl)(hpl:(ab1 pos (K8 es X.env)).any (·.1)=false:=by rfl):
  PEd X (.Call (.Name x p) (e::es) [] pos) (nZ n S t):=by
 obtain⟨f,fd,ps,h1,h2,h3,h4⟩:=F.ex;exact CS h1 hr hg h2 h3 h4 ha hdb he hpl
end
section
variable{X:Cx}{a b c e:N8}{es:List N8}{te ta tb:TEd}{t:TAd}{pos:Pos}{tg iter:N8}
def Cj(te:TEd):TSd:=λE Δ M=>te Δ M λd M1=>∃a ds,d=.ref a/\M1 a=some (.lst ds)/\E.rt (.lst ds) (ny M1 a)
theorem DL:bY X (ar6 .Add) (iOp λi j=>some (.int (i+j))):=by
 intro af s σ H M x y v u dx dy dz Q I hr rx ry r1 r2 e k;obtain⟨i,j,rfl,rfl,e'⟩:=nG e;cases e';exact CT af s σ H x y v u Q I rx ry ⟨i,j,fT r1,fT r2,k _ H (Ext.refl _ _) hr (by simp[Rep])⟩
theorem l7:F8 X (unaryOp .USub) (λd=>match d with|.int i=>some (.int (-i))|_=>none):=by
 intro af s σ H M x v dx dz Q I hr rx r1 e k;cases dx with
 |int i=>cases e;exact CZ af s σ H x v Q I rx ⟨i,fT r1,k _ H (Ext.refl _ _) hr (by simp[Rep])⟩
 |_=>cases e
def jG:D->Option (List D)
 |.tup ds=>some ds
 |.lst ds=>some ds
 |.scr ds=>some ds
 |.str x=>if x.length<=J7 then some (gQ x)else none
 |_=>none
def pT(te:TEd):TId:=λΔ M R=>te Δ M λd M1=>∃ds,jG d=some ds/\(ds.length<=J7->R ds M1)
theorem ud{af:List (K4×Obj)}{σ:St}{H:Hp}{s:J4}{o:Obj}(I:Inv X af σ H s):∀b∈[s.heap.objs.size],gI X af H b:=λb hb=>by
 have e:b=s.heap.objs.size:=by simpa using hb
 subst e;exact I.fpOk (J6 _) (I.hok.fresh (J6 _))
theorem Et{K:H0}{x:Str}{M1:DH}{H1:Hp}:ItD K (ItW x.cps.size λi v=>∃c,x.cps[i]?=some c/\v=.str ⟨#[c]⟩) (gQ x) M1 H1:=λM2 H2 e2 hr2 i=>⟨λd hd=>by
  unfold gQ at hd;rw[L8]at hd;cases q:x.cps.toList[i]? with
  |none=>rw[q]at hd;cases hd
  |some c =>
   rw[q]at hd;cases hd;have hc:x.cps[i]?=some c:=by simpa using q
   refine⟨?_,λy H' ⟨eH,c',hc',ey⟩=>?_⟩
   ·exact(X7.mp hc).1
   ·subst eH;subst ey;rw[hc]at hc';cases hc';exact⟨Ext.refl _ _,hr2,by simp[Rep]⟩,λhl=>by
  show x.cps.size<=i;simpa[gQ]using hl⟩
end
section
variable{M:DH}
theorem AM{i:Int}:rdM M (.int i)=.int i:=rfl
theorem Dw{i:Bool}:rdM M (.bl i)=.bl i:=rfl
theorem Ay{i:Str}:rdM M (.str i)=.str i:=rfl
theorem BV:rdM M .non=.non:=rfl
theorem AF{i:List D}:rdM M (.tup i)=.tup i:=rfl
theorem Az{i:List D}:rdM M (.lst i)=.lst i:=rfl
theorem AK{i:List D}:rdM M (.scr i)=.scr i:=rfl
theorem fY{a:K4}{ds:List D}(h:M a=some (.lst ds)):rdM M (.ref a)=.lst ds:=by simp[rdM,h]
theorem Bu{a:K4}{ds:List D}:rdM (aT M a (.lst ds)) (.ref a)=.lst ds:=fY aE
theorem Di{f:Int->Int->Option D}{a b:Int}:iOp f (.int a) (.int b)=f a b:=rfl
theorem Bi{a b:Int}:qf (.int a) (.int b)=some (.int (a+b)):=rfl
theorem vI{a b:Str}:qf (.str a) (.str b)=if a.length+b.length<=J7 then some (.str (a++b))else none:=rfl
theorem A5{a b:List D}:qf (.lst a) (.lst b)=if a.length+b.length<=J7 then some (.lst (a++b))else none:=rfl
theorem z9{a b:List D}:qf (.tup a) (.tup b)=if a.length+b.length<=J7 then some (.tup (a++b))else none:=rfl
theorem EB{a:List D}{b:Int}:ixD (.lst a) (.int b)=atI a b:=rfl
theorem FX{a:List D}{b:Int}:ixD (.scr a) (.int b)=atI a b:=rfl
theorem F9{a:List D}{b:Int}:ixD (.tup a) (.int b)=atI a b:=rfl
theorem Cq{z:Str}{i:Int}:ixD (.str z) (.int i)=if z.length<=J7 then(atI z.cps.toList i).map λc=>.str ⟨#[c]⟩else none:=rfl
theorem Ez{α:Type}{x:α}{xs:List α}:atI (x::xs) 0=some x:=bA (j:=0) rfl
theorem F3{α:Type}{x y:α}{xs:List α}:atI (x::y::xs) 1=some y:=bA (j:=1) rfl
theorem FC{α:Type}{x y z:α}{xs:List α}:atI (x::y::z::xs) 2=some z:=bA (j:=2) rfl
theorem yd{f:D->Option D}{d:D}:ma f [d]=f d:=rfl
theorem CJ{a:List D}:rF (.lst a)=some (.int a.length):=rfl
theorem CW{a:List D}:rF (.tup a)=some (.int a.length):=rfl
theorem DY{a:List D}:rF (.scr a)=some (.int a.length):=rfl
theorem C6{x:Str}:rF (.str x)=if x.length<=J7 then some (.int x.length)else none:=rfl
theorem Dn{i:Int}:Fp (.int i)=some (.int (if i<0 then -i else i)):=rfl
theorem D0{a:List D}:Dd (.lst a)=some (.tup a):=rfl
theorem Dx{a:List D}:Dd (.tup a)=some (.tup a):=rfl
theorem EY{b:Bool}{x:D}{ds:List D}:inD b x (.lst ds)=if bD x=true/\ds.all bD=true then some (.bl (xor b (ds.any λd=>eqD d x)))else none:=rfl
theorem FV{b:Bool}{x:D}{ds:List D}:inD b x (.tup ds)=if bD x=true/\ds.all bD=true then some (.bl (xor b (ds.any λd=>eqD d x)))else none:=rfl
theorem C3{a b:Int}:eqF (.int a) (.int b)=some (.bl (a==b)):=by simp[eqF,dLe,eqD]
theorem Dj{a b:Str}:eqF (.str a) (.str b)=some (.bl (a==b)):=by simp[eqF,dLe,eqD]
theorem C8{a b:Bool}:eqF (.bl a) (.bl b)=some (.bl (a==b)):=by simp[eqF,dLe,eqD]
theorem E9{ds:List D}{lo hi:Option Int}:slD (.scr ds) lo hi=some (.lst (c8 ds lo hi)):=rfl
theorem Gd{ds:List D}{lo hi:Option Int}:slD (.lst ds) lo hi=some (.lst (c8 ds lo hi)):=rfl
theorem EJ{x:Str}{lo hi:Option Int}:slD (.str x) lo hi=if x.length<=J7 then some (.str (al9 x lo hi))else none:=rfl
theorem xH{a:List D}:jG (.lst a)=some a:=rfl
theorem yh{a:List D}:jG (.tup a)=some a:=rfl
theorem zQ{a:List D}:jG (.scr a)=some a:=rfl
theorem zk{x:Str}:jG (.str x)=if x.length<=J7 then some (gQ x)else none:=rfl
theorem EI{n:Nat}:ixN (n+1) 0=some 0:=by simp[ixN]<;>omega
theorem FO{n:Nat}:ixN (n+2) 1=some 1:=by simp[ixN]<;>omega
theorem Fi{n:Nat}:ixN (n+3) 2=some 2:=by simp[ixN]<;>omega
theorem sz3(n:Nat)(h:n<=1000:=by decide):n<=J7:=R6 h (by decide)
theorem Dp{b:Bool}:BM "bool" (.bl b)=some true:=rfl
end
end L2
namespace L2
theorem Fo{i j:Int}(h:-18446744073709551616<j/\j<18446744073709551616):lb i j=True:=by unfold lb;simp;right;omega
theorem EX{i j:Int}(h:-18446744073709551616<i/\i<18446744073709551616):lb i j=True:=by unfold lb;simp;left;omega
theorem zy:ox 10 18=True:=by simp[ox]
theorem FZ{i j:Int}(h:0<j/\j<1073741824):qE i j=True:=by unfold qE;simp[h]
end L2
namespace L2
open PySem PySem.Spec PyProof.Rows
theorem eN{g:GD}{tc:TTd}{te:TEd}{M:DH}{Q:List D->DH->Prop}(b:D->Bool)(y:D->D)(Ok:DE->Prop):∀(ds:List D) (Δ:DE) (acc:List D),
  (∀d∈ds,∀ Δ,Ok Δ->∃ Δ',g d Δ=some Δ'/\Ok Δ'/\(∀Q1:Bool->DH->Prop,Q1 (b d) M->tc Δ' M Q1)/\(b d=true->∀Q2:D->DH->Prop,Q2 (y d) M->te Δ' M Q2))->Ok Δ ->
  Q (acc++(ds.filter b).map y) M->cV g tc te ds Δ M acc Q
 |[],Δ,acc,_,_,q=>by simpa[cV]using q
 |d::ds,Δ,acc,h,hΔ,q=>by
  simp only[cV];obtain⟨Δ',eg,ok,h1,h2⟩:=h d R4 Δ hΔ;refine⟨Δ',eg,h1 _ ?_⟩;have hr:∀d∈ds,∀ Δ,Ok Δ->∃ Δ',g d Δ=some Δ'/\Ok Δ'/\(∀Q1:Bool->DH->Prop,Q1 (b d) M->tc Δ' M Q1)/\(b d=true->∀Q2:D->DH->Prop,Q2 (y d) M->te Δ' M Q2):=λx hx=>h x (O6 _ hx);cases hb:b d with
  |true =>
   simp only[if_true];refine h2 hb _ (eN b y Ok ds Δ' (acc++[y d]) hr ok ?_);simpa[V3,hb]using q
  |false =>
   simp only[J5,if_false];refine eN b y Ok ds Δ' acc hr ok ?_;simpa[V3,hb]using q
theorem Ap{a b:Str}:eqD (.str a) (.str b)=(a==b):=by simp[eqD]
theorem dF{x:Str}:∀{ws:List Str},(ws.map D.str).any (λd=>eqD d (.str x))=decide (x∈ws)
 |[]=>by simp
 |w::ws=>by
  rw[K2,Z4,dF (ws:=ws),Ap]
  by_cases h:w=x
  ·subst h;simp
  ·have h2:(w==x)=false:=by simpa using h
   have h3:¬ x=w:=λe=>h e.symm;simp[h2,h3]
theorem eR{ws:List Str}:(ws.map D.str).all bD=true:=by
 induction ws with
 |nil=>rfl
 |cons w ws ih=>rw[K2,ac1,ih];rfl
section
variable{X:Cx}{e:N8}{te:TEd}{pos:Pos}
def B3(te:TEd):TSd:=λE Δ M=>te Δ M λd M1=>∃M2,LeM M2 M1/\E.rt d M2
theorem mv{M:DH}{q:K4}{o:HD}(h:M q=none):LeM M (aT M q o):=λa u e=>by
 by_cases ha:a=q
 ·subst ha;rw[h]at e;cases e
 ·rw[aA ha];exact e
end
end L2
namespace L2
open PySem PySem.Spec PyProof.Rows PySem.Builtin.Str
def tx(cs:List Nat):Str:=⟨cs.toArray⟩
theorem El{a b:List Nat}:tx a=tx b↔a=b:=by
 unfold tx;constructor
 ·intro h;injection h with h;simpa using congrArg Array.toList h
 ·intro h;rw[h]
theorem fX(cs:List Nat):(tx cs).cps.toList=cs:=by simp[tx]
theorem fi(cs:List Nat):(tx cs).length=cs.length:=by show(tx cs).cps.size=_;simp[tx]
theorem yZ(a b:List Nat):tx a++tx b=tx (a++b):=by
 show Str.mk (a.toArray++b.toArray)=_;simp[tx]
theorem ED:(U9 "":Str)=tx []:=by decide +kernel
theorem wk{x:Array Nat}:∀k,k<=x.size->(O2 k).filterMap (x[·]?)=x.toList.take k:=by
 intro k
 induction k with
 |zero=>intro _;simp
 |succ k ih =>
  intro h;rw[List.range_succ,af6,ih (by lia)];have hk:x[k]?=some x[k]:=by simp[show k<x.size by lia]
  rw[S8];simp[hk,show k<x.size by lia]
theorem t9(cs:List Nat)(k:Nat):al9 (tx cs) none (some (k:Int))=tx (cs.take k):=by
 have hi:strSliceIndices none (some (k:Int)) 1 (tx cs).length=O2 (min k cs.length):=by
  unfold strSliceIndices sliceRange;rw[fi];have h1:(max 0 (min (if(k:Int)<0 then(k:Int)+(cs.length:Int)else(k:Int)) (cs.length:Int)))=((min k cs.length:Nat):Int):=by
   rw[if_neg (by lia)];lia
  simp only[show(1:Int) > 0 by decide,if_true];rw[h1];have h2:(if(0:Int)<((min k cs.length:Nat):Int)then(((min k cs.length:Nat):Int)-0+1-1) / 1 else 0).toNat=min k cs.length:=by
   split<;>lia
  rw[h2];apply ag1;intro j;rw[L8]
  by_cases hj:j<min k cs.length
  ·rw[List.getElem?_range hj];simp
  ·rw[T4 (by simp;lia)];rfl
 unfold al9;rw[hi]
 by_cases hl:(((1:Int)==1&&(O2 (min k cs.length)).length==(tx cs).length))=true
 ·rw[if_pos hl];have:cs.length<=k:=by
   simp[fi]at hl
   lia
  rw[U3 this]
 ·rw[if_neg hl];have e:(O2 (min k cs.length)).filterMap ((tx cs).cps[·]?)=cs.take k:=by
   rw[wk _ (by simp[tx];lia),fX];rw[List.take_eq_take_iff]
   lia
  rw[e];rfl
theorem fB{α:Type}[DecidableEq α]:∀(V K:List α),V.Nodup->(∀x∈V,x∈K)->V.length<=K.length
 |[],_,_,_=>Q5 _
 |x::V,K,hn,h=>by
  have hx:=h x R4;obtain⟨h1,h2⟩:=af2.mp hn;have:=fB V (K.erase x) h2 λy hy=>(List.mem_erase_of_ne (by rintro rfl;exact h1 hy)).mpr (h y (O6 _ hy));rw[List.length_erase_of_mem hx]at this;have hp:0<K.length:=List.length_pos_of_mem hx;simp only[O3]
  lia
def p6(c:Nat):Prop:=97<=c/\c<=122
def bG(w:Str):Prop:=1<=w.cps.toList.length/\w.cps.toList.length<=8/\∀c∈w.cps.toList,p6 c
abbrev abc:Str:=U9 "abcdefghijklmnopqrstuvwxyz"
def mL:List Nat:=List.range' 97 26
theorem n6:abc=tx mL:=by decide +kernel
theorem Eo{v:Int}(h0:0<=v)(h1:v<26):∃c,p6 c/\ixD (.str abc) (.int v)=some (.str (tx [c])):=by
 obtain⟨n,rfl⟩:=ae5 h0;have hn:n<26:=by lia
 refine⟨97+n,⟨by lia,by lia⟩,?_⟩;have hl:abc.length<=J7:=by rw[n6,fi];exact sz3 _
 have ha:atI abc.cps.toList (n:Int)=some (97+n):=by
  rw[n6,fX];exact bA (by unfold mL;rw[List.getElem?_range' hn];simp)
 rw[Cq,if_pos hl,ha];rfl
end L2
namespace L2
open PySem PySem.Spec PyProof.Rows
theorem o3{g:GD}{tb:TSd}{E:gE}{all:List D}(I:Nat->DE->DH->Prop)
  (step:∀(i:Nat) (d:D) (Δ:DE) (M:DH) (X:DE->DH->Prop),all[i]?=some d->I i Δ M->(∀ Δ' M',I (i+1) Δ' M'->X Δ' M')->∃ Δ',g d Δ=some Δ'/\tb { E with nx:=X,ct:=X,bk:=E.nx } Δ' M)
  (fin:∀ Δ M,I all.length Δ M->E.nx Δ M):∀(ds:List D) (i:Nat) (Δ:DE) (M:DH),all.drop i=ds->i<=all.length->I i Δ M->dh g tb E ds Δ M
 |[],i,Δ,M,e,hi,h=>by
  have:i=all.length:=by
   have:=congrArg T6 e;simp at this;lia
  subst this;simpa only[dh]using fin Δ M h
 |d::ds,i,Δ,M,e,hi,h=>by
  have hlt:i<all.length:=by
   have:=congrArg T6 e;simp at this;lia
  have hd:all[i]?=some d:=by
   have:=congrArg List.head? e;simpa using this
  have hn:all.drop (i+1)=ds:=by
   rw[<-List.tail_drop,e];rfl
  simp only[dh];exact step i d Δ M _ hd h λΔ' M' h'=>o3 I step fin ds (i+1) Δ' M' hn hlt h'
theorem aP{g:GD}{tb:TSd}{E:gE}{ds:List D}{Δ:DE}{M:DH}(I:Nat->DE->DH->Prop)(h0:I 0 Δ M)
  (step:∀(i:Nat) (d:D) (Δ:DE) (M:DH) (X:DE->DH->Prop),ds[i]?=some d->I i Δ M->(∀ Δ' M',I (i+1) Δ' M'->X Δ' M')->∃ Δ',g d Δ=some Δ'/\tb { E with nx:=X,ct:=X,bk:=E.nx } Δ' M)
  (fin:∀ Δ M,I ds.length Δ M->E.nx Δ M):dh g tb E ds Δ M:=o3 I step fin ds 0 Δ M rfl (Q5 _) h0
theorem tO{g:GD}{tc:TTd}{te:TEd}{all:List D}{Q:List D->DH->Prop}(I:Nat->List D->DE->DH->Prop)
  (step:∀ (i:Nat) (d:D) (acc:List D) (Δ:DE) (M:DH) (X:List D → DE → DH → Prop),all[i]? = some d → I i acc Δ M → (∀ acc' Δ' M',I (i + 1) acc' Δ' M' → X acc' Δ' M') →
   ∃ Δ',g d Δ=some Δ'/\tc Δ' M λb M1=>if b=true then te Δ' M1 λy M2=>X (acc++[y]) Δ' M2 else X acc Δ' M1)
  (fin:∀acc Δ M,I all.length acc Δ M->Q acc M):∀(ds:List D) (i:Nat) (acc:List D) (Δ:DE) (M:DH),all.drop i=ds->i<=all.length->I i acc Δ M->cV g tc te ds Δ M acc Q
 |[],i,acc,Δ,M,e,hi,h=>by
  have:i=all.length:=by
   have:=congrArg T6 e;simp at this;lia
  subst this;simpa only[cV]using fin acc Δ M h
 |d::ds,i,acc,Δ,M,e,hi,h=>by
  have hlt:i<all.length:=by
   have:=congrArg T6 e;simp at this;lia
  have hd:all[i]?=some d:=by
   have:=congrArg List.head? e;simpa using this
  have hn:all.drop (i+1)=ds:=by
   rw[<-List.tail_drop,e];rfl
  simp only[cV];exact step i d acc Δ M (λacc' Δ' M'=>cV g tc te ds Δ' M' acc' Q) hd h λacc' Δ' M' h'=>tO I step fin ds (i+1) acc' Δ' M' hn hlt h'
theorem nv{g:GD}{tc:TTd}{te:TEd}{ds:List D}{Δ:DE}{M:DH}{Q:List D->DH->Prop}(I:Nat->List D->DE->DH->Prop)(h0:I 0 [] Δ M)
  (step:∀ (i:Nat) (d:D) (acc:List D) (Δ:DE) (M:DH) (X:List D → DE → DH → Prop),ds[i]? = some d → I i acc Δ M → (∀ acc' Δ' M',I (i + 1) acc' Δ' M' → X acc' Δ' M') →
   ∃ Δ',g d Δ=some Δ'/\tc Δ' M λb M1=>if b=true then te Δ' M1 λy M2=>X (acc++[y]) Δ' M2 else X acc Δ' M1)
  (fin:∀acc Δ M,I ds.length acc Δ M->Q acc M):cV g tc te ds Δ M [] Q:=tO I step fin ds 0 [] Δ M rfl (Q5 _) h0
theorem szB(n:Nat)(h:n<=16000000:=by decide):n<=J7:=R6 h (by decide)
theorem dZ{α:Type}{f:α->D}{xs:List α}{i:Nat}{d:D}(h:(xs.map f)[i]?=some d):∃x,xs[i]?=some x/\d=f x:=by
 rw[L8]at h;cases e:xs[i]? with
 |none=>rw[e]at h;cases h
 |some x=>rw[e]at h;cases h;exact⟨x,rfl,rfl⟩
theorem sJ{K:H0}{M:DH}{H:Hp}:∀ns:List Int,aq K M H (ns.map D.int) (ns.map V.int)
 |[]=>aq.nil
 |n::ns=>aq.cons (by simp[Rep]) (sJ ns)
theorem xx{K:H0}{H:Hp}{a:K4}{ns:List Int}(hO:AE H)(hS:SqL K H a (ns.map V.int)):aq K noM H [.scr (ns.map D.int)] [.ref a]:=by
 refine aq.cons ?_ aq.nil;simp only[Rep];refine⟨a,ns.map V.int,rfl,?_,sJ ns⟩;rcases hS with h|h
 ·left;rcases h with h|h
  ·rcases hO a with z|⟨o,xs,z⟩<;>(rw[h]at z;cases z)
  ·exact⟨h,rfl⟩
 ·right;exact .inr h
def Fd(S:SpD):Prop:=∀(ns:List Int) (R:D->DH->Prop),ns.length<=63->(∀M',R (.bl true) M')->S [.scr (ns.map .int)] noM R
theorem FD{S:SpD}(hS:Fd S){k:Nat}{x:Str}{l:PySem.W.OpenLaw}{q:N4}{loose:List Str}{XP:(Str->Option J0)->N0->Prop}{YP:S2->N0->Prop}{d:DefRec}{K:Params->H0}(hr:de k ap6)(hn:l.most=some 63)(hdf:d.params.defaults=[])
  (hY:∀(w:S2) (h:N0),YP w h->(K w.params).In h)
  (F:∀ (w:S2) (mg:Str → Option J0) (fa:K4) (h:N0),(K w.params).In h → h.Ns K9 mg → mg d.name = some (.ref fa) →
   ∃fd:L4,(∀(s:J4) (u:J0),aq6 s fd ⟨[u],[]⟩ [(x,u)])/\∀base:N0,(K w.params).In base->base.Ns K9 mg->aV l.prog w (K w.params) mg base CX0 k fa fd [x] (spD (K w.params) 1 S)) :
  PySem.W.WalkO q loose XP YP l.row.toRowW d [] (λf vs=>PySem.call f vs) :=
 L2.uZ (n:=63) (k:=k) (x:=x) (CX:=λ_=>CX0) (sp:=λw=>spD (K w.params) 1 S) hn (by decide) hdf hr hY F
  (λw H a ns hl hO hq=>⟨[.scr (ns.map .int)],noM,λd _=>d=.bl true,rfl,xx hO hq,HR.nil,hS ns _ hl (λ_=>rfl),λd M' v H' e _ _ rv=>by subst e;simpa only[Rep]using rv⟩) λ_ _ _ _ _ z=>z
theorem DI:J7<2 ^ 62:=by decide
section
variable{X:Cx}
def neF(x y:D):Option D:=if dLe x 60=true/\dLe y 60=true then some (.bl (!(eqD x y)))else none
theorem mJ(hu:X.A.units+64<ac8):bY X (Q0 .NotEq) neF:=by
 intro af s σ H M x y v u dx dy dz Q I hr rx ry r1 r2 e k;unfold neF at e
 by_cases hc:dLe dx 60=true/\dLe dy 60=true
 ·rw[if_pos hc]at e;cases e;exact(mK I 60 (A:=X.A) (by lia) hc.1 hc.2 r1 r2 rx ry).2.2 X.prog X.w X.xe _ ⟨.bl (!(eqD dx dy)),H,I,rfl,k _ H (Ext.refl _ _) hr (by simp[Rep])⟩
 ·rw[if_neg hc]at e;cases e
theorem qC{a b:Int}:neF (.int a) (.int b)=some (.bl (!(a==b))):=by simp[neF,dLe,eqD]
theorem CN{a b:Str}:neF (.str a) (.str b)=some (.bl (!(a==b))):=by simp[neF,dLe,eqD]
theorem C2{a b:Bool}:neF (.bl a) (.bl b)=some (.bl (!(a==b))):=by simp[neF,dLe,eqD]
end
end L2
namespace HT
open PySem PyProof.Rows
section
variable{prog:N4}{w:S2}{A:P5}{E:J0->J4->Prop}{s:J4}
theorem om{t:K4}{items:Array J0}{Q:Bool->J4->Prop}(ht:ak1 s.heap t items)(h:Q true s):L3 (N9 prog w) A (L6.Tuple.tupleIsExact (.ref t)) Q E s:=by
 unfold L6.Tuple.tupleIsExact;exact o0 (ai1 ht.typeIs (J3 (by simpa using h)))
theorem getItem_tuple_whole{t sl:K4}{items:Array J0}{vl vu:J0}{lo hi:Option Int}{Q:J0->J4->Prop}(ht:ak1 s.heap t items)(hs:s.heap.IsSliceOf sl vl vu .none)(pl:aq2 vl lo)(pu:aq2 vu hi)
  (hw:sIx items.size 0 lo=0/\sIx items.size items.size hi=items.size) (h:Q (.ref t) s):L3 (N9 prog w) A (al4 (.ref t) (.ref sl)) Q E s:=by
 obtain⟨os,hos,hcs,hds⟩:=id hs;have hTs:s.TypeIs (.ref sl) "slice":=⟨os,hos,hcs⟩;unfold al4
 try with_reducible refine U4 ?_
 first|refine o0 (J3 ?_)|skip
 refine o0 (wpAny_sequenceKey ht.typeIs (by decide) ?_);refine o0 (V7 (name:=U9 "__getitem__") ht.typeIs O9
  (X4 O9 ht.typeIs entry_tuple_getitem ?_ (args_tuple_getitem _ _)))
 show L3 _ _ (X6 (.ref t) >>= _) _ _ s;refine o0 (an7 ht ?_);refine o0 (ai1 hTs ?_);rw[if_pos (by decide)];refine o0 (fD hs pl pu ?_);show L3 _ _ (if(((sIx items.size 0 lo:Nat):Int)==0&&(1:Int)==1&&(sIx items.size items.size hi-sIx items.size 0 lo)==items.size)=true then _ else _) _ _ s;rw[if_pos (by rw[hw.1,hw.2];simp)];refine o0 (om ht ?_);rw[if_pos rfl];refine o0 (ae9 ?_)
 first
  |exact J3 ⟨_,rfl,J3 h⟩
  |exact o0 (J3 (J3 ⟨_,rfl,J3 h⟩))
theorem kT{sl:K4}{tk:Tok}{n:Nat}{Q:Int×Int×Nat->J4->Prop}(hs:s.heap.IsSliceOf sl .none .none (.int (-1) tk))
  (h:Q ((n:Int)-1,-1,n) s):L3 (N9 prog w) A (ab5 (.ref sl) (ag9 (n:Int))) Q E s:=by
 obtain⟨os,hos,hcs,hds⟩:=id hs;unfold ab5 L6.Slice.sliceFields;refine o0 (o0 (U8 hos hds (x:=.none) rfl (o0 (U8 hos hds (x:=.none) rfl (o0 (U8 hos hds (x:=.int (-1) tk) rfl (J3 ?_)))))));refine o0 (slicePart_int ?_);show L3 _ _ (if((-1:Int)==0)=true then _ else _) _ _ s;rw[if_neg (by decide)];refine o0 (am9 (o0 (am9 (o0 (J3 ?_)))));show L3 _ _ (ag9 ((n:Int)-1,(-1:Int),T8 ((n:Int)-1) (-1) (-1))) _ _ s;have e:T8 ((n:Int)-1) (-1) (-1)=n:=by
  unfold T8;simp only[show ¬ ((-1:Int) > 0)by omega,if_false]
  split<;>simp<;>omega
 rw[e];exact J3 h
theorem yp(xs:Array J0):((O2 xs.size).filterMap λ(m:Nat)=>xs[((xs.size:Int)-1+(m:Int)*-1).toNat]?)=xs.toList.reverse:=by
 have:∀k,k<=xs.size->((O2 k).filterMap λ(m:Nat)=>xs[((xs.size:Int)-1+(m:Int)*-1).toNat]?)=xs.toList.reverse.take k:=by
  intro k
  induction k with
  |zero=>intro _;simp
  |succ k ih =>
   intro hk;rw[List.range_succ,af6,ih (by omega)];have e1:((xs.size:Int)-1+(k:Int)*-1).toNat=xs.size-1-k:=by omega
   have e2:xs[xs.size-1-k]?=some xs[xs.size-1-k]:=by simp[show xs.size-1-k<xs.size by omega]
   have e3:xs.toList.reverse[k]?=some xs[xs.size-1-k]:=by
    rw[List.getElem?_reverse (by simp;omega)];simpa using e2
   rw[S8,e3];have e4:(List.filterMap (λ(m:Nat)=>xs[((xs.size:Int)-1+(m:Int)*-1).toNat]?) [k])=[xs[xs.size-1-k]]:=by
    rw[R5,e1,e2];rfl
   rw[e4];rfl
 rw[this xs.size (J6 _)];exact U3 (by simp)
theorem getItem_tuple_rev{t sl:K4}{items:Array J0}{tk:Tok}{Q:J0->J4->Prop}(ht:ak1 s.heap t items)(hs:s.heap.IsSliceOf sl .none .none (.int (-1) tk))
  (h:Q (.ref s.heap.objs.size) { s with heap:=s.heap.push { cls:=.type "tuple",data:=.seq items.toList.reverse.toArray } }) (hsz:items.size<=J7):L3 (N9 prog w) A (al4 (.ref t) (.ref sl)) Q E s:=by
 have htake:sizeOk (.seq items.toList.reverse.toArray):=by
  show items.toList.reverse.toArray.size<=J7;simpa using hsz
 obtain⟨os,hos,hcs,hds⟩:=id hs;have hTs:s.TypeIs (.ref sl) "slice":=⟨os,hos,hcs⟩;unfold al4
 try with_reducible refine U4 ?_
 first|refine o0 (J3 ?_)|skip
 refine o0 (wpAny_sequenceKey ht.typeIs (by decide) ?_);refine o0 (V7 (name:=U9 "__getitem__") ht.typeIs O9
  (X4 O9 ht.typeIs entry_tuple_getitem ?_ (args_tuple_getitem _ _)))
 show L3 _ _ (X6 (.ref t) >>= _) _ _ s;refine o0 (an7 ht ?_);refine o0 (ai1 hTs ?_);rw[if_pos (by decide)];refine o0 (kT hs ?_);show L3 _ _ (if((((items.size:Int)-1)==0&&(-1:Int)==1&&items.size==items.size)=true)then _ else _) _ _ s;rw[if_neg (by simp),yp]
 first
  |exact o0 (m:=P9 _) (S7 (J3 ⟨_,rfl,J3 h⟩) htake)
  |exact o0 (m:=P9 _) (S7 (o0 (J3 (J3 ⟨_,rfl,J3 h⟩))) htake)
  |exact o0 (o0 (m:=P9 _) (S7 (J3 (J3 ⟨_,rfl,J3 h⟩)) htake))
  |exact o0 (o0 (m:=P9 _) (S7 (J3 ⟨_,rfl,J3 h⟩) htake))
end
end HT
namespace L2
open PySem PySem.Spec PyProof.Rows
section
variable{X:Cx}{a b c e:N8}{es:List N8}{te ta tb ts:TEd}{t:TAd}{pos:Pos}
def slE:D->Option Int->Option Int->Option D
 |.tup ds,lo,hi=>some (.tup (c8 ds lo hi))
 |d,lo,hi=>slD d lo hi
def GT(K:H0):V->Option Int->Option Int->Hp->VK->Prop:=λx lo hi H Q=>∃a xs,x=.ref a/\SqT K H a xs/\(HT.sIx xs.length 0 lo=0/\HT.sIx xs.length xs.length hi=xs.length)/\Q (.ref a) H
theorem yy:SlR X (GT X.K):=by
 intro af s σ H x v vl vu lo hi sl Q I rx hs pl pu h;obtain⟨a,xs,rfl,hx,hw,q⟩:=h;cases rx;obtain⟨its,r,ht,hz⟩:=I.tuple hx;have cJ:its.toArray.size=xs.length:=by rw[J8];exact r.length.symm
 exact⟨"tuple",_,O9.lookup,ht.typeIs,HT.getItem_tuple_whole ht hs pl pu (by rw[cJ];exact hw) ⟨.ref a,H,I,rfl,q⟩⟩
theorem uJ{ds:List D}{lo hi:Option Int}(h:HT.sIx ds.length 0 lo=0/\HT.sIx ds.length ds.length hi=ds.length):c8 ds lo hi=ds:=by
 unfold c8;rw[h.1,h.2];simp
def Fl(te:TEd)(tl th:TOd):TEd:=λΔ M Q=>te Δ M λx M1=>tl Δ M1 λl M2=>th Δ M2 λu M3=>∃z,slE (rdM M3 x) l u=some z/\Q z M3
theorem Ff{ds:List D}{lo hi:Option Int}:slE (.tup ds) lo hi=some (.tup (c8 ds lo hi)):=rfl
theorem Cd{ds:List D}{lo hi:Option Int}:slE (.lst ds) lo hi=some (.lst (c8 ds lo hi)):=rfl
theorem EL{ds:List D}{lo hi:Option Int}:slE (.scr ds) lo hi=some (.lst (c8 ds lo hi)):=rfl
theorem E7{x:Str}{lo hi:Option Int}:slE (.str x) lo hi=if x.length<=J7 then some (.str (al9 x lo hi))else none:=rfl
theorem aq.reverse{K:H0}{M:DH}{H:Hp}:∀{ds:List D}{vs:List V},aq K M H ds vs->aq K M H ds.reverse vs.reverse
 |[],_,h=>by simp only[aq]at h;subst h;exact aq.nil
 |d::ds,_,h=>by
  simp only[aq]at h;obtain⟨v,ws,rfl,h1,h2⟩:=h;rw[aj3,aj3];exact(aq.reverse h2).append (aq.cons h1 aq.nil)
def zz(te ts:TEd):TEd:=λΔ M Q=>te Δ M λx M1=>ts Δ M1 λst M2=>st=.int (-1)/\∃ds,x=.tup ds/\Q (.tup ds.reverse) M2
def xP:TSd:=λ_ _ _=>False
variable{scope:af8}{cl:List (Str×K4)}{ar:List Str}{tg:N8}
def A1(X:Cx)(scope:af8)(cl:List (Str×K4))(ar:List Str)(tgs:List N8)(g:GDs):Prop:=∃gv:TGs,(∀C s H ex,PGs (aN X scope cl (X.N++ar) C s H ex) tgs gv)/\∀(ds:List D) (vs:List V) (σ:St) (Δ Δ':DE) (M:DH) (H:Hp) (Q:St->Hp->Prop),SR X.K M H σ Δ->HR X.K M H->aq X.K M H ds vs->g ds Δ=some Δ'->(∀ σ',SR X.K M H σ' Δ'->Q σ' H)->gv vs σ H Q
theorem gZ:A1 X scope cl ar [] sL:=⟨DZ,λ_ _ _ _=>vO,λds vs σ Δ Δ' M H Q sr hr rv e k=>by
 cases ds with
 |nil=>simp only[aq]at rv;subst rv;cases e;exact⟨rfl,k _ sr⟩
 |cons _ _=>cases e⟩
theorem bQ{tgs:List N8}{g:GD}{gs:GDs}(h1:PGa X scope cl ar tg g)(h2:A1 X scope cl ar tgs gs)
  (hs:∀env,(Z8 (tg::tgs) env).map (·.2)=ao4 tg env::(Z8 tgs env).map (·.2):=by intro _;rfl):A1 X scope cl ar (tg::tgs) (gX g gs):=by
 obtain⟨g1,p1,k1⟩:=h1;obtain⟨g2,p2,k2⟩:=h2;refine⟨yl g1 g2,λC s H ex=>sV (p1 C s H ex) (p2 C s H ex) (hs _),λds vs σ Δ Δ' M H Q sr hr rv e k=>?_⟩;cases ds with
 |nil=>cases e
 |cons d r =>
  simp only[aq]at rv;obtain⟨v,ws,rfl,h3,h4⟩:=rv;simp only[gX]at e;cases q:g d Δ with
  |none=>rw[q]at e;cases e
  |some Δ1 =>
   rw[q]at e;exact⟨v,ws,rfl,k1 d v σ Δ Δ1 M H _ sr hr h3 q λσ1 sr1=>k2 r ws σ1 Δ1 Δ' M H Q sr1 hr h4 e k⟩
theorem ip{tgs:List N8}{kx:Nat}{g:GDs}{n:Nat}(hc:X.calm=true)(h:A1 X scope cl ar tgs g)(hn:∀env,(Z8 tgs env).length=n:=by intro _;rfl)(hst:∀env,(Z8 tgs env).findIdx? (·.1)=none:=by intro _;rfl):PGa X scope cl ar (.Tuple tgs kx pos) (nT g n):=by
 obtain⟨g1,p1,k1⟩:=h;refine⟨Dg X.K n g1,λC s H ex=>xO (X:=aN X scope cl (X.N++ar) C s H ex) hc (p1 C s H ex) (hn _) (hst _),λd v σ Δ Δ' M H Q sr hr rv e k=>?_⟩;cases d with
 |tup ds =>
  simp only[nT]at e
  by_cases hl:ds.length=n
  ·rw[if_pos hl]at e;simp only[Rep]at rv;obtain⟨a,vs,rfl,ta,rl⟩:=rv;exact⟨a,vs,rfl,ta.sq,by rw[<-rl.length];exact hl,k1 ds vs σ Δ Δ' M H Q sr hr rl e k⟩
  ·rw[if_neg hl]at e;cases e
 |_=>cases e
end
section
variable{X:Cx}{a b c e:N8}{es:List N8}{te ta tb ts:TEd}{t:TAd}{pos:Pos}
def inE(neg:Bool)(x y:D):Option D:=match y with
 |.str j=>match x with
  |.str i=>some (.bl (xor neg (!(ae1 j i 0 j.length 1).isEmpty)))
  |_=>none
 |y=>inD neg x y
theorem mx:bY X (Q0 .In) (inE false):=by
 intro af s σ H M x y v u dx dy dz Q I hr rx ry r1 r2 e k;cases dy with
 |str j =>
  cases dx with
  |str i =>
   cases e;exact wq af s σ H x y v u Q I rx ry ⟨i,j,oy r1,oy r2,k _ H (Ext.refl _ _) hr (by simp[Rep])⟩
  |_=>cases e
 |_=>exact Gu af s σ H M x y v u dx _ dz Q I hr rx ry r1 r2 e k
theorem tI:bY X (Q0 .NotIn) (inE true):=by
 intro af s σ H M x y v u dx dy dz Q I hr rx ry r1 r2 e k;cases dy with
 |str j =>
  cases dx with
  |str i =>
   cases e;exact qV af s σ H x y v u Q I rx ry ⟨i,j,oy r1,oy r2,k _ H (Ext.refl _ _) hr (by simp[Rep])⟩
  |_=>cases e
 |_=>exact BE af s σ H M x y v u dx _ dz Q I hr rx ry r1 r2 e k
theorem FI{b:Bool}{x:D}{ds:List D}:inE b x (.lst ds)=if bD x=true/\ds.all bD=true then some (.bl (xor b (ds.any λd=>eqD d x)))else none:=rfl
theorem Fq{b:Bool}{x:D}{ds:List D}:inE b x (.tup ds)=if bD x=true/\ds.all bD=true then some (.bl (xor b (ds.any λd=>eqD d x)))else none:=rfl
theorem B8{b:Bool}{c:Nat}{y:Str}:inE b (.str (tx [c])) (.str y)=some (.bl (xor b (decide (c∈y.cps.toList)))):=by
 show some (D.bl (xor b (!(ae1 y ⟨#[c]⟩ 0 y.length 1).isEmpty)))=_;rw[StrLaws.found_one]
def xX(to te:TEd):TEd:=λΔ M Q=>to Δ M λo M1=>∃a l,o=.ref a/\M1 a=some (.lst l)/\te Δ M1 λd M2=>∃(i:Nat) (ds:List D) (x:D),d=.int i/\M2 a=some (.lst ds)/\ds.length<=J7/\ds[i]?=some x/\Q x (aT M2 a (.lst (ds.eraseIdx i)))
theorem aq.erase{K:H0}{M:DH}{H:Hp}:∀{ds:List D}{vs:List V}(n:Nat),aq K M H ds vs->aq K M H (ds.eraseIdx n) (vs.eraseIdx n)
 |[],_,n,h=>by simp only[aq]at h;subst h;simp[aq]
 |d::ds,_,0,h=>by
  simp only[aq]at h;obtain⟨v,us,rfl,h1,h2⟩:=h;exact h2
 |d::ds,_,n+1,h=>by
  simp only[aq]at h;obtain⟨v,us,rfl,h1,h2⟩:=h;exact aq.cons h1 (aq.erase n h2)
theorem lh:fillsNumberSlot (.type "tuple") "mul"=ag9 false :=
 PySem.fillsNumberSlot_seq (id:="tuple.__mul__") (r:=some (.builtin "tuple.__rmul__")) F.slot_tuple_mul.lookup (by decide +kernel) F.slot_tuple_rmul.lookup (by decide +kernel)
theorem p8:seqRepeat? (.type "tuple")=ag9 (some (.builtin "tuple.__mul__")):=by
 unfold seqRepeat?;rw[PySem.seqSlot_of (T:="tuple") (name:="__mul__") (id:="tuple.__mul__") F.slot_tuple_mul.lookup (by decide +kernel),PySem.seqSlot_of (T:="tuple") (name:="__rmul__") (id:="tuple.__rmul__") F.slot_tuple_rmul.lookup (by decide +kernel)];rfl
theorem my(a:Int)(t:Tok)(l:K4)(items:Array J0):
  Meets (L6.«int.__rmul__» ⟨[.int a t,.ref l],[]⟩) (λ_ R s=>ak1 s.heap l items/\R (.ok (.ret J0.notImplemented)) s) :=
 .of_wp λprog w A R s h=>by
  obtain⟨hp,g,d,tk,os⟩:=s;obtain⟨⟨⟨cls,dd,data,sl⟩,ho,hc,n,hd⟩,h⟩:=h;simp only at hc hd;subst hc hd
  wp_walk;exact⟨_,rfl,h⟩
theorem oE(l:K4)(items:Array J0)(x:Int)(u:Tok)(hne:items.isEmpty=false)(hx:2<=x)(hx2:x<2 ^ 62)(hz:items.size*x.toNat<=J7):
  Meets (L6.«tuple.__mul__» ⟨[.ref l,.int x u],[]⟩) (λ_ R s=>ak1 s.heap l items/\R (.ok (.ret (.ref s.heap.objs.size))) { s with heap:=s.heap.push { cls:=.type "tuple",data:=.seq (M7 x.toNat items.toList).flatten.toArray } }) :=
 .of_wp λprog w A R s h=>by
  obtain⟨ht,h⟩:=h;show L3 _ _ (do
   let n <-asIndex (.int x u)
   if n < -(2 ^ 63) || n>=2 ^ 63 then
    rule "tuple.repeat.overflow";raiseError "OverflowError" s!"cannot fit '{← typeNameOf (.int x u)}' into an index-sized integer"
   let xs <-X6 (.ref l)
   if xs.isEmpty || n==1 then
    if <-L6.Tuple.tupleIsExact (.ref l)then rule "tuple.repeat.same-object";return <-ret (.ref l)
   if n<=0 || xs.isEmpty then return <-ret (<-P9 #[])
   if xs.size*n > (2 ^ 63-1) / 8 then rule "tuple.repeat.no-memory";raiseNew (<-newExc (.type "MemoryError") [])
   if L6.Tuple.tupleTooMany (xs.size*n)then ap8 "tuple.__mul__:memory"
   ret (<-P9 ((M7 n.toNat xs).foldl (·++·) #[]))) _ _ s
  refine o0 (wpAny_of_eq (a:=x) rfl ?_);dsimp only;rw[if_neg (by simp only[Bool.or_eq_true,decide_eq_true_eq];lia)];refine o0 (an7 ht ?_);rw[if_neg (by simp[hne];lia)];rw[if_neg (by simp[hne];lia)];have hxn:((x.toNat:Nat):Int)=x:=by lia
  have hm:(items.size:Int)*x=((items.size*x.toNat:Nat):Int):=by rw[Int.natCast_mul,hxn]
  have h16:J7=16777216:=rfl;rw[if_neg (by rw[hm];lia)];rw[if_neg (by unfold L6.Tuple.tupleTooMany;rw[hm];simp only[decide_eq_true_eq];lia)];have hf:aq8 (λx1 x2=>x1++x2) #[] (M7 x.toNat items)=(M7 x.toNat items.toList).flatten.toArray:=by
   have:=kN items.toList x.toNat [];rw[N5]at this;simpa using this
  rw[hf];have hs:sizeOk (.seq (M7 x.toNat items.toList).flatten.toArray):=by
   show(M7 x.toNat items.toList).flatten.toArray.size<=J7;rw[J8,qI,L1,ak3];exact hz
  exact o0 (m:=P9 _) (S7 (J3 ⟨_,rfl,h⟩) hs)
theorem aq.rep{K:H0}{M:DH}{H:Hp}{ds:List D}{vs:List V}(h:aq K M H ds vs):∀k:Nat,aq K M H (M7 k ds).flatten (M7 k vs).flatten
 |0=>aq.nil
 |k+1=>by
  rw[X9,X9,ad2,ad2];exact h.append (aq.rep h k)
def uQ:D->D->Option D
 |.int a,.int b=>if lb a b then some (.int (a*b))else none
 |.str x,.int n=>if x.length<=16777216/\-(2 ^ 63)<=n/\n<=16777216/\x.length*n.toNat<=16777216 then some (.str (Txt.mul x n))else none
 |.tup ds,.int n=>if 2<=n/\n<2 ^ 62/\ds≠[]/\ds.length*n.toNat<=J7 then some (.tup (M7 n.toNat ds).flatten)else none
 |.lst ds,.int n=>if -(2 ^ 63)<=n/\n<2 ^ 63/\ds.length*n.toNat<=J7 then some (.lst (M7 n.toNat ds).flatten)else none
 |_,_=>none
theorem gb:bY X (Z9 .Mult) uQ:=by
 intro af s σ H M x y v u dx dy dz Q I hr rx ry r1 r2 e k;cases dx with
 |int a =>
  cases dy with
  |int b=>exact D9 af s σ H M x y v u _ _ dz Q I hr rx ry r1 r2 e k
  |_=>cases e
 |str z =>
  cases dy with
  |int n =>
   simp only[uQ]at e
   by_cases hc:z.length<=16777216/\-(2 ^ 63)<=n/\n<=16777216/\z.length*n.toNat<=16777216
   ·rw[if_pos hc]at e;cases e;have e1:=oy r1;have e2:=fT r2;subst e1;subst e2;obtain⟨t1,rfl⟩:=rx;obtain⟨t2,rfl⟩:=ry;have hok:MulOk z n:=by
     by_cases hn:0<=n
     ·exact mulOk_of z.length n.toNat (J6 _) (by lia) hc.2.1 (by lia) hc.2.2.2
     ·exact mulOk_of z.length 0 (J6 _) (by lia) hc.2.1 (by lia) (by lia)
    exact SB.mul hok λt' kk=>⟨.str _,H,I.tok _,⟨t',rfl⟩,k _ H (Ext.refl _ _) hr (by simp[Rep])⟩
   ·rw[if_neg hc]at e;cases e
  |_=>cases e
 |tup ds =>
  cases dy with
  |int n =>
   simp only[uQ]at e
   by_cases hc:2<=n/\n<2 ^ 62/\ds≠[]/\ds.length*n.toNat<=J7
   ·rw[if_pos hc]at e;cases e;have e2:=fT r2;subst e2;obtain⟨t2,rfl⟩:=ry;obtain⟨a,vs,rfl,sq,rl⟩:=r1;cases rx;obtain⟨its,rv,pt,hz⟩:=I.tuple sq;have hl1:=rv.length;have hl2:=rl.length;have hne:its.toArray.isEmpty=false:=by
     cases its with
     |nil =>
      have h0:ds.length=0:=by rw[hl2,hl1];rfl
      exact absurd (List.length_eq_zero_iff.mp h0) hc.2.2.1
     |cons _ _=>rfl
    have hzz:its.toArray.size*n.toNat<=J7:=by rw[J8,<-hl1,<-hl2];exact hc.2.2.2
    refine wpAny_binaryOp_repeat_ref (T:="tuple") (U:="int") (by decide) pt.typeIs (λs'=>ap0 s' n t2) lh F.fills_int_mul al7 p8 F.slot_int_index.lookup
     (ai2 al7 (ap0 s n t2) F.entry_int_rmul (F.args_int_rmul_2 _ _) (my n t2 a its.toArray)
      ⟨pt,rfl,pt.typeIs,ai2 F.slot_tuple_mul pt.typeIs F.entry_tuple_mul (F.args_tuple_mul_2 _ _) (oE a its.toArray n t2 hne hc.1 hc.2.1 hzz) ⟨pt,?_⟩⟩)
    have rr:ay (M7 n.toNat vs).flatten (M7 n.toNat its).flatten:=rv.rep n.toNat;refine⟨.ref s.heap.objs.size,_,I.laid (t':=s.toks) (o:=.tup (M7 n.toNat vs).flatten) (λb ob q=>I0 _ q) (J6 _) ?_,rfl,?_⟩
    ·refine⟨?_,_,rr,by simpa using jv.new _ _⟩;rw[qI,ak3,<-hl2];exact hc.2.2.2
    ·exact oa hr (I.hok.fresh (J6 _)) (rl.rep n.toNat) k
   ·rw[if_neg hc]at e;cases e
  |_=>cases e
 |lst ds =>
  cases dy with
  |int n =>
   simp only[uQ]at e
   by_cases hc:-(2 ^ 63)<=n/\n<2 ^ 63/\ds.length*n.toNat<=J7
   ·rw[if_pos hc]at e;cases e;obtain⟨a,vs,rfl,sq,rl⟩:=r1;exact DC af s σ H _ _ v u Q I rx ry ⟨a,n,vs,rfl,fT r2,sq,hc.1,hc.2.1,by rw[<-rl.length];exact hc.2.2,λp hp=>ft hr hp (rl.rep n.toNat) k⟩
   ·rw[if_neg hc]at e;cases e
  |_=>cases e
 |_=>cases e
theorem Ai{a b:Int}:uQ (.int a) (.int b)=if lb a b then some (.int (a*b))else none:=rfl
def rN:D->Bool
 |.non=>true
 |_=>false
def vS(neg:Bool)(x y:D):Option D:=match y with|.non=>some (.bl (xor neg (rN x)))|_=>none
theorem Bm{K:H0}{M:DH}{H:Hp}{d:D}{x:V}(r:aX K M H d x):decide (x=V.non)=rN d:=by
 cases d with
 |tup ds=>obtain⟨a,vs,rfl,_⟩:=r;rfl
 |lst ds=>obtain⟨a,vs,rfl,_⟩:=r;rfl
 |scr ds=>obtain⟨a,vs,rfl,_⟩:=r;rfl
 |emp=>simp only[aX,Rep]at r;obtain⟨a,rfl,_⟩:=r;rfl
 |box _ _=>simp only[aX,Rep]at r;obtain⟨a,_,rfl,_⟩:=r;rfl
 |_=>simp only[aX,Rep]at r;subst r;rfl
theorem GJ:bY X (Q0 .Is) (vS false):=by
 intro af s σ H M x y v u dx dy dz Q I hr rx ry r1 r2 e k;cases dy with
 |non =>
  cases e;refine CY af s σ H x y v u Q I rx ry ⟨GH r2,?_⟩;rw[Bm r1];exact k _ H (Ext.refl _ _) hr (by simp[Rep])
 |_=>cases e
theorem wG{b:Bool}{x:D}:vS b x .non=some (.bl (xor b (rN x))):=rfl
variable{scope:af8}{cl:List (Str×K4)}{ms:List Bool}{ar:List Str}{ifs:List N8}{tg iter elt:N8}
end
@[irreducible] def QEd(X:Cx)(e:N8)(t:TEd):Prop:=PEd X e t
theorem QEd.eq{X:Cx}{e:N8}{t:TEd}:QEd X e t=(PEd X e t):=by unfold QEd;rfl
@[irreducible] def QAd(X:Cx)(e:List N8)(t:TAd):Prop:=PAd X e t
theorem QAd.eq{X:Cx}{e:List N8}{t:TAd}:QAd X e t=(PAd X e t):=by unfold QAd;rfl
@[irreducible] def QTd(X:Cx)(e:N8)(t:TTd):Prop:=PTd X e t
theorem QTd.eq{X:Cx}{e:N8}{t:TTd}:QTd X e t=(PTd X e t):=by unfold QTd;rfl
@[irreducible] def QWd(X:Cx)(e:N8)(t:TTd):Prop:=PWd X e t
theorem QWd.eq{X:Cx}{e:N8}{t:TTd}:QWd X e t=(PWd X e t):=by unfold QWd;rfl
@[irreducible] def QSd(X:Cx)(e:aa6)(t:TSd):Prop:=PSd X e t
theorem QSd.eq{X:Cx}{e:aa6}{t:TSd}:QSd X e t=(PSd X e t):=by unfold QSd;rfl
@[irreducible] def QSs(X:Cx)(e:List aa6)(t:TSd):Prop:=Ab X e t
theorem QSs.eq{X:Cx}{e:List aa6}{t:TSd}:QSs X e t=(Ab X e t):=by unfold QSs;rfl
@[irreducible] def QId(X:Cx)(tg e:N8)(t:TId):Prop:=PId X tg e t
theorem QId.eq{X:Cx}{tg e:N8}{t:TId}:QId X tg e t=(PId X tg e t):=by unfold QId;rfl
@[irreducible] def QIf(X:Cx)(e:List N8)(t:TTd):Prop:=Gb X e t
theorem QIf.eq{X:Cx}{e:List N8}{t:TTd}:QIf X e t=(Gb X e t):=by unfold QIf;rfl
@[irreducible] def QOd(X:Cx)(e:Option N8)(t:TOd):Prop:=POd X e t
theorem QOd.eq{X:Cx}{e:Option N8}{t:TOd}:QOd X e t=(POd X e t):=by unfold QOd;rfl
theorem ae{X:Cx}(i:Nat){x:Str}{pos:Pos}(hN:X.N[i]?=some x:=by rfl)(hv:Vis X.env.scope x:=by first|exact L9 rfl|exact ak7 (L9 rfl)|exact ak7 (ak7 rfl))(hd:(x==("__debug__":Str))=false:=by decide)
  (hcd:(x==("__classdict__":Str))=false:=by decide):QEd X (.Name x pos) (gJ i):=by
 simp only[QEd.eq]at *
 exact(y8 hN hv hd hcd).conv λσ H Q ⟨Δ,M,R,sr,hr,⟨d,e,q⟩,k⟩=>let⟨v,ev,rv⟩:=sr.2 i d e;⟨v,ev,k d M v H q (Ext.refl _ _) hr rv⟩
theorem ah{X:Cx}{i j pos}:QEd X (.Constant (.int i) j pos) (dC (.int i)):=by
 simp only[QEd.eq]at *
 exact DS.conv λσ H Q hup=>hup.el λΔ M R sr hr q k=>k _ M _ H q (Ext.refl _ _) hr (by simp[Rep])
theorem eQ{X:Cx}{i j pos}:QEd X (.Constant (.bool i) j pos) (dC (.bl i)):=by
 simp only[QEd.eq]at *
 exact Fx.conv λσ H Q hup=>hup.el λΔ M R sr hr q k=>k _ M _ H q (Ext.refl _ _) hr (by simp[Rep])
theorem rG{X:Cx}{i j pos}:QEd X (.Constant (.str i) j pos) (dC (.str i)):=by
 simp only[QEd.eq]at *
 exact CO.conv λσ H Q hup=>hup.el λΔ M R sr hr q k=>k _ M _ H q (Ext.refl _ _) hr (by simp[Rep])
theorem zc{X:Cx}{j pos}:QEd X (.Constant .none j pos) (dC .non):=by
 simp only[QEd.eq]at *
 exact D2.conv λσ H Q hup=>hup.el λΔ M R sr hr q k=>k _ M _ H q (Ext.refl _ _) hr (by simp[Rep])
theorem cP{X:Cx}{x:Str}{i:Int}{pos:Pos}(hg:Gl X x)(hm:∃tk,X.mg x=some (.int i tk))(hd:(x==("__debug__":Str))=false:=by decide):QEd X (.Name x pos) (dC (.int i)):=by
 simp only[QEd.eq]at *
 obtain⟨t,ht⟩:=hm;exact BL hg ht hd
theorem zo{X:Cx}{x y:Str}{pos:Pos}(hg:Gl X x)(hm:∃tk,X.mg x=some (.str y tk))(hd:(x==("__debug__":Str))=false:=by decide):QEd X (.Name x pos) (dC (.str y)):=by
 simp only[QEd.eq]at *
 obtain⟨t,ht⟩:=hm;exact BG hg ht hd
theorem ag{X:Cx}:QAd X [] xE:=by
 simp only[QAd.eq]at *
 exact m6.conv λσ H Q hup=>hup.el λΔ M R sr hr q k=>k _ M _ H q (Ext.refl _ _) hr aq.nil
theorem aa{X:Cx}{a:N8}{es:List N8}{ta:TEd}{tr:TAd}(ha:QEd X a ta)(hr:QAd X es tr)(hs:K8 (a::es) X.env=(false,ad7 a X.env)::K8 es X.env:=by rfl):QAd X (a::es) (pV ta tr):=by
 simp only[QEd.eq,QAd.eq]at *
 exact(iM ha hr hs).conv λσ H Q hup=>hup.el λΔ M R sr hr q k=>⟨Δ,M,_,sr,hr,q,λd M1 v H1 q1 e1 hr1 rv=>⟨Δ,M1,_,sr.ext e1,hr1,q1,λds M2 vs H2 q2 e2 hr2 rvs =>
   k _ M2 _ H2 q2 (e1.trans e2) hr2 (aq.cons (rv.ext e2) rvs)⟩⟩
theorem aJ{X:Cx}{es:List N8}{pos:Pos}{x1}{t:TAd}(h:QAd X es t):QEd X (.Tuple es x1 pos) (FG t):=by
 simp only[QEd.eq,QAd.eq]at *
 exact(qi h).conv λσ H Q hup=>hup.el λΔ M R sr hr q k=>⟨Δ,M,_,sr,hr,q,λds M1 vs H1 ⟨z,q1⟩ e1 hr1 rv=>⟨by rw[<-rv.length];exact z,λp hp=>k _ M1 _ _ q1 (e1.trans (Ext.new hr1 hp)) (hr1.new hp) (by
   simp only[Rep];exact⟨p,vs,rfl,.inl ⟨.inl bx,hr1.fresh hp⟩,rv.ext (Ext.new hr1 hp)⟩)⟩⟩
theorem df{X:Cx}{es:List N8}{pos:Pos}{t:TAd}(h:QAd X es t):QEd X (.List es pos) (Fg t):=by
 simp only[QEd.eq,QAd.eq]at *
 exact(zO h).conv λσ H Q hup=>hup.el λΔ M R sr hr q k=>⟨Δ,M,_,sr,hr,q,λds M1 vs H1 ⟨z,q1⟩ e1 hr1 rv=>⟨by rw[<-rv.length];exact z,λp hp=>k _ M1 _ _ q1 (e1.trans (Ext.new hr1 hp)) (hr1.new hp) (by
   simp only[Rep];exact⟨p,vs,rfl,⟨bx,hr1.fresh hp⟩,rv.ext (Ext.new hr1 hp)⟩)⟩⟩
theorem dI{X:Cx}{es:List N8}{pos:Pos}{t:TAd}(h:QAd X es t):QEd X (.List es pos) (B1 t):=by
 simp only[QEd.eq,QAd.eq]at *
 exact(zO h).conv λσ H Q hup=>hup.el λΔ M R sr hr q k=>⟨Δ,M,_,sr,hr,q,λds M1 vs H1 ⟨z,q1⟩ e1 hr1 rv=>⟨by rw[<-rv.length];exact z,λp hp=>k _ _ _ _ (q1 p (hr1.fresh hp)) (e1.trans (Ext.own hp)) (hr1.own hp rv) (by
   simp only[Rep])⟩⟩
theorem az{X:Cx}{a:N8}{b:N8}{ta:TEd}{tb:TEd}{pos:Pos}{op:ar1}{r:D->D->Option D}(ho:bY X (Z9 op) r)(ha:QEd X a ta)(hb:QEd X b tb):QEd X (.BinOp a op b pos) (dOp r ta tb):=by
 simp only[QEd.eq]at *
 exact(Ct ho.v ha hb).conv ye
theorem eO{X:Cx}{a:N8}{b:N8}{ta:TEd}{tb:TEd}{pos:Pos}{op:ao3}{r:D->D->Option D}(ho:bY X (Q0 op) r)(ha:QEd X a ta)(hb:QEd X b tb)(hm:Z3 op b=false):QEd X (.Compare a [op] [b] pos) (dOp r ta tb):=by
 simp only[QEd.eq]at *
 exact(AN ho.v ha hb hm).conv ye
theorem aC{X:Cx}{a:N8}{b:N8}{ta:TEd}{tb:TEd}{pos:Pos}{r:D->D->Option D}(ho:IxR X (opV X.K r))(ha:QEd X a ta)(hb:QEd X b tb)(hs:vQ b):QEd X (.Subscript a b pos) (dOp r ta tb):=by
 simp only[QEd.eq]at *
 exact(FJ ho ha hb hs).conv ye
theorem l6{X:Cx}{a:N8}{ta:TEd}{pos:Pos}{op:UnaryOp}{r:D->Option D}(ho:F8 X (unaryOp op) r)(ha:QEd X a ta):QEd X (.UnaryOp op a pos) (dUn r ta):=by
 simp only[QEd.eq]at *
 have h:UnR X (unaryOp op) (λx H Q=>∃dx dz M,HR X.K M H/\aX X.K M H dx x/\r dx=some dz/\∀w H',Ext M H M H'->HR X.K M H'->Rep X.K M H' dz w->Q w H'):=λaf s σ H x v Q I rx ⟨dx,dz,M,hr,r1,e,k⟩=>ho af s σ H M x v dx dz Q I hr rx r1 e k;exact(FE h ha).conv λσ H Q hup=>hup.el λΔ M R sr hr q k=>⟨Δ,M,_,sr,hr,q,λx M1 v H1 ⟨z,ez,q1⟩ e1 hr1 rv=>⟨_,z,M1,hr1,rv.rd hr1,ez,λw H' e2 hr2 rw_=>k z M1 w H' q1 (e1.trans e2) hr2 rw_⟩⟩
theorem aR{X:Cx}{a:N8}{b:N8}{ta:TEd}{tb:TEd}{pos:Pos}{op:ao3}{r:D->D->Option D}(ho:bY X (Q0 op) r)(ha:QEd X a ta)(hb:QEd X b tb)(hm:Z3 op b=false):QTd X (.Compare a [op] [b] pos) (oA (dOp r ta tb)):=by
 simp only[QEd.eq,QTd.eq]at *
 refine(Am ho.v ha hb hm).conv λσ H Q h=>?_;obtain⟨Δ,M,R,sr,hr,q,k⟩:=h;exact⟨Δ,M,_,sr,hr,q,λx M1 v H1 q1 e1 hr1 rv=>⟨Δ,M1,_,sr.ext e1,hr1,q1,λy M2 u H2 ⟨z,ez,b,eb,q2⟩ e2 hr2 ru=>⟨_,_,z,M2,hr2,(rv.ext e2).rd hr2,ru.rd hr2,ez,λw H' e3 hr3 rw_ =>
  ⟨b,by subst eb;simpa only[Rep]using rw_,k b M2 H' q2 ((e1.trans e2).trans e3) hr3⟩⟩⟩⟩
theorem bF{X:Cx}{a:N8}{ta:TEd}(h:QEd X a ta)(he:∀whole,isTrue a X.env whole=(do let v <-whole;ar5 a.pos;aq5 [v] (truthy v)):=by intro _;rfl):QTd X a (oA ta):=by
 simp only[QEd.eq,QTd.eq]at *
 exact(D1 h he).conv CA
theorem bW{X:Cx}{a:N8}{pos:Pos}{tA:TTd}(h:QTd X a tA):QTd X (.UnaryOp .Not a pos) (Cz tA):=by
 simp only[QTd.eq]at *
 exact(CI h).conv λσ H Q hup=>hup.el λΔ M R sr hr q k=>⟨Δ,M,_,sr,hr,q,λb M1 H1 q1 e1 hr1=>k _ M1 H1 q1 e1 hr1⟩
theorem iL{X:Cx}{a:N8}{pos:Pos}{tA:TTd}(ha:QTd X a tA):QWd X (.BoolOp .And [a] pos) tA:=by
 simp only[QTd.eq,QWd.eq]at *
 exact AX ha
theorem fh{X:Cx}{a:N8}{pos:Pos}{tA:TTd}(ha:QTd X a tA):QWd X (.BoolOp .Or [a] pos) tA:=by
 simp only[QTd.eq,QWd.eq]at *
 exact En ha
theorem jx{X:Cx}{a:N8}{b:N8}{pos:Pos}{tA:TTd}{tB':TTd}{rest:List N8}(ha:QTd X a tA)(hb:QWd X (.BoolOp .And (b::rest) pos) tB'):QWd X (.BoolOp .And (a::b::rest) pos) (yf tA tB'):=by
 simp only[QTd.eq,QWd.eq]at *
 exact(Eu ha hb).conv λσ H Q hup=>hup.el λΔ M R sr hr q k=>⟨Δ,M,_,sr,hr,q,λc M1 H1 q1 e1 hr1=>by
   cases c with
   |true=>simp only[if_true]at q1 ⊢;exact⟨Δ,M1,R,sr.ext e1,hr1,q1,λb M2 H2 q2 e2 hr2=>k b M2 H2 q2 (e1.trans e2) hr2⟩
   |false=>simp only[J5,if_false]at q1 ⊢;exact k _ M1 H1 q1 e1 hr1⟩
theorem fL{X:Cx}{a:N8}{b:N8}{pos:Pos}{tA:TTd}{tB':TTd}{rest:List N8}(ha:QTd X a tA)(hb:QWd X (.BoolOp .Or (b::rest) pos) tB'):QWd X (.BoolOp .Or (a::b::rest) pos) (FR tA tB'):=by
 simp only[QTd.eq,QWd.eq]at *
 exact(F4 ha hb).conv λσ H Q hup=>hup.el λΔ M R sr hr q k=>⟨Δ,M,_,sr,hr,q,λc M1 H1 q1 e1 hr1=>by
   cases c with
   |false=>simp only[J5,if_false]at q1 ⊢;exact⟨Δ,M1,R,sr.ext e1,hr1,q1,λb M2 H2 q2 e2 hr2=>k b M2 H2 q2 (e1.trans e2) hr2⟩
   |true=>simp only[if_true]at q1 ⊢;exact k _ M1 H1 q1 e1 hr1⟩
theorem cf{X:Cx}{a:N8}{ta:TEd}{pos:Pos}{op}(h:QEd X a ta):QEd X (.BoolOp op [a] pos) ta:=by
 simp only[QEd.eq]at *
 exact DT h
theorem bp{X:Cx}{a:N8}{b:N8}{ta:TEd}{tb:TEd}{pos:Pos}{rest:List N8}(ha:QEd X a ta)(hb:QEd X (.BoolOp .And (b::rest) pos) tb):QEd X (.BoolOp .And (a::b::rest) pos) (E5 ta tb):=by
 simp only[QEd.eq]at *
 exact(Ek ha hb).conv λσ H Q hup=>hup.el λΔ M R sr hr q k=>⟨Δ,M,_,sr,hr,q,λd M1 v H1 ⟨c,e,q1⟩ e1 hr1 rv=>⟨c,by subst e;simpa only[Rep]using rv,by
   cases c with
   |true=>simp only[if_true]at q1 ⊢;exact⟨Δ,M1,R,sr.ext e1,hr1,q1,λb M2 v2 H2 q2 e2 hr2 r2=>k b M2 v2 H2 q2 (e1.trans e2) hr2 r2⟩
   |false=>simp only[J5,if_false]at q1 ⊢;exact k _ M1 _ H1 q1 e1 hr1 (by simp[Rep])⟩⟩
theorem ym{X:Cx}{a:N8}{ta:TEd}{pos:Pos}(ha:QEd X a ta):QEd X (.UnaryOp .Not a pos) (E8 ta):=by
 simp only[QEd.eq]at *
 exact(Dv ha).conv λσ H Q hup=>hup.el λΔ M R sr hr q k=>⟨Δ,M,_,sr,hr,q,λd M1 v H1 ⟨c,e,q1⟩ e1 hr1 rv =>
  ⟨c,by subst e;simpa only[Rep]using rv,k _ M1 _ H1 q1 e1 hr1 (by simp[Rep])⟩⟩
theorem iP{X:Cx}{a:N8}{b:N8}{c:N8}{ta:TEd}{tb:TEd}{pos:Pos}{tc:TEd}{op op':ao3}{r r':D->D->Option D}(ho:bY X (Q0 op) r)(ho':bY X (Q0 op') r')(ha:QEd X a ta)(hb:QEd X b tb)(hc:QEd X c tc)
  (hm:ar8 [op,op'] [b,c]=false:=by with_unfolding_all rfl):QEd X (.Compare a [op,op'] [b,c] pos) (xG r r' ta tb tc):=by
 simp only[QEd.eq]at *
 refine(yT ho.v ho'.v ha hb hc hm).conv λσ H Q h=>?_;obtain⟨Δ,M,R,sr,hr,q,k⟩:=h;refine⟨Δ,M,_,sr,hr,q,λx M1 v H1 q1 e1 hr1 rv=>⟨Δ,M1,_,sr.ext e1,hr1,q1,λy M2 u H2 ⟨b,eb,q2⟩ e2 hr2 ru=>⟨_,_,.bl b,M2,hr2,(rv.ext e2).rd hr2,ru.rd hr2,eb,λw H3 e3 hr3 rw_ =>
  ⟨b,by simpa only[Rep]using rw_,?_⟩⟩⟩⟩
 cases b with
 |true =>
  simp only[if_true]at q2 ⊢;exact⟨Δ,M2,_,(sr.ext (e1.trans e2)).ext e3,hr3,q2,λz M4 w4 H4 ⟨d,ed,q4⟩ e4 hr4 r4=>⟨_,_,d,M4,hr4,((ru.ext e3).ext e4).rd hr4,r4.rd hr4,ed,λw5 H5 e5 hr5 r5=>k d M4 w5 H5 q4 ((((e1.trans e2).trans e3).trans e4).trans e5) hr5 r5⟩⟩
 |false =>
  simp only[J5,if_false]at q2 ⊢;exact k _ M2 _ H3 q2 ((e1.trans e2).trans e3) hr3 (by simp[Rep])
theorem av{X:Cx}{pos:Pos}{x:Str}{p:Pos}{e:N8}{es:List N8}{t:TAd}{id:String}{r:List D->Option D}(hc:bO X (.builtin id) r)(hg:Gl X x)(hm:X.mg x=none)(hv:ab8 x=some (.builtin id))(ha:QAd X (e::es) t)(hn:x≠"__name__":=by decide)(hdb:(x==("__debug__":Str))=false:=by decide)
  (he:K8 (e::es) X.env=(false,ad7 e X.env)::K8 es X.env:=by rfl) (hpl:(ab1 pos (K8 es X.env)).any (·.1)=false:=by rfl):QEd X (.Call (.Name x p) (e::es) [] pos) (dCB r t):=by
 simp only[QEd.eq,QAd.eq]at *
 exact(tD hc.v hg hm hv ha hn hdb he hpl).conv Cy
theorem bC{X:Cx}{pos:Pos}{x:Str}{p:Pos}{e:N8}{es:List N8}{t:TAd}{id:String}{r:List D->Option D}(hc:bO X (.type id) r)(hg:Gl X x)(hm:X.mg x=none)(hv:ab8 x=some (.type id))(ha:QAd X (e::es) t)(hn:x≠"__name__":=by decide)(hdb:(x==("__debug__":Str))=false:=by decide)
  (he:K8 (e::es) X.env=(false,ad7 e X.env)::K8 es X.env:=by rfl) (hpl:(ab1 pos (K8 es X.env)).any (·.1)=false:=by rfl):QEd X (.Call (.Name x p) (e::es) [] pos) (dCB r t):=by
 simp only[QEd.eq,QAd.eq]at *
 exact(xp hc.v hg hm hv ha hn hdb he hpl).conv Cy
theorem aK{X:Cx}:QSs X [] xA:=by
 simp only[QSs.eq]at *
 exact Be.conv λD σ H hup=>hup.el λΔ M E sr hr q u=>u.nx Δ M σ H q (Ext.refl _ _) hr sr
theorem ai{X:Cx}{st:aa6}{rest:List aa6}{t:TSd}{u:TSd}(h1:QSd X st t)(h2:QSs X rest u):QSs X (st::rest) (DO t u):=by
 simp only[QSd.eq,QSs.eq]at *
 exact(zV h1 h2).conv λD σ H hup=>hup.el λΔ M E sr hr q k=>⟨Δ,M,{ E with nx:=u E },sr,hr,q,⟨λΔ' M' σ' H' q' e' hr' sr'=>⟨Δ',M',E,sr',hr',q',k.ext e'⟩,k.bk,k.ct,k.rt⟩⟩
theorem am{X:Cx}{st:aa6}{t:TSd}(h1:QSd X st t):QSs X [st] t:=by
 simp only[QSd.eq,QSs.eq]at *
 exact Ag h1
theorem aB{X:Cx}{e:N8}{te:TEd}{pos:Pos}(he:QEd X e te):QSd X (.Return (some e) pos) (EW te):=by
 simp only[QEd.eq,QSd.eq]at *
 exact(uf he).conv λD σ H hup=>hup.el λΔ M E sr hr q k=>⟨Δ,M,_,sr,hr,q,k.rt⟩
theorem dJ{X:Cx}{e:N8}{te:TEd}{pos:Pos}(he:QEd X e te)(hs:ak2 e none pos.line X.env=ag9 false:=by rfl):QSd X (.Expr e pos) (zI te):=by
 simp only[QEd.eq,QSd.eq]at *
 exact(A0 he hs).conv λD σ H hup=>hup.el λΔ M E sr hr q k=>⟨Δ,M,_,sr,hr,q,λd M1 v H1 q1 e1 hr1 _=>k.nx Δ M1 σ H1 q1 e1 hr1 (sr.ext e1)⟩
theorem bh{X:Cx}{c:N8}{pos:Pos}{t:TSd}{u:TSd}{sa sb:List aa6}{tc:TTd}(hc:QTd X c tc)(ha:QSs X sa t)(hb:QSs X sb u):QSd X (.If c sa sb pos) (Dz tc t u):=by
 simp only[QTd.eq,QSd.eq,QSs.eq]at *
 exact(EF hc ha hb).conv λD σ H hup=>hup.el λΔ M E sr hr q k=>⟨Δ,M,_,sr,hr,q,λb M1 H1 q1 e1 hr1=>by
   cases b with
   |true=>simp only[if_true]at q1 ⊢;exact⟨Δ,M1,E,sr.ext e1,hr1,q1,k.ext e1⟩
   |false=>simp only[J5,if_false]at q1 ⊢;exact⟨Δ,M1,E,sr.ext e1,hr1,q1,k.ext e1⟩⟩
theorem ax{X:Cx}{e:N8}{te:TEd}{pos:Pos}{i:Nat}{x:Str}{pos':Pos}(hN:X.N.Nodup)(hi:X.N[i]?=some x)(hx:Loc X.env.scope x)(he:QEd X e te)(hs:ak2 e (some (.Name x pos')) pos.line X.env=ag9 false:=by rfl)(hf:X.fn x=true∨X.env.scope.names.lookup x=some .local:=by first|exact .inl rfl|exact .inr rfl|assumption):
  QSd X (.Assign [.Name x pos'] e pos) (yw i te):=by
 simp only[QEd.eq,QSd.eq]at *
 exact(CF hN hi hx he hs hf).conv λD σ H hup=>hup.el λΔ M E sr hr q k=>⟨Δ,M,_,sr,hr,q,λd M1 v H1 q1 e1 hr1 rv=>k.nx _ M1 _ H1 q1 e1 hr1 ((sr.ext e1).set i rv)⟩
theorem FP{X:Cx}{e:N8}{te:TEd}{pos:Pos}{i:Nat}{x:Str}{op:ar1}{r:D->D->Option D}{pos':Pos}(hN:X.N.Nodup)(hi:X.N[i]?=some x)(hx:Loc X.env.scope x)(he:QEd X e te)(ho:bY X (ar6 op) r)(hf:X.fn x=true∨X.env.scope.names.lookup x=some .local:=by first|exact .inl rfl|exact .inr rfl|assumption):
  QSd X (.AugAssign (.Name x pos') op e pos) (FY i te r):=by
 simp only[QEd.eq,QSd.eq]at *
 have h:PIp X op (opV X.K r):=λaf s σ H x y v u Q I rx ry q=>ho.v af s σ H x y v u Q I rx ry q;refine(Du hN hi hx he h hf).conv λD σ H hh=>?_;obtain⟨Δ,M,E,sr,hr,⟨d,ed,q⟩,k⟩:=hh;obtain⟨v,ev,rv⟩:=sr.2 i d ed;refine⟨v,ev,Δ,M,_,sr,hr,q,λy M1 w H1 ⟨z,ez,q1⟩ e1 hr1 rw_=>⟨_,_,z,M1,hr1,(rv.ext e1).rd hr1,rw_.rd hr1,ez,λw2 H2 e2 hr2 r2=>k.nx _ M1 _ H2 q1 (e1.trans e2) hr2 (((sr.ext e1).ext e2).set i r2)⟩⟩
theorem BF{X:Cx}{t:TSd}{sts:List aa6}(i:Nat)(h:QSs X sts t):QSs X sts (xS i t):=by
 simp only[QSs.eq]at *
 exact PSs.conv h λD σ H ⟨Δ,M,E,sr,hr,⟨a,ds,e1,e2,q⟩,k⟩=>by
  refine⟨_,ny M a,E,?_,hr.le LeM.del,q,k.ext (Ext.le LeM.del)⟩;obtain⟨v,ev,rv⟩:=sr.2 i _ e1;simp only[Rep]at rv;subst rv;have:=(sr.ext (Ext.le (M1:=ny M a) LeM.del)).set i (Rep.froze (M1:=ny M a) hr LeM.del e2 o8);have es:σ.set i (some (.ref a))=σ:=by
   apply ag1;intro j
   by_cases hj:j=i
   ·subst hj;have hl:j<σ.length:=(K3.mp ev).1;rw[ab4 hl,ev]
   ·rw[ag8 (ab0 hj)]
  rw[es]at this;exact this
theorem vt{X:Cx}{e:N8}{te:TEd}{pos:Pos}{tg:N8}{g:GD}(he:QEd X e te)(hg:PGd X tg g)(hs:swapsWithSole [tg] e pos.line X.env=ag9 false:=by rfl)(hw:swappedStores [tg] e X.env=ag9 none:=by rfl)
  (h1:(Z8 [tg] X.env).map (·.2)=[ao4 tg X.env]:=by rfl):QSd X (.Assign [tg] e pos) (Gf te g):=by
 simp only[QEd.eq,QSd.eq]at *
 obtain⟨gv,pg,kg⟩:=hg;exact(Ey he pg hs hw h1).conv λD σ H hup=>hup.el λΔ M E sr hr q k=>⟨Δ,M,_,sr,hr,q,λd M1 v H1 ⟨Δ',eg,q1⟩ e1 hr1 rv=>kg d v σ Δ Δ' M1 H1 _ (sr.ext e1) hr1 rv eg λσ' sr'=>k.nx Δ' M1 σ' H1 q1 e1 hr1 sr'⟩
theorem dX{X:Cx}{a:N8}{pos:Pos}{tg:N8}{ta:TAd}{p:Pos}(hg:Gl X "range")(hm:X.mg "range"=none)(ha:QAd X [a] ta)(hs:K8 [a] X.env=[(false,ad7 a X.env)]:=by rfl):QId X tg (.Call (.Name "range" p) [a] [] pos) (xU ta):=by
 simp only[QAd.eq,QId.eq]at *
 exact(wA hg hm ha hs).conv λσ H R hup=>hup.el λΔ M R' sr hr q k=>⟨Δ,M,_,sr,hr,q,λds M1 vs H1 ⟨j,ed,h1,h2,q1⟩ e1 hr1 rv=>by
   subst ed;obtain⟨v,ev,rv1⟩:=rv.one;have ev1:v=.int j:=by simpa only[Rep]using rv1
   subst ev1;subst ev;exact⟨j,rfl,h1,h2,k _ M1 _ H1 q1 e1 hr1 vo⟩⟩
theorem qw{X:Cx}{a:N8}{b:N8}{pos:Pos}{tg:N8}{ta:TAd}{p:Pos}(hg:Gl X "range")(hm:X.mg "range"=none)(ha:QAd X [a,b] ta)(hs:K8 [a,b] X.env=[(false,ad7 a X.env),(false,ad7 b X.env)]:=by rfl)(hs2:K8 [b] X.env=[(false,ad7 b X.env)]:=by rfl):QId X tg (.Call (.Name "range" p) [a,b] [] pos) (zf ta):=by
 simp only[QAd.eq,QId.eq]at *
 exact(wj hg hm ha hs hs2).conv λσ H R hup=>hup.el λΔ M R' sr hr q k=>⟨Δ,M,_,sr,hr,q,λds M1 vs H1 ⟨i,j,ed,h1,q1⟩ e1 hr1 rv=>by
   subst ed;obtain⟨v,w,ev,rv1,rv2⟩:=rv.two;have ev1:v=.int i:=by simpa only[Rep]using rv1
   have ev2:w=.int j:=by simpa only[Rep]using rv2
   subst ev1;subst ev2;subst ev;exact⟨i,j,rfl,h1,k _ M1 _ H1 q1 e1 hr1 vo⟩⟩
theorem cE{X:Cx}{pos:Pos}{tg:N8}{iter:N8}{body:List aa6}{wi:TId}{g:GD}{tb:TSd}(hp:R8 (N9 X.prog X.w) X.A X.env X.xe)(hc:X.calm=true)(hi:QId X tg iter wi)(hg:PGd X tg g)(hb:QSs X body tb)
  (hs:∀x,R3 iter X.env x=ag9 x:=by intro _;rfl):QSd X (.For tg iter body [] pos) (E2 wi g tb):=by
 simp only[QSd.eq,QSs.eq,QId.eq]at *
 obtain⟨gv,pg,kg⟩:=hg;refine(CQ hp hc hi pg hb hs).conv λD σ H hh=>?_;obtain⟨Δ,M,E,sr,hr,q,k⟩:=hh;refine⟨Δ,M,_,sr,hr,q,λds M1 J H1 q1 e1 hr1 it=>?_⟩;refine⟨λi m σ' H'=>∃ Δ' M',m=ds.length-i/\i<=ds.length/\Ext M1 H1 M' H'/\HR X.K M' H'/\SR X.K M' H' σ' Δ'/\dh g tb E (ds.drop i) Δ' M',⟨ds.length,Δ,M1,by simp,Q5 _,Ext.refl _ _,hr1,sr.ext e1,q1⟩,?_⟩;rintro i m σ2 H2 ⟨Δ2,M2,rfl,hi2,e2,hr2,sr2,f2⟩;obtain⟨go,stop⟩:=it M2 H2 e2 hr2 i
 by_cases hlt:i<ds.length
 ·have hd:ds[i]?=some ds[i]:=by simp[hlt]
  obtain⟨g1,y1⟩:=go _ hd;rw[Z6 hlt]at f2;simp only[dh]at f2;obtain⟨Δ3,eg,f3⟩:=f2;refine .inr ⟨g1,λσ' H'=>∃m',m'<ds.length-i/\∃ Δ' M',m'=ds.length-(i+1)/\i+1<=ds.length/\Ext M1 H1 M' H'/\HR X.K M' H'/\SR X.K M' H' σ' Δ'/\dh g tb E (ds.drop (i+1)) Δ' M',λσ' H' z=>z,λx H' hy=>?_⟩;obtain⟨e3,hr3,rx⟩:=y1 x H' hy;refine kg _ x σ2 Δ2 Δ3 M2 H' _ (sr2.ext e3) hr3 rx eg λσ3 sr3=>?_;refine⟨Δ3,M2,_,sr3,hr3,f3,⟨λΔ' M' σ' H'' q' e' hr' sr'=>?_,λΔ' M' σ' H'' q' e' hr' sr'=>?_,λΔ' M' σ' H'' q' e' hr' sr'=>?_,λd M' v H'' q' e' hr' rv'=>?_⟩⟩
  ·exact⟨_,by lia,Δ',M',rfl,hlt,(e2.trans e3).trans e',hr',sr',q'⟩
  ·exact k.nx Δ' M' σ' H'' q' (((e1.trans e2).trans e3).trans e') hr' sr'
  ·exact⟨_,by lia,Δ',M',rfl,hlt,(e2.trans e3).trans e',hr',sr',q'⟩
  ·exact k.rt d M' v H'' q' (((e1.trans e2).trans e3).trans e') hr' rv'
 ·rw[af0 (by lia)]at f2;exact .inl ⟨stop (by lia),k.nx Δ2 M2 σ2 H2 f2 (e1.trans e2) hr2 sr2⟩
theorem mj{X:Cx}{c:N8}{pos:Pos}{body:List aa6}{tc:TTd}{tb:TSd}(hp:R8 (N9 X.prog X.w) X.A X.env X.xe)(hc:QTd X c tc)(hb:QSs X body tb):QSd X (.While c body [] pos) (yn tc tb):=by
 simp only[QTd.eq,QSd.eq,QSs.eq]at *
 refine(yc hp hc hb).conv λD σ H hh=>?_;obtain⟨Δ,M,E,sr,hr,⟨W,⟨m0,w0⟩,turn⟩,k⟩:=hh;refine⟨λm σ' H'=>∃ Δ' M',Ext M H M' H'/\HR X.K M' H'/\SR X.K M' H' σ' Δ'/\W m Δ' M',⟨m0,Δ,M,Ext.refl _ _,hr,sr,w0⟩,?_⟩;rintro m σ1 H1 ⟨Δ1,M1,e1,hr1,sr1,w1⟩;refine⟨Δ1,M1,_,sr1,hr1,turn m Δ1 M1 w1,λb M2 H2 q2 e2 hr2=>?_⟩;cases b with
 |true =>
  simp only[if_true]at q2 ⊢;refine⟨λσ' H'=>∃m',m'<m/\∃ Δ' M',Ext M H M' H'/\HR X.K M' H'/\SR X.K M' H' σ' Δ'/\W m' Δ' M',λσ' H' z=>z,Δ1,M2,_,sr1.ext e2,hr2,q2,⟨λΔ' M' σ' H'' ⟨m',hm,w'⟩ e' hr' sr'=>?_,λΔ' M' σ' H'' q' e' hr' sr'=>?_,λΔ' M' σ' H'' ⟨m',hm,w'⟩ e' hr' sr'=>?_,λd M' v H'' q' e' hr' rv'=>?_⟩⟩
  ·exact⟨m',hm,Δ',M',(e1.trans e2).trans e',hr',sr',w'⟩
  ·exact k.nx Δ' M' σ' H'' q' ((e1.trans e2).trans e') hr' sr'
  ·exact⟨m',hm,Δ',M',(e1.trans e2).trans e',hr',sr',w'⟩
  ·exact k.rt d M' v H'' q' ((e1.trans e2).trans e') hr' rv'
 |false =>
  simp only[J5,if_false]at q2 ⊢;exact k.nx Δ1 M2 σ1 H2 q2 (e1.trans e2) hr2 (sr1.ext e2)
theorem bo{X:Cx}:QIf X [] sE:=by
 simp only[QIf.eq]at *
 exact λaf s σ H Q I ⟨Δ,M,R,sr,hr,q,k⟩=>BQ af s σ H Q I (k true M H q (Ext.refl _ _) hr)
theorem Eh{X:Cx}{c:N8}{tc:TTd}(h:QTd X c tc):QIf X [c] tc:=by
 simp only[QTd.eq,QIf.eq]at *
 exact Ah h
theorem eW{X:Cx}{pos:Pos}{tg:N8}{iter:N8}{elt:N8}{scope:af8}{cl:List (Str×K4)}{ms:List Bool}{ar:List Str}{ifs:List N8}{wi:TId}{g:GD}{tc:TTd}{te:TEd}(S:fk X scope cl ms ar)(cQ:X.calm=true)(hi:QId X tg iter wi)(hg:PGa X scope cl ar tg g)
  (hif:∀C s H ex,QIf (aN X scope cl (X.N++ar) C s H ex) ifs tc) (he:∀C s H ex,QEd (aN X scope cl (X.N++ar) C s H ex) elt te)
  (hs:∀x,R3 iter X.env x=ag9 x:=by intro _;rfl):QEd X (.ListComp elt [⟨tg,iter,ifs,0⟩] scope pos) (dLc ms ar.length wi g tc te):=by
 simp only[QEd.eq,QId.eq,QIf.eq]at *
 obtain⟨gv,pg,kg⟩:=hg;exact(zD (tc:=upT X.K tc) S cQ hi pg hif (yE (te:=up X.K te) he) hs).conv (vE kg)
theorem A4{X:Cx}{pos:Pos}{tg:N8}{iter:N8}{elt:N8}{scope:af8}{cl:List (Str×K4)}{ms:List Bool}{ar:List Str}{ifs:List N8}{i:Nat}{x:Str}{spos pos':Pos}{wi:TId}{g:GD}{tc:TTd}{te:TEd}(hN:X.N.Nodup)(hix:X.N[i]?=some x)(hx:X.env.scope.names.lookup x=some .local)
  (hsw:ak2 (.ListComp elt [⟨tg,iter,ifs,0⟩] scope pos) (some (.Name x pos')) spos.line X.env=ag9 true) (S:fk X scope cl ms ar) (cQ:X.calm=true) (hi:QId X tg iter wi) (hg:PGa X scope cl ar tg g)
  (hif:∀C s H ex,QIf (aN X scope cl (X.N++ar) C s H ex) ifs tc) (he:∀C s H ex,QEd (aN X scope cl (X.N++ar) C s H ex) elt te)
  (hs:∀x,R3 iter X.env x=ag9 x:=by intro _;rfl):QSd X (.Assign [.Name x pos'] (.ListComp elt [⟨tg,iter,ifs,0⟩] scope pos) spos) (yw i (dLc ms ar.length wi g tc te)):=by
 simp only[QEd.eq,QSd.eq,QId.eq,QIf.eq]at *
 obtain⟨gv,pg,kg⟩:=hg;refine(pj (tc:=upT X.K tc) hN hix hx hsw S cQ hi pg hif (yE (te:=up X.K te) he) hs).conv λD σ H hh=>?_;obtain⟨Δ,M,E,sr,hr,q,k⟩:=hh;exact vE kg σ H _ ⟨Δ,M,_,sr,hr,q,λd M1 v H1 q1 e1 hr1 rv=>k.nx _ M1 _ H1 q1 e1 hr1 ((sr.ext e1).set i rv)⟩
theorem gy{X:Cx}{e:N8}{te:TEd}{o:N8}{to:TEd}{eU bT:Pos}(ho:QEd X o to)(he:QEd X e te)(ij:ae3 o "append" X.env (ad7 o X.env)=ad7 o X.env:=by rfl)
  (hse:K8 [e] X.env=(false,ad7 e X.env)::K8 [] X.env:=by rfl)
  (tZ:((ab1 bT (K8 [e] X.env)).all (λx => !x.1) && (aq3 bT (al5 [] X.env)).all (λx => x.1.isSome)
  &&decide ([e].length+([]:List al6).length+(if([]:List al6).isEmpty then 0 else 1)<30))=true:=by rfl)
  (g9:(eU.endLine==bT.line)=true:=by rfl) (jJ:(ab1 bT (K8 [] X.env)).any (·.1)=false:=by rfl):QEd X (.Call (.Attribute o "append" eU) [e] [] bT) (DF to te):=by
 simp only[QEd.eq]at *
 exact(za ae6 PySem.F.slot_list_append PySem.F.type_list_append (show MtR X "list.append" vm from wg) ho (iM he m6 hse) ij tZ g9 hse jJ).conv λσ H Q hup=>hup.el λΔ M R sr hr q k=>⟨Δ,M,_,sr,hr,q,λo M1 ov H1 ⟨a,l,eo,em,q1⟩ e1 hr1 ro=>by
   subst eo;simp only[Rep]at ro;subst ro;obtain⟨vs,hv,rl⟩:=hr1 a _ em;refine⟨.inl ⟨rfl,vs,SqL.of hv⟩,Δ,M1,_,sr.ext e1,hr1,q1,λd M2 v H2 ⟨ds,em2,hz,q2⟩ e2 hr2 rv=>?_⟩;obtain⟨ws,hw,rl2⟩:=hr2 a _ em2;refine⟨a,ws,v,rfl,rfl,hw,by rw[<-rl2.length];exact hz,k _ _ _ _ q2 ((e1.trans e2).trans (Ext.write em2)) (hr2.write em2 (rl2.append (aq.cons rv aq.nil))) (by simp[Rep])⟩⟩
theorem c9{X:Cx}{a:N8}{ta:TEd}{pos:Pos}{T:Str}{Tn:String}{p p2:Pos}(hT:okT Tn=true)(hg:Gl X "isinstance")(hm:X.mg "isinstance"=none)(hg2:Gl X T)(hm2:X.mg T=none)(hv2:ab8 T=some (.type Tn))(ha:QEd X a ta)(hn2:T≠"__name__":=by decide)(hd2:(T==("__debug__":Str))=false:=by decide)
  (hs:K8 [a,.Name T p2] X.env=(false,ad7 a X.env)::K8 [.Name T p2] X.env:=by rfl) (hs2:K8 [.Name T p2] X.env=(false,ad7 (.Name T p2) X.env)::K8 [] X.env:=by rfl) (hpl:(ab1 pos (K8 [.Name T p2] X.env)).any (·.1)=false:=by rfl) :
  QEd X (.Call (.Name "isinstance" p) [a,.Name T p2] [] pos) (Gg Tn ta):=by
 simp only[QEd.eq]at *
 have hc:dD X (.builtin "isinstance") (λxs H Q=>∃v d k M,xs=[v,.ty Tn]/\aX X.K M H d v/\BM Tn d=some k/\Q (.bl k) H):=by
  intro af s σ H xs us Q I rv h;obtain⟨v,d,k,M,rfl,rd,ek,q⟩:=h;obtain⟨u1,u2,rfl,r1,r2⟩:=ay.two rv;cases r2;exact wQ hT I r1 rd ek q
 refine(tD hc hg hm (by kernel_rfl) (iM ha (iM (Au (v:=.ty Tn) hg2 hm2 hv2 rfl hn2 hd2) m6 hs2) hs) (by decide) (by decide) hs hpl).conv λσ H Q hh=>?_;obtain⟨Δ,M,R,sr,hr,q,k⟩:=hh;exact⟨Δ,M,_,sr,hr,q,λd M1 v H1 ⟨kk,ek,q1⟩ e1 hr1 rv=>⟨v,_,kk,M1,rfl,rv.rd hr1,ek,k _ M1 _ H1 q1 e1 hr1 (by simp[Rep])⟩⟩
theorem cx{X:Cx}:QOd X none qU:=by
 simp only[QEd.eq,QAd.eq,QTd.eq,QWd.eq,QSd.eq,QSs.eq,QId.eq,QIf.eq,QOd.eq]at *
 exact Bw 
theorem bf{X:Cx}{e:N8}{te:TEd}(h:QEd X e te):QOd X (some e) (yD te):=by
 simp only[QEd.eq,QAd.eq,QTd.eq,QWd.eq,QSd.eq,QSs.eq,QId.eq,QIf.eq,QOd.eq]at *
 exact Ae (h:=h)
theorem qc{X:Cx}{e:N8}{es:List N8}{t:TAd}{pos:Pos}{p:Pos}{x:Str}{k:Nat}{n:Nat}{S:SpD}(F:FnD X.prog X.w X.K X.mg X.base x k n S)(hr:de k X.A)(hg:Gl X x)(ha:QAd X (e::es) t)(hdb:(x==("__debug__":Str))=false:=by decide)(he:K8 (e::es) X.env=(false,ad7 e X.env)::K8 es X.env:=by rfl)(hpl:(ab1 pos (K8 es X.env)).any (·.1)=false:=by rfl):
  QEd X (.Call (.Name x p) (e::es) [] pos) (nZ n S t):=by
 simp only[QEd.eq,QAd.eq,QTd.eq,QWd.eq,QSd.eq,QSs.eq,QId.eq,QIf.eq,QOd.eq]at *
 exact dc (F:=F) (hr:=hr) (hg:=hg) (ha:=ha) (hdb:=hdb) (he:=he) (hpl:=hpl)
theorem qJ{X:Cx}{e:N8}{te:TEd}{pos:Pos}(he:QEd X e te):QSd X (.Return (some e) pos) (Cj te):=by
 simp only[QEd.eq,QSd.eq]at *
 exact(uf he).conv λD σ H hup=>hup.el λΔ M E sr hr q k=>⟨Δ,M,_,sr,hr,q,λd M1 v H1 ⟨a,ds,ed,em,q1⟩ e1 hr1 rv=>by
  subst ed;simp only[Rep]at rv;subst rv;exact k.rt _ _ _ H1 q1 (e1.trans (Ext.le LeM.del)) (hr1.le LeM.del) (Rep.froze hr1 LeM.del em o8)⟩
theorem aM{X:Cx}{te:TEd}{tg:N8}{iter:N8}(h:QEd X iter te):QId X tg iter (pT te):=by
 simp only[QEd.eq,QId.eq]at *
 intro af s σ H R I hh;obtain⟨Δ,M,R',sr,hr,q,k⟩:=hh;refine thn (h af s σ H (λv H1=>∃d ds M1,jG d=some ds/\(ds.length<=J7->R' ds M1)/\Ext M H M1 H1/\HR X.K M1 H1/\Rep X.K M1 H1 d v) I ⟨Δ,M,_,sr,hr,q,λd M1 v H1 ⟨ds,ed,q1⟩ e1 hr1 rv=>⟨d,ds,M1,ed,q1,e1,hr1,rv⟩⟩) λu s1 ⟨v,H1,I1,r1,d,ds,M1,ed,q1,e1,hr1,rv⟩=>?_;have lo:=aX.len (K:=X.K) I1 rv;cases d with
 |tup es =>
  cases ed;simp only[Rep]at rv;obtain⟨a,vs,rfl,ta,rl⟩:=rv;cases r1;obtain⟨its,rvv,p,hz⟩:=I1.tuple ta.sq;refine aa2 (show s1.heap.IsTuple a its.toArray from p) ?_;refine⟨s1.heap.objs.size,[s1.heap.objs.size],_,_,H1,rfl,I1.kept (t':=s1.toks) λb o e=>I0 _ e,uR a _,⟨_,K6 _ rfl,rfl,rfl⟩,ud (o:=default) I1,?_⟩;refine k _ M1 _ H1 (q1 lo) e1 hr1 λM2 H2 e2 hr2 i=>⟨λd hd=>?_,λhl=>⟨vs,(ta.ext e2).sq,by rw[<-rl.length];exact hl⟩⟩;obtain⟨v,gv,r⟩:=rl.get hd;refine⟨⟨vs,v,(ta.ext e2).sq,gv⟩,λx H' ⟨eH,y⟩=>?_⟩;subst eH;have:=y vs (ta.ext e2).sq;rw[gv]at this;cases this;exact⟨Ext.refl _ _,hr2,r.ext e2⟩
 |lst es =>
  cases ed;simp only[Rep]at rv;obtain⟨a,vs,rfl,ta,rl⟩:=rv;cases r1;obtain⟨its,rvv,p,hz⟩:=I1.list (SqL.of ta.1);refine W7 p.isList ?_;refine⟨s1.heap.objs.size,[s1.heap.objs.size],_,_,H1,rfl,I1.kept (t':=s1.toks) λb o e=>I0 _ e,oQ a _,⟨_,K6 _ rfl,rfl,rfl⟩,ud (o:=default) I1,?_⟩;refine k _ M1 _ H1 (q1 lo) e1 hr1 λM2 H2 e2 hr2 i=>⟨λd hd=>?_,λhl=>⟨vs,SqL.of (ta.ext e2).1,by rw[<-rl.length];exact hl⟩⟩;obtain⟨v,gv,r⟩:=rl.get hd;refine⟨⟨vs,v,SqL.of (ta.ext e2).1,gv⟩,λx H' ⟨eH,y⟩=>?_⟩;subst eH;have:=y vs (SqL.of (ta.ext e2).1);rw[gv]at this;cases this;exact⟨Ext.refl _ _,hr2,r.ext e2⟩
 |scr es =>
  cases ed;simp only[Rep]at rv;obtain⟨a,vs,rfl,ta,rl⟩:=rv;cases r1;obtain⟨its,rvv,p,hz⟩:=I1.list ta.sq;refine W7 p.isList ?_;refine⟨s1.heap.objs.size,[s1.heap.objs.size],_,_,H1,rfl,I1.kept (t':=s1.toks) λb o e=>I0 _ e,oQ a _,⟨_,K6 _ rfl,rfl,rfl⟩,ud (o:=default) I1,?_⟩;refine k _ M1 _ H1 (q1 lo) e1 hr1 λM2 H2 e2 hr2 i=>⟨λd hd=>?_,λhl=>⟨vs,(ta.ext e2).sq,by rw[<-rl.length];exact hl⟩⟩;obtain⟨v,gv,r⟩:=rl.get hd;refine⟨⟨vs,v,(ta.ext e2).sq,gv⟩,λx H' ⟨eH,y⟩=>?_⟩;subst eH;have:=y vs (ta.ext e2).sq;rw[gv]at this;cases this;exact⟨Ext.refl _ _,hr2,r.ext e2⟩
 |str x =>
  simp only[jG]at ed
  by_cases hz:x.length<=J7
  ·rw[if_pos hz]at ed;cases ed;simp only[Rep]at rv;subst rv;obtain⟨t,rfl⟩:=r1;have hq:=k _ M1 _ H1 (q1 (by have hz2:x.cps.size<=J7:=hz;simpa[gQ]using hz2)) e1 hr1 Et;cases ha:x.cps.all (·<128)
   ·exact wpAny_pyIter_wide ha (vq I1 "str_iterator" (by decide) (λA hA=>Walks.strWide hA _ x t) (λA i s' Q E st q=>wpAny_pyIter_striter_wide st q) hq)
   ·exact wpAny_pyIter_ascii ha (vq I1 "str_ascii_iterator" (by decide) (λA hA=>Walks.strAscii hA _ x t) (λA i s' Q E st q=>wpAny_pyIter_striter_ascii st q) hq)
  ·rw[if_neg hz]at ed;cases ed
 |_=>cases ed
theorem lu{X:Cx}{e:N8}{te:TEd}{pos:Pos}(he:QEd X e te):QSd X (.Return (some e) pos) (B3 te):=by
 simp only[QEd.eq,QSd.eq]at *
 exact(uf he).conv λD σ H hup=>hup.el λΔ M E sr hr q k=>⟨Δ,M,_,sr,hr,q,λd M1 v H1 ⟨M2,hle,q1⟩ e1 hr1 rv =>
  k.rt _ _ _ H1 q1 (e1.trans (Ext.le hle)) (hr1.le hle) (rv.ext (Ext.le hle))⟩
theorem bu{X:Cx}{e:N8}{te:TEd}{pos:Pos}{lo hi:Option N8}{tl th:TOd}{p2:Pos}(he:QEd X e te)(hl:QOd X lo tl)(hu:QOd X hi th):QEd X (.Subscript e (.Slice lo hi none p2) pos) (Fl te tl th):=by
 simp only[QEd.eq,QOd.eq]at *
 refine(yu (SlR.or AO (SlR.or Ef (SlR.or Ej yy))) he hl hu).conv λσ H Q hh=>?_;obtain⟨Δ,M,R,sr,hr,q,k⟩:=hh;refine⟨Δ,M,_,sr,hr,q,λx M1 v H1 q1 e1 hr1 rv=>⟨Δ,M1,_,sr.ext e1,hr1,q1,λl M2 H2 q2 e2 hr2=>⟨Δ,M2,_,(sr.ext e1).ext e2,hr2,q2,λu M3 H3 ⟨z,ez,q3⟩ e3 hr3=>?_⟩⟩⟩;have rr:=((rv.ext e2).ext e3).rd hr3;have ee:=(e1.trans e2).trans e3;have kk:∀w H',Ext M3 H3 M3 H'->HR X.K M3 H'->Rep X.K M3 H' z w->Q w H':=λw H' e4 hr4 r4=>k z M3 w H' q3 (ee.trans e4) hr4 r4;generalize rdM M3 x=d at rr ez;cases d with
 |lst ds =>
  cases ez;obtain⟨a,vs,rfl,sq,rl⟩:=rr;refine .inl ⟨a,vs,rfl,SqL.of sq,λp hp=>ft hr3 hp ?_ kk⟩;unfold c8 qB;rw[<-rl.length];exact(rl.drop _).take _
 |scr ds =>
  cases ez;obtain⟨a,vs,rfl,sq,rl⟩:=rr;refine .inl ⟨a,vs,rfl,sq,λp hp=>ft hr3 hp ?_ kk⟩;unfold c8 qB;rw[<-rl.length];exact(rl.drop _).take _
 |str s =>
  simp only[slE,slD]at ez
  by_cases hz:s.length<=J7
  ·rw[if_pos hz]at ez;cases ez;exact .inr (.inr (.inl ⟨s,oy rr,hz,kk _ H3 (Ext.refl _ _) hr3 (by simp[Rep])⟩))
  ·rw[if_neg hz]at ez;cases ez
 |tup ds =>
  cases ez;have rt:=aX.tup hr3 rr;obtain⟨a,vs,rfl,sq,rl⟩:=rr
  by_cases hw:HT.sIx ds.length 0 l=0/\HT.sIx ds.length ds.length u=ds.length
  ·refine .inr (.inr (.inr ⟨a,vs,rfl,sq,by rw[<-rl.length];exact hw,kk _ H3 (Ext.refl _ _) hr3 ?_⟩));rw[uJ hw];exact rt
  ·refine .inr (.inl ⟨a,vs,rfl,sq,by rw[<-rl.length];exact hw,λp hp=>oa hr3 hp ?_ kk⟩);unfold c8 qB;rw[<-rl.length];exact(rl.drop _).take _
 |_=>cases ez
theorem zP{X:Cx}{e:N8}{te:TEd}{ts:TEd}{pos:Pos}{st:N8}{p2:Pos}(he:QEd X e te)(hs:QEd X st ts):QEd X (.Subscript e (.Slice none none (some st) p2) pos) (zz te ts):=by
 simp only[QEd.eq]at *
 intro af s σ H Q I hh;obtain⟨Δ,M,R,sr,hr,q,k⟩:=hh;refine aq7 (thn (he af s σ H (λv H1=>∃x M1,Rep X.K M1 H1 x v/\Ext M H M1 H1/\HR X.K M1 H1/\ts Δ M1 λst M2=>st=.int (-1)/\∃ds,x=.tup ds/\R (.tup ds.reverse) M2) I
  ⟨Δ,M,_,sr,hr,q,λx M1 v H1 q1 e1 hr1 rv=>⟨x,M1,rv,e1,hr1,q1⟩⟩) λv s1 ⟨vx,H1,I1,r1,x,M1,rv,e1,hr1,q1⟩=>?_)
 refine wpAny_Slice ?_;rw[evalPart_none];refine J3 (J3 ?_);rw[evalPart_some];refine thn (hs af s1 σ H1 (λu H2=>∃M2 ds,u=.int (-1)/\x=.tup ds/\R (.tup ds.reverse) M2/\Ext M1 H1 M2 H2/\HR X.K M2 H2) I1 ⟨Δ,M1,_,sr.ext e1,hr1,q1,λd M2 u H2 ⟨ed,ds,ex,q2⟩ e2 hr2 ru=>⟨M2,ds,by subst ed;simpa only[Rep]using ru,ex,q2,e2,hr2⟩⟩) λu s2 ⟨vu,H2,I2,r2,M2,ds,eu,ex,q2,e2,hr2⟩=>?_;subst eu;subst ex;obtain⟨tk,rfl⟩:=r2;have rv2:=rv.ext e2;simp only[Rep]at rv2;obtain⟨ad,vs,rfl,ta,rl⟩:=rv2;cases r1;have I4:Inv X af σ H2 { s2 with heap:=s2.heap.push { cls:=.type "slice",data:=.fields #[.none,.none,.int (-1) tk] } }:=I2.kept (t':=s2.toks) λb ob q=>I0 _ q;obtain⟨its,r,ht,hz⟩:=I4.tuple ta.sq;have hl:=r.length;refine tail_any (ops:=[.ref ad,.ref s2.heap.objs.size]) ht.typeIs O9.lookup (HT.getItem_tuple_rev ht (N0.IsSliceOf.new ..) ?_ (by rw[J8,<-hl];exact hz)) (by with_unfolding_all rfl);have rr:ay vs.reverse its.reverse:=ay.reverse r;refine⟨.ref _,_,I4.laid (t':=s2.toks) (o:=.tup vs.reverse) (λb ob q=>I0 _ q) (J6 _) ?_,rfl,?_⟩
 ·exact⟨by simpa using hz,_,rr,jv.new _ _⟩
 ·exact oa (ds:=ds.reverse) hr2 (I4.hok.fresh (J6 _)) rl.reverse λw H' e4 hr4 r4=>k _ M2 w H' q2 ((e1.trans e2).trans e4) hr4 r4
theorem Ax{X:Cx}{st:aa6}:QSd X st xP:=by
 simp only[QSd.eq]at *
 exact λaf s σ H D I ⟨_,_,_,_,_,q,_⟩=>ab7 q
theorem vc{X:Cx}{e:N8}{te:TEd}{o:N8}{to:TEd}{eU bT:Pos}(ho:QEd X o to)(he:QEd X e te)(ij:ae3 o "pop" X.env (ad7 o X.env)=ad7 o X.env:=by rfl)
  (hse:K8 [e] X.env=(false,ad7 e X.env)::K8 [] X.env:=by rfl)
  (tZ:((ab1 bT (K8 [e] X.env)).all (λx => !x.1) && (aq3 bT (al5 [] X.env)).all (λx => x.1.isSome)
  &&decide ([e].length+([]:List al6).length+(if([]:List al6).isEmpty then 0 else 1)<30))=true:=by rfl)
  (g9:(eU.endLine==bT.line)=true:=by rfl) (jJ:(ab1 bT (K8 [] X.env)).any (·.1)=false:=by rfl):QEd X (.Call (.Attribute o "pop" eU) [e] [] bT) (xX to te):=by
 simp only[QEd.eq]at *
 exact(za ae6 PySem.F.slot_list_pop PySem.F.type_list_pop (show MtR X "list.pop" xV from yt) ho (iM he m6 hse) ij tZ g9 hse jJ).conv λσ H Q hup=>hup.el λΔ M R sr hr q k=>⟨Δ,M,_,sr,hr,q,λo M1 ov H1 ⟨a,l,eo,em,q1⟩ e1 hr1 ro=>by
   subst eo;simp only[Rep]at ro;subst ro;obtain⟨vs,hv,rl⟩:=hr1 a _ em;refine⟨.inl ⟨rfl,vs,SqL.of hv⟩,Δ,M1,_,sr.ext e1,hr1,q1,λd M2 v H2 ⟨i,ds,x,ed,em2,hz,hx,q2⟩ e2 hr2 rv=>?_⟩;subst ed;simp only[Rep]at rv;subst rv;obtain⟨ws,hw,rl2⟩:=hr2 a _ em2;obtain⟨y,hy,ry⟩:=rl2.get hx;have hi:i<ws.length:=(K3.mp hy).1;have hl2:=rl2.length;have h62:=DI;refine⟨a,ws,i,i,y,rfl,rfl,hw,by lia,by lia,by unfold as1;simp;lia,hy,k _ _ _ _ q2 ((e1.trans e2).trans (Ext.write em2)) (hr2.write em2 (rl2.erase i)) (ry.ext (Ext.write em2))⟩⟩
section
variable{X:Cx}{rest:List aa6}{t:TSd}{e:N8}{tt:TTd}
theorem AI(h:QSs X rest t):Ab X rest t:=by
 rw[QSs.eq]at h;exact h
theorem iX(h:QWd X e tt):QTd X e tt:=by
 simp only[QWd.eq,QTd.eq]at *
 exact PWd.pt h
end
end L2
namespace L2
open PySem PySem.Spec PyProof.Rows PySem.Builtin.Str
end L2
namespace L2
open PySem PySem.Spec PyProof.Rows
def Few(n:Int):Prop:=L6.Int.intBits n<=2 ^ 20
end L2
namespace Att
open PySem PySem.W PySem.Calls PyProof.Rows
end Att
namespace L2
open PySem PySem.Spec PyProof.Rows
section
variable{X:Cx}{pos:Pos}
def BZ(i j:Int):Prop:=lb i j∨(Few i/\Few j)
theorem BZ.ok{i j:Int}(h:BZ i j):IntMulOk i j:=by
 rcases h with h|⟨a,b⟩
 ·exact h.ok
 ·exact .of_bits a b
theorem Fc{K:H0}{M:DH}{H:Hp}{a b:D}{xs:List V}(h:aa9 (aX K M H) [a,b] xs):∃v w,xs=[v,w]/\aX K M H a v/\aX K M H b w:=by
 cases h with
 |cons r t =>
  cases t with
  |cons r2 t2=>cases t2;exact⟨_,_,rfl,r,r2⟩
def dmD:List D->Option D
 |[.int i,.int j]=>if qE i j then some (.tup [.int (i / j),.int (i % j)])else none
 |_=>none
noncomputable def Es:List D->Option D
 |[.int i,.int j]=>some (.int (if j > i then j else i))
 |_=>none
theorem Fy(hc:X.calm=true):bO X (.builtin "max") Es:=bO.of (wX hc) λH M xs ds dz Q hr rp e q=>by
 unfold Es at e
 split at e
 ·rename_i i j;cases e;obtain⟨v,w,rfl,r1,r2⟩:=Fc rp;rw[fT r1,fT r2];exact⟨i,j,rfl,q _ H (Ext.refl _ _) hr (by simp[Rep])⟩
 ·cases e
end
open AutoSeq1 (wpAny_loadPart')
section
variable{prog:N4}{w:S2}{A:P5}{E:J0->J4->Prop}{s:J4}
theorem lY{it t:K4}{i:Nat}{its}{x:J0}{Q:J0->J4->Prop}(hit:s.heap.IsTupleIter it t i)(ht:s.heap.IsTuple t its)(hx:its[i]?=some x)
  (hQ:∀h',h'.IsTupleIter it t (i+1)->Q9 it s.heap h'->Q x { s with heap:=h' }):L3 (N9 prog w) A (Q6 (.ref it)) Q E s:=by
 obtain⟨o,ho,hc,hd⟩:=id hit;obtain⟨ol,hol,_,nl,hdl⟩:=ht;unfold Q6;refine o0 (V7 (name:=U9 "__next__") hit.typeIs ab6 (X4 ab6 hit.typeIs F.entry_tuple_iterator_next ?_ (F.args_tuple_iterator_next_1 _)));show L3 _ _ (field (.ref it) 0 >>= _) _ _ s;refine o0 (U8 ho hd (x:=.ref t) rfl ?_);show L3 _ _ (if(W1 t==X8)=true then _ else _) _ _ s;rw[if_neg (show ¬ ((W1 t==X8)=true)from R9)];show L3 _ _ (field (.ref it) 1 >>= _) _ _ s;refine o0 (U8 ho hd (x:=.int i 0) rfl ?_);show L3 _ _ (as5 (.ref t) >>= _) _ _ s;refine o0 (aa7 hol hdl ?_);simp only[V6,hx];refine o0 (wpAny_setField ho hd (by simp) (J3 ⟨x,rfl,J3 (hQ _ ?_ (Z0 ..))⟩));exact⟨_,N0.get?_update_self _ ho (Obj.isFreed_of_fields (Obj.data_mapFields hd _)),(Obj.cls_mapFields ..).trans hc,by rw[Obj.data_mapFields hd];simp[ar7]⟩
theorem nE{it t:K4}{i:Nat}{its}{Q:J0->J4->Prop}(hh:A.handled=none)(hit:s.heap.IsTupleIter it t i)(ht:s.heap.IsTuple t its)(hx:its[i]?=none)
  (hE:∀h' e,N0.ExtBut it s.heap h'->(∃o,h'.get? e=some o/\o.cls=.type "StopIteration")->E (.ref e) { s with heap:=h' }):L3 (N9 prog w) A (Q6 (.ref it)) Q E s:=by
 obtain⟨o,ho,hc,hd⟩:=id hit;obtain⟨ol,hol,_,nl,hdl⟩:=ht;unfold Q6;refine o0 (V7 (name:=U9 "__next__") hit.typeIs ab6 (X4 ab6 hit.typeIs F.entry_tuple_iterator_next ?_ (F.args_tuple_iterator_next_1 _)));show L3 _ _ (field (.ref it) 0 >>= _) _ _ s;refine o0 (U8 ho hd (x:=.ref t) rfl ?_);show L3 _ _ (if(W1 t==X8)=true then _ else _) _ _ s;rw[if_neg (show ¬ ((W1 t==X8)=true)from R9)];show L3 _ _ (field (.ref it) 1 >>= _) _ _ s;refine o0 (U8 ho hd (x:=.int i 0) rfl ?_);show L3 _ _ (as5 (.ref t) >>= _) _ _ s;refine o0 (aa7 hol hdl ?_);simp only[V6,hx];refine o0 (ae9 (o0 (wpAny_setField ho hd (by simp) ?_)));show L3 _ _ (newExc (.type "StopIteration") [] >>= _) _ _ _;refine o0 ?_;simp only[newExc,newTuple];refine o0 (S7 ?_ (by size_fits));refine o0 (m:=firstArgMember _ _) (wpAny_of_eq (a:=X8) (by first|rfl|(simp only[firstArgMember];rfl)) ?_);refine S7 ?_ (by size_fits);simp only[raiseNew];refine o0 (wpAny_handled ?_)
 first|rw[show A.in1.handled=none from hh]|rw[hh]
 refine o0 (J3 (wpAny_throw ?_));exact hE _ _ (((Z0 ..).extBut.push _).push _) ⟨_,K6 _ rfl,rfl⟩
end
theorem gI.upd{X:Cx}{af:List (K4×Obj)}{H:Hp}{b T:K4}{o:HO}(f:gI X af H b)(h:b≠T):gI X af (upd H T o) b:=by
 obtain⟨f0,r⟩:=f;exact⟨by rw[bj h];exact f0,r⟩
section
variable{X:Cx}{pos:Pos}
theorem D7{i j:Int}:dmD [.int i,.int j]=if qE i j then some (.tup [.int (i / j),.int (i % j)])else none:=rfl
theorem Bl{i j:Int}:Es [.int i,.int j]=some (.int (if j > i then j else i)):=rfl
theorem zh:ox 10 60=True:=by simp[ox]
end
section
variable{X:Cx}{e:N8}{te ts:TEd}{pos:Pos}
end
section
variable{κ:Type} [DecidableEq κ]
noncomputable def oF(kvs:List (κ×D))(k:κ):Option D:=(kvs.find? λkv=>decide (kv.1=k)).map (·.2)
noncomputable def wL(kvs:List (κ×D))(k:κ)(v:D):List (κ×D) :=
 if(kvs.any λkv=>decide (kv.1=k))=true then kvs.map (λkv=>if kv.1=k then(kv.1,v)else kv)else kvs++[(k,v)]
theorem si{p:κ×D}{r:List (κ×D)}{k:κ}(e:p.1=k):oF (p::r) k=some p.2:=by simp[oF,ab2,e]
theorem sF{p:κ×D}{r:List (κ×D)}{k:κ}(e:¬ p.1=k):oF (p::r) k=oF r k:=by simp[oF,ab2,e]
theorem sO(kvs:List (κ×D))(k:κ)(v:D):(wL kvs k v).length<=kvs.length+1:=by
 unfold wL
 split
 ·rw[u8];lia
 ·rw[J9,O3,Z7];lia
variable{K:H0}{M:DH}{H:Hp}
theorem KR.val{kvs:List (κ×D)}{ks:List (κ×V)}(h:KR K M H kvs ks)(k:κ):(∀d,oF kvs k=some d->∃v,ko ks k=some v/\Rep K M H d v)/\(ko ks k).isSome=(oF kvs k).isSome:=by
 unfold KR at h
 induction h with
 |nil=>exact⟨λd e=>(nomatch e),rfl⟩
 |@cons p q ps qs r t ih =>
  by_cases e:p.1=k
  ·rw[si e,kA (r.1.symm.trans e)];exact⟨λd z=>(by cases z;exact⟨_,rfl,r.2⟩),rfl⟩
  ·rw[sF e,j0 (λz=>e (r.1.trans z))];exact ih
theorem KR.any{kvs:List (κ×D)}{ks:List (κ×V)}(h:KR K M H kvs ks)(k:κ):(ks.any λkv=>decide (kv.1=k))=kvs.any λkv=>decide (kv.1=k):=by
 unfold KR at h
 induction h with
 |nil=>rfl
 |cons r _ ih=>rw[Z4,Z4,ih,r.1]
theorem KR.length{kvs:List (κ×D)}{ks:List (κ×V)}(h:KR K M H kvs ks):kvs.length=ks.length:=an4 h
theorem KR.put{kvs:List (κ×D)}{ks:List (κ×V)}(h:KR K M H kvs ks)(k:κ){d:D}{v:V}(r:Rep K M H d v):KR K M H (wL kvs k d) (kG ks k v):=by
 unfold wL kG;rw[h.any k]
 by_cases e:(kvs.any λkv=>decide (kv.1=k))=true
 ·rw[if_pos e,if_pos e];clear e;unfold KR at h ⊢
  induction h with
  |nil=>exact .nil
  |@cons p q ps qs r1 t ih =>
   rw[K2,K2];refine .cons ?_ ih
   by_cases e:p.1=k
   ·rw[if_pos e,if_pos (r1.1.symm.trans e)];exact⟨r1.1,r⟩
   ·rw[if_neg e,if_neg (λz=>e (r1.1.trans z))];exact r1
 ·rw[if_neg e,if_neg e];exact aa9.snoc h ⟨rfl,r⟩
end
def kD:Key->D
 |.inl i=>.int i
 |.inr x=>.str x
theorem yP{K:H0}{M:DH}{H:Hp}{k:Key}{v:V}(h:Rep K M H (kD k) v):v=kV k:=by
 cases k<;>simpa[kD,Rep,kV]using h
theorem qY{K:H0}{M:DH}{H:Hp}:∀{ks:List Key}{vs:List V},aq K M H (ks.map kD) vs->vs=ks.map kV
 |[],_,h=>by simpa[aq]using h
 |k::ks,_,h=>by
  simp only[K2,aq]at h;obtain⟨v,ws,rfl,h1,h2⟩:=h;rw[yP h1,qY h2];rfl
section
variable{X:Cx}{a b c e o i:N8}{es:List N8}{te to ti ta tb:TEd}{t:TAd}{pos:Pos}
def dDT:TEd:=λ_ M Q=>∀p,M p=none->Q (.ref p) (aT M p (.dT []))
def Ar(neg:Bool)(ty td:TE):TE:=λσ H Q=>ty σ H λy H1=>td σ H1 λx H2=>∃a o,x=.ref a/\mE H2 a y o/\Q (.bl (xor neg o.isSome)) H2
theorem yB{ty td:TE}{op:ao3}{neg:Bool}(hop:op=(if neg then .NotIn else .In))(hu:X.A.units+1<ac8)(hi:PE X i ty)(ho:PE X o td):PC X op i o (Ar neg ty td):=by
 subst hop;cases neg with
 |false =>
  intro af s σ H Q I h;exact C9 hu hi ho af s σ H Q I (by simpa[Ar,Ge]using h)
 |true =>
  intro af s σ H Q I h;exact v8 hu hi ho af s σ H Q I (by simpa[Ar,vk]using h)
def BR(neg:Bool)(t:TAd)(to:TEd):TEd:=λΔ M Q=>t Δ M λds M1=>ds.length<=J7/\to Δ M1 λx M2=>∃a kvs ks,x=.ref a/\M2 a=some (.dT kvs)/\ds=ks.map kD/\Q (.bl (xor neg (oF kvs ks).isSome)) M2
theorem tN{K:H0}{neg:Bool}:∀ σ H Q,up K (BR neg t to) σ H Q->Ar neg (E3 (upA K t)) (up K to) σ H Q:=λσ H Q hup=>hup.el λΔ M R sr hr q k=>⟨Δ,M,_,sr,hr,q,λds M1 vs H1 ⟨z,q1⟩ e1 hr1 rv=>⟨by rw[<-rv.length];exact z,λp hp=>⟨Δ,M1,_,(sr.ext e1).ext (Ext.new hr1 hp),hr1.new hp,q1,λx M2 u H2 ⟨a,kvs,ky,ex,em,ey,q2⟩ e2 hr2 ru=>by
  subst ex;subst ey;simp only[Rep]at ru;subst ru;obtain⟨ks,h2,kr⟩:=hr2 a _ em;have eb:=(e2 p _ bx (hr1.fresh hp)).1;rw[qY rv]at eb;refine⟨a,ko ks ky,rfl,mE.t h2 eb,?_⟩;rw[(kr.val ky).2];exact k _ M2 _ H2 q2 ((e1.trans (Ext.new hr1 hp)).trans e2) hr2 (by simp only[Rep])⟩⟩⟩
theorem GN{K:H0}{te:TEd}{tv:TE}(h:∀ σ H Q,up K te σ H Q->tv σ H Q):∀ σ H Q,upT K (oA te) σ H Q->tB tv σ H Q:=λσ H Q hup=>hup.el λΔ M R sr hr q k =>
 h σ H _ ⟨Δ,M,_,sr,hr,q,λd M1 v H1 ⟨b,e,q1⟩ e1 hr1 rv=>⟨b,by subst e;simpa only[Rep]using rv,k b M1 H1 q1 e1 hr1⟩⟩
def Cf(to:TEd)(t:TAd)(te:TEd):TSd:=λE Δ M=>te Δ M λd M1=>to Δ M1 λx M2=>t Δ M2 λds M3=>ds.length<=J7/\∃a kvs ks,x=.ref a/\M3 a=some (.dT kvs)/\ds=ks.map kD/\kvs.length<J7/\E.nx Δ (aT M3 a (.dT (wL kvs ks d)))
end
section
variable{X:Cx}{a b c e o:N8}{es:List N8}{te to:TEd}{t:TAd}{pos:Pos}{tg:N8}
noncomputable def GK:List D->Option D
 |[.int i,.int j]=>some (.int (if j<i then j else i))
 |_=>none
noncomputable def ck:List D->Option (List Int)
 |[]=>some []
 |.int i::ds=>(ck ds).map (i::·)
 |_=>none
theorem jH:∀{ns:List Int},ck (ns.map D.int)=some ns
 |[]=>rfl
 |n::ns=>by simp[ck,jH (ns:=ns)]
def BB:D->Option D
 |.lst ds=>(ck ds).map λns=>.int ns.sum
 |_=>none
theorem C1{ns:List Int}:BB (.lst (ns.map D.int))=some (.int ns.sum):=by simp[BB,jH]
theorem oT{K:H0}{M:DH}{H:Hp}:∀{ds:List D}{ns:List Int}{vs:List V}{us:List J0},ck ds=some ns->aq K M H ds vs->ay vs us->∃xs:Array (Int×Tok),us.toArray=intItems xs/\xs.toList.map (·.1)=ns
 |[],_,_,_,e,h,r=>by
  simp only[ck,ad3]at e;subst e;simp only[aq]at h;subst h;cases r;exact⟨#[],by simp[intItems],rfl⟩
 |.int i::ds,ns,vs,us,e,h,r=>by
  simp only[ck]at e;cases q:ck ds with
  |none=>rw[q]at e;cases e
  |some ms =>
   rw[q]at e;cases e;simp only[aq]at h;obtain⟨v,ws,rfl,h1,h2⟩:=h;simp only[Rep]at h1;subst h1;cases r with
   |@cons x u xs' us' r1 r2 =>
    obtain⟨t,rfl⟩:=r1;obtain⟨ys,e1,e2⟩:=oT q h2 r2;refine⟨(((i,t)::ys.toList)).toArray,?_,by simp[e2]⟩;have:us'=(intItems ys).toList:=by rw[<-e1]
    rw[this];simp[intItems]
 |.non::_,_,_,_,e,_,_=>by cases e
 |.bl _::_,_,_,_,e,_,_=>by cases e
 |.str _::_,_,_,_,e,_,_=>by cases e
 |.tup _::_,_,_,_,e,_,_=>by cases e
 |.lst _::_,_,_,_,e,_,_=>by cases e
 |.scr _::_,_,_,_,e,_,_=>by cases e
 |.emp::_,_,_,_,e,_,_=>by cases e
 |.box _ _::_,_,_,_,e,_,_=>by cases e
 |.ref _::_,_,_,_,e,_,_=>by cases e
theorem EE(hc:X.calm=true):bO X (.builtin "sum") (ma BB):=by
 intro af s σ H M xs us ds dz Q I hr rv rp e k;obtain⟨d,rfl,e0⟩:=cw e;clear e;have e:=e0;clear e0;obtain⟨v,rfl,r⟩:=kh rp;obtain⟨u,rfl,ru⟩:=ay.one rv;cases d with
 |lst ds =>
  simp only[BB]at e;cases q:ck ds with
  |none=>rw[q]at e;cases e
  |some ns =>
   rw[q]at e;cases e;obtain⟨l,vs,rfl,sq,rl⟩:=r;cases ru;obtain⟨its,rv,pl,hz⟩:=I.list (SqL.of sq);obtain⟨ys,e1,e2⟩:=oT q rl rv;refine sum_intListG (xs:=ys) (I.ok.hd hc) (by rw[<-e1];exact pl.isList) λh' tk t' kk=>?_;have I1:Inv X af σ H { s with heap:=h',toks:=tk }:=I.kept (t':=tk) kk;refine⟨.int _,H,I1,⟨_,rfl⟩,k _ H (Ext.refl _ _) hr ?_⟩;have e3:preSum (numAt ys) ys.size=ns.sum:=by
    rw[preSum_eq,U3 (by simp),e2]
   rw[e3];simp[Rep]
 |_=>cases e
def EN(to:TEd):TEd:=λΔ M Q=>to Δ M λo M1=>∃a ds d,o=.ref a/\M1 a=some (.lst (ds++[d]))/\Q d (aT M1 a (.lst ds))
end
section
variable{X:Cx}{tg iter elt:N8}{pos:Pos}{scope:af8}{cl:List (Str×K4)}{ms:List Bool}{ar:List Str}{ifs:List N8}
end
end L2
namespace L2
open PySem PySem.W PyProof.Rows
section
variable{α β:Type}
def tw(n:Nat)(lt:Nat->Nat->Bool):KasT α->(α->Prop)->Prop
 |.ret a,Q=>Q a
 |.ask i j k,Q=>i<n/\j<n/\tw n lt (k (lt i j)) Q
theorem iN{n:Nat}{lt:Nat->Nat->Bool}{f:α->KasT β}{Q:β->Prop}:∀{t:KasT α},tw n lt t (λa=>tw n lt (f a) Q)->tw n lt (t.bind f) Q
 |.ret _,h=>h
 |.ask _ _ _,h=>⟨h.1,h.2.1,iN h.2.2⟩
theorem yI{n:Nat}{lt:Nat->Nat->Bool}{cmp:Nat->Nat->(Bool->J4->Prop)->J4->Prop}{J:J4->Prop}(hc:∀i j C s,i<n->j<n->J s->(∀s',J s'->C (lt i j) s')->cmp i j C s){Q:α->Prop}{G:α->J4->Prop}(hG:∀a s,J s->Q a->G a s):
  ∀{t:KasT α} {s:J4},tw n lt t Q->J s->t.kasWp cmp G s
 |.ret _,s,h,hj=>hG _ s hj h
 |.ask i j k,s,h,hj=>hc i j _ s h.1 h.2.1 hj λs' hj'=>yI hc hG h.2.2 hj'
variable{O:ac2}{key:Nat->O.α}{n:Nat}
def dQ(O:ac2)(key:Nat->O.α)(i j:Nat):Bool:=O.blt (key i) (key j)
def B0(O:ac2)(key:Nat->O.α):KeyKind:={ O with keyOf:=λv=>match v with|.int i _=>some (key i.toNat)|_=>none,dflt:=key 0 }
def oJ(p:Array Nat):Array Keyed:=p.map λ(i:Nat)=>((ak0 (i:Int) 0,X8):Keyed)
noncomputable def kp(O:ac2)(key:Nat->O.α)(p:Array Nat)(i:Nat):O.α:=key (p.getD i 0)
theorem nR{p:Array Nat}{i:Nat}(h:i<p.size):KK (B0 O key) (oJ p) i=kp O key p i:=by
 unfold KK kp oJ;rw[Array.getElem?_map,R0 h];simp[B0,aa3,h]
theorem BC{p:Array Nat}{i j:Nat}:oJ (kas_rev p i j)=mirror (oJ p) i j ((j-i) / 2):=by
 unfold oJ kas_rev mirror;exact(kas_swaps_map _ _ _ _ _).symm
theorem Aa{p:Array Nat}{k d:Nat}:oJ (bubble p k d)=bubble (oJ p) k d:=by
 unfold oJ bubble;exact(kas_swaps_map _ _ _ _ _).symm
theorem sk{p:Array Nat}:(oJ p).size=p.size:=by simp[oJ]
theorem yV{p:Array Nat}{i j:Nat}:(kas_rev p i j).size=p.size:=mirror_size _ _ _ _
theorem uM{p:Array Nat}{i j k:Nat}(hj:j<=p.size)(hk:k<p.size):kp O key (kas_rev p i j) k=if i<=k/\k<j then kp O key p (i+j-1-k)else kp O key p k:=by
 rw[<-nR (by rw[yV];exact hk),BC,KK_mirror (by rw[sk];exact hj)]
 by_cases h:i<=k/\k<j
 ·rw[if_pos h,if_pos h,nR (by lia)]
 ·rw[if_neg h,if_neg h,nR hk]
theorem xJ{p:Array Nat}{src d k:Nat}(hs:src<p.size)(hd:d<=src)(hk:k<p.size):kp O key (bubble p src d) k=if k=src-d then kp O key p src else if src-d<k/\k<=src then kp O key p (k-1)else kp O key p k:=by
 rw[<-nR (by rw[bubble_size];exact hk),Aa,KK_bubble (by rw[sk];exact hs) hd]
 by_cases h1:k=src-d
 ·rw[if_pos h1,if_pos h1,nR hs]
 ·rw[if_neg h1,if_neg h1]
  by_cases h2:src-d<k/\k<=src
  ·rw[if_pos h2,if_pos h2,nR (by lia)]
  ·rw[if_neg h2,if_neg h2,nR hk]
def cK(n:Nat)(p:Array Nat):Prop:=p.toList.Perm (O2 n)
theorem cK.size{p:Array Nat}(h:cK n p):p.size=n:=by
 have:=h.length_eq;simpa using this
theorem cK.lt{p:Array Nat}(h:cK n p){i:Nat}(hi:i<n):p.getD i 0<n:=by
 have hs:=h.size;have e:p.getD i 0=p.toList[i]'(by simp;lia):=by simp[aa3,show i<p.size by lia]
 rw[e];exact P8.mp (h.mem_iff.mp (P7 _))
theorem cK.rev{p:Array Nat}(h:cK n p)(i j:Nat):cK n (kas_rev p i j):=(Array.perm_iff_toList_perm.mp (mirror_perm p i j _)).trans h
theorem cK.bub{p:Array Nat}(h:cK n p)(i j:Nat):cK n (bubble p i j):=(Array.perm_iff_toList_perm.mp (bubble_perm p i j)).trans h
def dg(O:ac2)(key:Nat->O.α)(p:Array Nat)(k:Nat):Prop:=∀i j,i<=j->j<k->O.kle (kp O key p i) (kp O key p j)
def jc(O:ac2)(key:Nat->O.α)(p:Array Nat)(k:Nat):Prop:=∀i j,i<=j->j<k->O.kle (kp O key p j) (kp O key p i)
theorem dg.more{p:Array Nat}{x:Nat}(h:dg O key p x)(hx:1<=x)(le:O.kle (kp O key p (x-1)) (kp O key p x)):dg O key p (x+1):=λi j hij hj=>by
 rcases R1 j x with h1|h1
 ·exact h i j hij h1
 ·obtain rfl:j=x:=by lia
  rcases R1 i j with h2|h2
  ·exact ak5 (h i (j-1) (by lia) (by lia)) le
  ·obtain rfl:i=j:=by lia
   exact ad4 _
theorem jc.more{p:Array Nat}{x:Nat}(h:jc O key p x)(hx:1<=x)(le:O.kle (kp O key p x) (kp O key p (x-1))):jc O key p (x+1):=λi j hij hj=>by
 rcases R1 j x with h1|h1
 ·exact h i j hij h1
 ·obtain rfl:j=x:=by lia
  rcases R1 i j with h2|h2
  ·exact ak5 le (h i (j-1) (by lia) (by lia))
  ·obtain rfl:i=j:=by lia
   exact ad4 _
theorem uK{p:Array Nat}(hp:cK n p):∀{f a:Nat}{Q:Nat->Prop},1<=a->a+f<=n->dg O key p a ->
  (∀m,a<=m->m<=a+f->dg O key p m->(m=a+f∨O.klt (kp O key p m) (kp O key p (m-1)))->Q m)->tw n (dQ O key) (kas_asc p f a) Q
 |0,a,Q,h1,h2,hs,k=>k a (J6 _) (J6 _) hs (.inl rfl)
 |f+1,a,Q,h1,h2,hs,k=>by
  refine⟨hp.lt (by lia),hp.lt (by lia),?_⟩;cases q:dQ O key (p.getD a 0) (p.getD (a-1) 0)with
  |true=>exact k a (J6 _) (by lia) hs (.inr q)
  |false=>exact uK hp (by lia) (by lia) (hs.more h1 q) λm m1 m2 ms mo=>k m (by lia) (by lia) ms (mo.imp (λe=>by lia) id)
theorem ke{p:Array Nat}{i j:Nat}(hj:j<=p.size)(he:∀k,i<=k->k<j->kp O key p k=kp O key p (j-1)){k:Nat}(hk:k<p.size):kp O key (kas_rev p i j) k=kp O key p k:=by
 rw[uM hj hk]
 by_cases h:i<=k/\k<j
 ·rw[if_pos h,he _ (by lia) (by lia),he k h.1 h.2]
 ·rw[if_neg h]
theorem mq:∀{f:Nat}{p:Array Nat}{x q:Nat}{Q:Array Nat×Nat×Nat->Prop},cK n p->1<=x->x+f<=n->jc O key p x->q+1<=x->(∀i,x-(q+1)<=i->i<x->kp O key p i=kp O key p (x-1)) ->
  (∀p' m q',cK n p'->1<=m->m<=x+f->jc O key p' m->q'+1<=m->(∀i,m-(q'+1)<=i->i<m->kp O key p' i=kp O key p' (m-1))->Q (p',m,q'))->tw n (dQ O key) (kas_desc f p x q) Q
 |0,p,x,q,Q,hp,h1,h2,hs,hq,he,k=>k p x q hp h1 (J6 _) hs hq he
 |f+1,p,x,q,Q,hp,h1,h2,hs,hq,he,k=>by
  have hz:=hp.size;refine⟨hp.lt (by lia),hp.lt (by lia),?_⟩;cases c:dQ O key (p.getD x 0) (p.getD (x-1) 0)with
  |true =>
   have lt:O.klt (kp O key p x) (kp O key p (x-1)):=c;simp only[if_true]
   by_cases h0:q > 0
   ·rw[if_pos h0];have same:∀{i},i<n->kp O key (kas_rev p (x-(q+1)) x) i=kp O key p i:=λhi=>ke (by lia) he (by lia);refine mq (hp.rev _ _) (by lia) (by lia) ?_ (by lia) (λi i1 i2=>by obtain rfl:i=x:=(by lia);rfl) λp' m q' a b c' d e g=>k p' m q' a b (by lia) d e g;refine jc.more (λi j hij hj=>?_) h1 ?_
    ·rw[same (by lia),same (by lia)];exact hs i j hij hj
    ·rw[same (by lia),same (by lia)];exact ag2 lt
   ·rw[if_neg h0];exact mq hp (by lia) (by lia) (hs.more h1 (ag2 lt)) (by lia) (λi i1 i2=>by obtain rfl:i=x:=(by lia);rfl) λp' m q' a b c' d e g=>k p' m q' a b (by lia) d e g
  |false =>
   simp only[J5,if_false];refine⟨hp.lt (by lia),hp.lt (by lia),?_⟩;cases c2:dQ O key (p.getD (x-1) 0) (p.getD x 0)with
   |true=>exact k p x q hp h1 (by lia) hs hq he
   |false =>
    simp only[J5,if_false];have eq:kp O key p x=kp O key p (x-1):=O.total _ _ c c2;refine mq hp (by lia) (by lia) (hs.more h1 c2) (by lia) (λi i1 i2=>?_) λp' m q' a b c' d e g=>k p' m q' a b (by lia) d e g;rw[show x+1-1=x by lia];rcases R1 i x with h|h
    ·rw[eq];exact he i (by lia) h
    ·obtain rfl:i=x:=by lia
     rfl
theorem u6{p:Array Nat}{m nrem:Nat}{Q:Nat×Array Nat->Prop}(hp:cK n p)(h1:1<=m)(h2:m<=nrem)(h3:nrem<=n)(hs:jc O key p m)
  (k:∀m' p',cK n p'->1<=m'->m'<=nrem->dg O key p' m'->Q (m',p')):tw n (dQ O key) (kas_tail3 m nrem p) Q:=by
 have hz:=hp.size;unfold kas_tail3;refine iN (uK (hp.rev 0 m) h1 (by lia) (λi j hij hj=>?_) λm' a b c _=>k m' _ (hp.rev 0 m) (by lia) (by lia) c);rw[uM (by lia) (by lia),uM (by lia) (by lia),if_pos ⟨by lia,by lia⟩,if_pos ⟨by lia,by lia⟩];exact hs _ _ (by lia) (by lia)
theorem lT{p:Array Nat}{m nrem:Nat}{Q:Nat×Array Nat->Prop}(hp:cK n p)(h2:m+1<=nrem)(h3:nrem<=n)(hs:jc O key p (m+1))
  (k:∀m' p',cK n p'->1<=m'->m'<=nrem->dg O key p' m'->Q (m',p')):tw n (dQ O key) (kas_descPart m nrem p) Q:=by
 unfold kas_descPart;refine iN (mq hp (by lia) (by lia) hs (by lia) (λi i1 i2=>by obtain rfl:i=m:=(by lia);rfl) λp' x q' hp' x1 x2 hs' hq he=>?_);have hz:=hp'.size;dsimp only
 by_cases h0:q' > 0
 ·rw[if_pos h0];refine u6 (hp'.rev _ _) x1 (by lia) h3 (λi j hij hj=>?_) k;rw[ke (by lia) he (by lia),ke (by lia) he (by lia)];exact hs' i j hij hj
 ·rw[if_neg h0];exact u6 hp' x1 (by lia) h3 hs' k
theorem yK{p:Array Nat}{nrem:Nat}{Q:Nat×Array Nat->Prop}(hp:cK n p)(h1:1<=nrem)(h3:nrem<=n)
  (k:∀m' p',cK n p'->1<=m'->m'<=nrem->dg O key p' m'->Q (m',p')):tw n (dQ O key) (kas_count nrem p) Q:=by
 have hz:=hp.size;unfold kas_count;refine iN (uK hp (J6 1) (by lia) (λi j hij hj=>by obtain rfl:i=j:=(by lia);exact ad4 _) λm m1 m2 ms mo=>?_)
 by_cases e:m=nrem
 ·rw[if_pos (by simpa using e)];exact k m p hp m1 (by lia) ms
 ·rw[if_neg (by simpa using e)];have lt:O.klt (kp O key p m) (kp O key p (m-1)):=mo.resolve_left (by lia)
  by_cases g:m > 1
  ·rw[if_pos g];refine⟨hp.lt (by lia),hp.lt (by lia),?_⟩;cases c:dQ O key (p.getD 0 0) (p.getD (m-1) 0)with
   |true=>exact k m p hp m1 (by lia) ms
   |false =>
    simp only[J5,if_false];have like:∀i,0<=i->i<m->kp O key p i=kp O key p (m-1):=λi _ hi =>
     ac2.kle_antisymm (ms i (m-1) (by lia) (by lia)) (ak5 (show O.kle (kp O key p (m-1)) (kp O key p 0)from c) (ms 0 i (by lia) hi))
    have same:∀{i},i<n->kp O key (kas_rev p 0 m) i=kp O key p i:=λhi=>ke (by lia) like (by lia);refine lT (hp.rev _ _) (by lia) h3 (jc.more (λi j hij hj=>?_) m1 ?_) k
    ·rw[same (by lia),same (by lia),like i (by lia) (by lia),like j (by lia) hj];exact ad4 _
    ·rw[same (by lia),same (by lia)];exact ag2 lt
  ·rw[if_neg g];obtain rfl:m=1:=by lia
   refine lT hp (by lia) h3 (jc.more (λi j hij hj=>by obtain rfl:i=j:=(by lia);exact ad4 _) (J6 1) (ag2 lt)) k
theorem mV{p:Array Nat}(hp:cK n p){x:Nat}(hx:x<n)(hs:dg O key p x):∀{f l r:Nat}{Q:Nat->Prop},l<=r->r<=x->r-l<=f ->
  (∀i,i<l->O.kle (kp O key p i) (kp O key p x))->(∀i,r<=i->i<x->O.klt (kp O key p x) (kp O key p i)) ->
  (∀l',l'<=x->(∀i,i<l'->O.kle (kp O key p i) (kp O key p x))->(∀i,l'<=i->i<x->O.klt (kp O key p x) (kp O key p i))->Q l')->tw n (dQ O key) (kas_place p x f l r) Q
 |0,l,r,Q,h1,h2,h3,a,b,k=>by
  obtain rfl:l=r:=by lia
  exact k l h2 a b
 |f+1,l,r,Q,h1,h2,h3,a,b,k=>by
  unfold kas_place
  by_cases g:l>=r
  ·rw[if_pos g];obtain rfl:l=r:=by lia
   exact k l h2 a b
  ·rw[if_neg g];refine⟨hp.lt hx,hp.lt (by lia),?_⟩;cases c:dQ O key (p.getD x 0) (p.getD ((l+r) / 2) 0)with
   |true =>
    simp only[if_true];exact mV hp hx hs (by lia) (by lia) (by lia) a (λi i1 i2=>ac2.klt_of_klt_of_kle (show O.klt (kp O key p x) (kp O key p ((l+r) / 2))from c) (hs _ _ i1 i2)) k
   |false =>
    simp only[J5,if_false];exact mV hp hx hs (by lia) (by lia) (by lia) (λi hi=>ak5 (hs i ((l+r) / 2) (by lia) (by lia)) (show O.kle (kp O key p ((l+r) / 2)) (kp O key p x)from c)) b k
theorem zN:∀{f:Nat}{p:Array Nat}{x:Nat}{Q:Array Nat->Prop},cK n p->1<=x->x+f<=n->dg O key p x->(∀p',cK n p'->dg O key p' (x+f)->Q p')->tw n (dQ O key) (kas_bin f p x) Q
 |0,p,x,Q,hp,_,_,hs,k=>k p hp hs
 |f+1,p,x,Q,hp,h1,h2,hs,k=>by
  have hz:=hp.size;refine iN (mV hp (by lia) hs (Q5 _) (J6 _) (by lia) (λi hi=>by lia) (λi a b=>by lia) λl hl lo hi=>?_);refine zN (hp.bub _ _) (by lia) (by lia) (λi j hij hj=>?_) λp' a b=>k p' a (by rw[show x+(f+1)=x+1+f by lia];exact b);rw[xJ (by lia) (by lia) (by lia),xJ (by lia) (by lia) (by lia),show x-(x-l)=l by lia]
  by_cases a1:i=l
  ·rw[if_pos a1]
   by_cases b1:j=l
   ·rw[if_pos b1];exact ad4 _
   ·rw[if_neg b1,if_pos (by lia)];exact ag2 (hi _ (by lia) (by lia))
  ·rw[if_neg a1]
   by_cases a2:l<i/\i<=x
   ·rw[if_pos a2,if_neg (by lia),if_pos (by lia)];exact hs _ _ (by lia) (by lia)
   ·rw[if_neg a2]
    by_cases b1:j=l
    ·rw[if_pos b1];exact lo _ (by lia)
    ·rw[if_neg b1]
     by_cases b2:l<j/\j<=x
     ·rw[if_pos b2];exact hs _ _ (by lia) (by lia)
     ·rw[if_neg b2];exact hs _ _ hij (by lia)
theorem A3(h:1<=n){Q:Array Nat->Prop}(k:∀p,cK n p->dg O key p n->Q p):tw n (dQ O key) (kas_sort n) Q:=by
 have h0:cK n (List.toArray (O2 n)):=an2.refl _;unfold kas_sort;refine iN (yK h0 h (J6 _) λm p hp m1 m2 ms=>?_);dsimp only
 by_cases g:m<n
 ·rw[if_pos g];have e:max m 1=m:=by lia
  rw[e];exact zN hp m1 (by lia) ms λp' a b=>k p' a (by rwa [show m+(n-m)=n by lia]at b)
 ·rw[if_neg g];obtain rfl:m=n:=by lia
  exact k p hp ms
end
end L2
namespace L2
open PySem PySem.W PySem.Calls PyProof.Rows
section
variable{prog:N4}{w:S2}{A:P5}{E:J0->J4->Prop}{O:ac2}
def i7(vs:List J0)(p:Array Nat):List J0:=p.toList.map λi=>vs.getD i X8
theorem pB{vs:List J0}{p:Array Nat}(h:cK vs.length p):(i7 vs p).length=vs.length:=by
 unfold i7;rw[u8,L1];exact h.size
def rW(x:K4)(s t:J4):Prop:=∀b o,b≠x->s.heap.get? b=some o->t.heap.get? b=some o
theorem CK{s:J4}{x:K4}{vs:List J0}{n:Nat}{key:Nat->O.α}{κ:ar3}{P:PySem.Fin->J4->Prop}(hx:s.heap.get? x=some (an3 "list" vs.toArray n))(hz:vs.length<64)
  (hk:∀s1 Q,2<=vs.length->rW x s s1->Q κ s1->L3 (N9 prog w) A (keyKind' vs.toArray) Q (λ_ _=>False) s1)
  (hc:∀i j s1 C,i<vs.length->j<vs.length->rW x s s1->C (dQ O key i j) s1->kas_ask prog w A κ vs i j C s1)
  (k:∀p c h',cK vs.length p->dg O key p vs.length->(∀b o,b≠x->s.heap.get? b=some o->h'.get? b=some o)->h'.get? x=some (an3 "list" (i7 vs p).toArray c)->P (.done (.ret .none)) { s with heap:=h' }) :
  L3 (N9 prog w) A (L6.«list.sort» ⟨[.ref x],[]⟩) P E s:=by
 have lx:x<s.heap.objs.size:=K7 hx;obtain⟨c1,h1⟩:∃c,(s.heap.update x (ap1 λ_=>#[])).get? x=some (an3 "list" #[] c):=⟨_,get?_update_seq hx (λ_=>#[])⟩;rw[list_sort_plain];refine o0 (listItems_at hx rfl (o0 (listUpdate_at hx rfl (o0 (seqEpoch_at h1 rfl (o0 (wpAny_newTuple (o0 (wpAny_newList (U4 ?_) (Q5 _))) ?_)))) ?_ (Q5 _))))
 rotate_left
 ·show vs.length<=_;rw[af1];lia
 ·rw[J8,af1];lia
 generalize hh:((s.heap.update x (ap1 λ_=>#[])).push (an3 "tuple" vs.toArray 0)).push (an3 "list" #[] 0)=h2;show L3 _ A _ P E { s with heap:=h2 };have g2:h2.get? x=some (an3 "list" #[] c1):=by
  rw[<-hh];exact I0 _ (I0 _ h1)
 have st:rW x s { s with heap:=h2 }:=λb o ne e=>by
  show h2.get? b=some o;rw[<-hh];exact I0 _ (I0 _ (by rw[N0.get?_update_ne _ _ _ _ ne];exact e))
 have fin:∀p,cK vs.length p->dg O key p vs.length->P (.done (.ret .none)) { s with heap:=h2.update x (ap1 λ_=>(i7 vs p).toArray) }:=λp hp hr =>
  k p _ _ hp hr (λb o ne e=>by rw[N0.get?_update_ne _ _ _ _ ne];exact st b o ne e) (get?_update_seq g2 λ_=>(i7 vs p).toArray)
 dsimp only
 by_cases few:vs.toArray.size<2
 ·rw[if_pos few,if_pos few];refine o0 (J3 ?_);rw[StateT.run_pure];refine o0 (J3 ?_);dsimp only;have few':vs.length<2:=by rw[J8]at few;exact few
  have e0:(arrOf (SortSt.mk' general' (vs.toArray.zip vs.toArray) #[] 7 none)).map (·.2)=(i7 vs (List.toArray (O2 vs.length))).toArray:=by
   refine kat_snds rfl ?_;have e:=kas_range (vs.toArray.zip vs.toArray);have z0:(vs.toArray.zip vs.toArray).size=vs.length:=by simp
   rw[z0]at e;exact e.symm
  rw[e0];refine o0 (seqEpoch_at g2 rfl (o0 (listUpdate_at g2 rfl ?_ (Q5 _) ?_)))
  ·simp only[failedOf,bne_self_eq_false,J5,if_false];exact J3 (fin _ (an2.refl _) λi j hij hj=>by
    obtain rfl:i=j:=by lia
    exact ad4 _)
  ·rw[J8,pB (show cK vs.length (List.toArray (O2 vs.length))from an2.refl _),af1];lia
 ·rw[if_neg few,if_neg few];have two:2<=vs.length:=by rw[J8]at few;lia
  refine o0 (T5 (hk { s with heap:=h2 } (λq t=>q=κ/\t=({ s with heap:=h2 }:J4)) two st ⟨rfl,rfl⟩) ?_ λ_ _ z=>z.elim);rintro κ' _ ⟨ek,rfl⟩;rw[ek];have ask:(kas_sort vs.length).kasWp (kas_ask prog w A κ vs) (λp t=>t=({ s with heap:=h2 }:J4)/\cK vs.length p/\dg O key p vs.length) { s with heap:=h2 } :=
   yI (J:=λt=>t=({ s with heap:=h2 }:J4)) (lt:=dQ O key) (Q:=λp=>cK vs.length p/\dg O key p vs.length) (λi j C t hi hj ht hC=>by subst ht;exact hc i j _ C hi hj st (hC _ rfl)) (λp t ht hq=>⟨ht,hq⟩) (A3 (by lia) λp a b=>⟨a,b⟩) rfl
  refine o0 (T5 (kat_run (Q:=λu t=>∃p:Array Nat,arrOf u=p.map (kas_item (vs.toArray.zip vs.toArray))/\failedOf u=none/\t=({ s with heap:=h2 }:J4)/\cK vs.length p/\dg O key p vs.length) rfl two hz (λp u t _ a2 a3 a4=>⟨p,a2,a3,a4⟩) ask) ?_ λ_ _ z=>z);rintro⟨⟨⟩,u⟩ t ⟨p,ea,ef,rfl,hp,hr⟩;dsimp only;have e0:(arrOf u).map (·.2)=(i7 vs p).toArray:=kat_snds rfl ea;rw[e0];refine o0 (seqEpoch_at g2 rfl (o0 (listUpdate_at g2 rfl ?_ (Q5 _) ?_)))
  ·rw[ef];simp only[bne_self_eq_false,J5,if_false];exact J3 (fin p hp hr)
  ·rw[J8,pB hp,af1];lia
end
noncomputable def ltP(a b:Int×Int):Bool:=decide (a.1<b.1) || (decide (a.1=b.1)&&decide (a.2<b.2))
def leP(a b:Int×Int):Bool:=! ltP b a
theorem iO{a b:Int×Int}:ltP a b=true↔a.1<b.1∨(a.1=b.1/\a.2<b.2):=by simp[ltP]
theorem mG{a b:Int×Int}:ltP a b=false↔b.1<a.1∨(a.1=b.1/\b.2<=a.2):=by
 rw[Bool.eq_false_iff,Ne,iO];lia
def Gr:ac2 where
 α:=Int×Int
 blt:=ltP
 irrefl a:=by rw[mG];lia
 trans a b c h1 h2:=by rw[iO]at *;lia
 negTrans a b c h:=by rw[iO,iO];rw[iO]at h;lia
 total a b h1 h2:=by
  rw[mG]at h1 h2;exact Prod.ext (by lia) (by lia)
theorem yM{a b:Int×Int}(h1:leP a b=true)(h2:leP b a=true):a=b:=by
 simp only[leP,ad5,mG]at h1 h2;exact Prod.ext (by lia) (by lia)
def dH(ps:List (Int×Int)):List (Int×Int):=ps.mergeSort leP
theorem nt(ps:List (Int×Int)):(dH ps).Perm ps:=List.mergeSort_perm _ _
theorem yb(ps:List (Int×Int)):(dH ps).Pairwise λa b=>leP a b=true :=
 List.pairwise_mergeSort (λa b c h1 h2=>by simp only[leP,ad5,mG]at *;lia) (λa b=>by
  cases h:leP a b with
  |true=>rfl
  |false =>
   simp only[leP,Bool.not_eq_false',iO]at h;simp only[Bool.false_or,leP,ad5,mG];lia) ps
theorem yL{ps qs:List (Int×Int)}(h:qs.Perm ps)(hs:qs.Pairwise λa b=>leP a b=true):qs=dH ps :=
 an2.eq_of_pairwise (le:=λa b=>leP a b=true) (λa b _ _ h1 h2=>yM h1 h2) hs (yb ps) (h.trans (nt ps).symm)
def pD(p:Int×Int):D:=.tup [.int p.1,.int p.2]
noncomputable def gP:List D->Option (List (Int×Int))
 |[]=>some []
 |.tup [.int i,.int j]::ds=>(gP ds).map ((i,j)::·)
 |_=>none
theorem lr:∀{ps:List (Int×Int)},gP (ps.map pD)=some ps
 |[]=>rfl
 |p::ps=>by simp[gP,pD,lr (ps:=ps)]
theorem ug:∀{ds:List D}{ps:List (Int×Int)},gP ds=some ps->ds=ps.map pD:=by
 intro ds
 induction ds using gP.induct with
 |case1=>intro ps e;cases e;rfl
 |case2 i j ds ih =>
  intro ps e;simp only[gP]at e;cases q:gP ds with
  |none=>rw[q]at e;cases e
  |some qs=>rw[q]at e;cases e;rw[ih q];rfl
 |case3 ds h1 h2=>intro ps e;rw[gP]at e<;>simp_all
section
variable{X:Cx}{af:List (K4×Obj)}{s:J4}{σ:St}{H:Hp}{M:DH}
theorem Eb(I:Inv X af σ H s){ps:List (Int×Int)}{vs:List V}{us:List J0}(rl:aq X.K M H (ps.map pD) vs)(rv:ay vs us){i:Nat}(hi:i<ps.length):
  ∃a t u,us[i]?=some (.ref a)/\ak1 s.heap a #[.int ps[i].1 t,.int ps[i].2 u]:=by
 obtain⟨v,g,r⟩:=rl.get (i:=i) (d:=pD ps[i]) (by simp[hi]);obtain⟨u',g',r'⟩:=rv.get g;simp only[pD,Rep]at r;obtain⟨a,ws,rfl,sq,rw_⟩:=r;cases r';obtain⟨its,rv2,tp,hz⟩:=I.tuple sq.sq;simp only[aq,Rep]at rw_;obtain⟨_,_,rfl,rfl,_,_,rfl,rfl,rfl⟩:=rw_;obtain⟨x,y,rfl,⟨t,rfl⟩,⟨u,rfl⟩⟩:=ay.two rv2;exact⟨a,t,u,g',tp⟩
theorem kf{us:List J0}{i:Nat}{v:J0}(h:us[i]?=some v):us.getD i X8=v:=by
 rw[N6,h];rfl
theorem vK{h:N0}:∀{ps:List (Int×Int)}{us:List J0},us.length=ps.length->(∀i (hi:i<ps.length),∃a t u,us[i]?=some (.ref a)/\ak1 h a #[.int ps[i].1 t,.int ps[i].2 u])->∃fs,KatTups h us fs/\fs.length=ps.length/\∀f∈fs,∃i t,f=ak0 i t
 |[],[],_,_=>⟨[],KatTups.nil,rfl,λ_ h=>(nomatch h)⟩
 |p::ps,u::us,hl,k=>by
  obtain⟨fs,h1,h2,h3⟩:=vK (ps:=ps) (us:=us) (by simpa using hl) λi hi=>k (i+1) (by simpa using hi);obtain⟨a,t,t',e,o,ho,hc,n,hd⟩:=k 0 (by simp);simp only[W9,ad3]at e;subst e;exact⟨_::fs,KatTups.cons ho hc hd rfl h1,by simp[h2],λf hf=>by
   rcases L5.mp hf with rfl|hf
   ·exact⟨_,_,rfl⟩
   ·exact h3 f hf⟩
 |[],_::_,hl,_=>by simp at hl
 |_::_,[],hl,_=>by simp at hl
theorem yH{prog:N4}{w:S2}{A:P5}{E:J0->J4->Prop}{s:J4}{x y:K4}{p q:Int×Int}{t1 t2 t3 t4:Tok}{C:Bool->J4->Prop}(hx:ak1 s.heap x #[.int p.1 t1,.int p.2 t2])(hy:ak1 s.heap y #[.int q.1 t3,.int q.2 t4])(k:C (ltP p q) s):
  L3 (N9 prog w) A (keyLt' (tuples' true) (.ref x) (.ref y)) C E s:=by
 obtain⟨o1,h1,_,n1,d1⟩:=hx;obtain⟨o2,h2,_,n2,d2⟩:=hy;refine kat_lt h1 d1 h2 d2 ?_;refine kat_cons (wpAny_eqBool_int ?_);cases e:(p.1==q.1)with
 |false =>
  refine kat_no (oneLt_int ?_);have:decide (p.1<q.1)=ltP p q:=by
   have e':¬ p.1=q.1:=by simpa using e
   simp[ltP,e']
  rw[this];exact k
 |true =>
  have e':p.1=q.1:=by simpa using e
  refine kat_yes (kat_cons (wpAny_eqBool_int ?_));cases g:(p.2==q.2)with
  |false =>
   refine kat_no (kat_one _ _ ?_);refine wpAny_lt_int ?_;have:decide (p.2<q.2)=ltP p q:=by simp[ltP,e']
   rw[this];exact k
  |true =>
   have g':p.2=q.2:=by simpa using g
   refine kat_yes (kat_nil ?_);have:decide ((#[ak0 p.1 t1,ak0 p.2 t2]:Array J0).size<(#[ak0 q.1 t3,ak0 q.2 t4]:Array J0).size)=ltP p q:=by simp[ltP,e',g']
   rw[this];exact k
def kp_(p:Array Nat)(i:Nat):Nat:=p.getD i 0
theorem js{h h':N0}{a:K4}{its:Array J0}(t:ak1 h a its)(k:∀b o,h.get? b=some o->h'.get? b=some o):ak1 h' a its :=
 let⟨o,ho,hc,hd⟩:=t
 ⟨o,k _ _ ho,hc,hd⟩
theorem lq{vs:List V}{us:List J0}(rv:ay vs us):∀{l:List Nat},(∀i∈l,i<vs.length)->ay (l.map λi=>vs.getD i .non) (l.map λi=>us.getD i X8)
 |[],_=>.nil
 |i::l,h=>by
  have hi:=h i (.head _);obtain⟨u,g,r⟩:=rv.get (J1 hi);rw[K2,K2];refine .cons ?_ (lq rv λj hj=>h j (.tail _ hj));rw[kf g,N6,J1 hi];exact r
theorem px{K:H0}{ps:List (Int×Int)}{vs:List V}(rl:aq K M H (ps.map pD) vs):∀{l:List Nat},(∀i∈l,i<ps.length)->aq K M H ((l.map λi=>ps.getD i (0,0)).map pD) (l.map λi=>vs.getD i .non)
 |[],_=>rfl
 |i::l,h=>by
  have hi:=h i (.head _);obtain⟨v,g,r⟩:=rl.get (i:=i) (d:=pD ps[i]) (by simp[hi]);simp only[K2,aq];refine⟨v,_,?_,?_,px rl λj hj=>h j (.tail _ hj)⟩
  ·rw[N6,g];rfl
  ·rw[N6,J1 hi];exact r
theorem wn(ps:List (Int×Int)):(O2 ps.length).map (λi=>ps.getD i (0,0))=ps:=by
 apply List.ext_getElem (by simp);intro i h1 h2;simp[J1 h2]
end
end L2
namespace L2
open PySem PySem.Spec PyProof.Rows
theorem GS{X:Cx}{pos:Pos}:QEd X (.Dict [] [] pos) dDT:=by
 simp only[QEd.eq]at *
 exact PE.conv y9 λσ H Q hup=>hup.el λΔ M R sr hr q k=>λp hp =>
  k _ _ _ _ (q p (hr.fresh hp)) (Ext.own hp) (hr.put (Ext.own hp) ⟨[],bx,.nil⟩) (by simp only[Rep])
theorem B6{X:Cx}{o:N8}{es:List N8}{to:TEd}{t:TAd}{pos:Pos}(neg:Bool){x1}{p:Pos}{op:ao3}(hop:op=(if neg then .NotIn else .In))(hu:X.A.units+1<ac8)(ht:QAd X es t)(ho:QEd X o to)(hm:Z3 op o=false):QEd X (.Compare (.Tuple es x1 p) [op] [o] pos) (BR neg t to):=by
 simp only[QEd.eq,QAd.eq]at *
 exact PE.conv (DM (yB hop hu (qi ht) ho) hm) tN
theorem rf{X:Cx}{o:N8}{es:List N8}{to:TEd}{t:TAd}{pos:Pos}(neg:Bool){x1}{p:Pos}{op:ao3}(hop:op=(if neg then .NotIn else .In))(hu:X.A.units+1<ac8)(ht:QAd X es t)(ho:QEd X o to)(hm:Z3 op o=false):QTd X (.Compare (.Tuple es x1 p) [op] [o] pos) (oA (BR neg t to)):=by
 simp only[QEd.eq,QAd.eq,QTd.eq]at *
 exact PT.conv (yA (yB hop hu (qi ht) ho) hm) (GN tN)
theorem D5{X:Cx}{e:N8}{o:N8}{es:List N8}{te:TEd}{to:TEd}{t:TAd}{pos:Pos}{x1}{p p2:Pos}(hu:X.A.units+1<ac8)(ho:QEd X o to)(ht:QAd X es t)(he:QEd X e te)(hs:ak2 e (some (.Subscript o (.Tuple es x1 p2) p)) pos.line X.env=ag9 false:=by rfl):QSd X (.Assign [.Subscript o (.Tuple es x1 p2) p] e pos) (Cf to t te):=by
 simp only[QEd.eq,QAd.eq,QSd.eq]at *
 exact PS.conv (AD hu ho (qi ht) he hs) λD σ H hup=>hup.el λΔ M E sr hr q k=>⟨Δ,M,_,sr,hr,q,λd M1 v H1 q1 e1 hr1 rv=>⟨Δ,M1,_,sr.ext e1,hr1,q1,λx M2 u H2 q2 e2 hr2 ru=>⟨Δ,M2,_,(sr.ext e1).ext e2,hr2,q2,λds M3 ws H3 ⟨hl,a,kvs,ky,ex,em,ey,hz,q3⟩ e3 hr3 rw_=>by
   subst ex;subst ey;simp only[Rep]at ru;subst ru;refine⟨by rw[<-rw_.length];exact hl,λp hp=>?_⟩;obtain⟨ks,h3,kr⟩:=hr3 a _ em;have hap:a≠p:=cp h3 hp;have e4:Ext M3 H3 M3 (upd H3 p (.tup ws)):=Ext.new hr3 hp;have hr4:=hr3.new (o:=.tup ws) hp;have ew:Ext M3 (upd H3 p (.tup ws)) (aT M3 a (.dT (wL kvs ky d))) (upd (upd H3 p (.tup ws)) a (.dT (kG ks ky v))):=Ext.write em;have h4:upd H3 p (.tup ws) a=some (.dT ks):=by rw[bj hap];exact h3
   refine⟨a,_,rfl,zR.t h4 (by rw[bx,qY rw_]) (by rw[<-kr.length];exact hz),?_⟩;exact k.nx Δ _ σ _ q3 ((((e1.trans e2).trans e3).trans e4).trans ew) (hr4.put ew ⟨_,bx,((kr.ext e4).put ky (((rv.ext e2).ext e3).ext e4)).ext ew⟩) (((((sr.ext e1).ext e2).ext e3).ext e4).ext ew)⟩⟩⟩
theorem Fu{X:Cx}{o:N8}{to:TEd}{eU bT:Pos}(ho:QEd X o to)(ij:ae3 o "pop" X.env (ad7 o X.env)=ad7 o X.env:=by rfl)(g9:(eU.endLine==bT.line)=true:=by rfl):QEd X (.Call (.Attribute o "pop" eU) [] [] bT) (EN to):=by
 simp only[QEd.eq]at *
 exact(C4 ae6 PySem.F.slot_list_pop PySem.F.type_list_pop (show MtR X "list.pop" EC from Ee) ho ij g9).conv λσ H Q hup=>hup.el λΔ M R sr hr q k=>⟨Δ,M,_,sr,hr,q,λo M1 ov H1 ⟨a,ds,d,eo,em,q1⟩ e1 hr1 ro=>by
   subst eo;simp only[Rep]at ro;subst ro;obtain⟨vs,hv,rl⟩:=hr1 a _ em;have hl:=rl.length;rw[J9,O3,Z7]at hl;obtain⟨v,gv,rv⟩:=rl.get (i:=ds.length) (d:=d) (by simp);have hl2:vs.length-1=ds.length:=by lia
   refine⟨.inl ⟨rfl,vs,SqL.of hv⟩,a,vs,v,rfl,rfl,hv,by rw[hl2];exact gv,?_⟩;have ew:Ext M1 H1 (aT M1 a (.lst ds)) (upd H1 a (.lst vs.dropLast)):=Ext.write em;refine k _ _ _ _ q1 (e1.trans ew) (hr1.write em ?_) (rv.ext ew);have:=aq.take ds.length rl;rw[List.take_left]at this;rw[List.dropLast_eq_take,hl2];exact this⟩
theorem de.units1{k:Nat}{A:P5}(r:de k A):A.units+1<ac8:=by have:=r.un;lia
theorem FL{i:Int}{P:Key->Prop}:(∃k,D.int i=kD k/\P k)↔P (.inl i) :=
 ⟨λ⟨k,e,h⟩=>match k,e with|.inl _,rfl=>h,λh=>⟨_,rfl,h⟩⟩
theorem FU{x:Str}{P:Key->Prop}:(∃k,D.str x=kD k/\P k)↔P (.inr x) :=
 ⟨λ⟨k,e,h⟩=>match k,e with|.inr _,rfl=>h,λh=>⟨_,rfl,h⟩⟩
theorem CC:∀{a b:Key},kD a=kD b->a=b
 |.inl _,.inl _,h=>by cases h;rfl
 |.inr _,.inr _,h=>by cases h;rfl
 |.inl _,.inr _,h=>by cases h
 |.inr _,.inl _,h=>by cases h
theorem u7:∀{a b:List Key},a.map kD=b.map kD->a=b
 |[],[],_=>rfl
 |[],_::_,h=>by cases h
 |_::_,[],h=>by cases h
 |x::xs,y::ys,h=>by
  simp only[K2,O0]at h;rw[CC h.1,u7 h.2]
theorem Ck{a b:Key}{P:List Key->Prop}:(∃ks:List Key,[kD a,kD b]=ks.map kD/\P ks)↔P [a,b] :=
 ⟨λ⟨ks,e,h⟩=>by rw[u7 (a:=[a,b]) (b:=ks) (by simpa using e)];exact h,λh=>⟨_,rfl,h⟩⟩
theorem DP{i j:Int}{P:List Key->Prop}:(∃ks:List Key,[D.int i,D.int j]=ks.map kD/\P ks)↔P [.inl i,.inl j]:=Ck (a:=.inl i) (b:=.inl j)
theorem CD{i j:Str}{P:List Key->Prop}:(∃ks:List Key,[D.str i,D.str j]=ks.map kD/\P ks)↔P [.inr i,.inr j]:=Ck (a:=.inr i) (b:=.inr j)
theorem AV{i j:Int}:GK [.int i,.int j]=some (.int (if j<i then j else i)):=rfl
section
variable{X:Cx}{a b:N8}{ta tb:TEd}{pos:Pos}
def Cs(ta tb:TEd):TEd:=λΔ M Q=>ta Δ M λx M1=>tb Δ M1 λy M2=>∃xs ys,rdM M2 x=.lst xs/\rdM M2 y=.lst ys/\xs.length+ys.length<=J7/\∀p,M2 p=none->Q (.ref p) (aT M2 p (.lst (xs++ys)))
theorem DX(ha:QEd X a ta)(hb:QEd X b tb):QEd X (.BinOp a .Add b pos) (Cs ta tb):=by
 simp only[QEd.eq]at *
 exact(Ct yk ha hb).conv λσ H Q hup=>hup.el λΔ M R sr hr q k=>⟨Δ,M,_,sr,hr,q,λx M1 v H1 q1 e1 hr1 rv=>⟨Δ,M1,_,sr.ext e1,hr1,q1,λy M2 u H2 ⟨xs,ys,ex,ey,hz,q2⟩ e2 hr2 ru=>by
   have r1:=(rv.ext e2).rd hr2;have r2:=ru.rd hr2;rw[ex]at r1;rw[ey]at r2;obtain⟨l1,vs,rfl,h1,l1r⟩:=r1;obtain⟨l2,ws,rfl,h2,l2r⟩:=r2;exact⟨l1,l2,vs,ws,rfl,rfl,h1,h2,by rw[<-l1r.length,<-l2r.length];exact hz,λp hp=>k _ _ _ _ (q2 p (hr2.fresh hp)) ((e1.trans e2).trans (Ext.own hp)) (hr2.own hp (l1r.append l2r)) (by simp only[Rep])⟩⟩⟩
end
abbrev BKd:=DE->DH->List D->(List D->DE->DH->Prop)->Prop
def iJ(g:GD)(tc:TTd)(B:BKd):List D->DE->DH->List D->(List D->DE->DH->Prop)->Prop
 |[],Δ,M,acc,Q=>Q acc Δ M
 |d::ds,Δ,M,acc,Q=>∃ Δ',g d Δ=some Δ'/\tc Δ' M λb M1=>if b=true then B Δ' M1 acc λacc' Δ'' M2=>acc'.length<=J7/\iJ g tc B ds Δ'' M2 acc' Q else iJ g tc B ds Δ' M1 acc Q
def k8(te:TEd):BKd:=λΔ M acc Q=>te Δ M λy M2=>Q (acc++[y]) Δ M2
def k9(wi:TId)(g:GD)(tc:TTd)(B:BKd):BKd:=λΔ M acc Q=>wi Δ M λes M2=>iJ g tc B es Δ M2 acc Q
def upB(K:H0)(b:BKd):BK:=λys σ H Z=>∃(Δ:DE) (M:DH) (acc:List D) (R:List D->DE->DH->Prop),SR K M H σ Δ/\HR K M H/\aq K M H acc ys/\acc.length<=J7/\b Δ M acc R /\
 ∀acc' Δ' M' ys' σ' H',R acc' Δ' M'->Ext M H M' H'->HR K M' H'->SR K M' H' σ' Δ'->aq K M' H' acc' ys'->Z ys' σ' H'
section
variable{K:H0}{g:GD}{gv:TG}{tc:TTd}{te:TEd}{wi:TId}{Bd:BKd}{B:BK}
theorem uY{ys:List V}{σ:St}{H:Hp}{Z:List V->St->Hp->Prop}(h:upB K (k8 te) ys σ H Z):nW (up K te) ys σ H Z:=by
 obtain⟨Δ,M,acc,R,sr,hr,ra,_,q,k⟩:=h;exact⟨Δ,M,_,sr,hr,q,λd M' v H' q1 e1 hr1 rv=>k _ _ _ _ _ _ q1 e1 hr1 (sr.ext e1) ((ra.ext e1).append (aq.cons rv aq.nil))⟩
theorem va(kg:o6 K g gv)(hB:∀{ys σ H Z},upB K Bd ys σ H Z->B ys σ H Z){J:It}{es:List D}{M5:DH}{H5:Hp}(it5:ItD K J es M5 H5)(hr5:HR K M5 H5){Δ:DE}{acc:List D}{R:List D->DE->DH->Prop}{ys:List V}{σ:St}{Z:List V->St->Hp->Prop}
  (sr:SR K M5 H5 σ Δ) (ra:aq K M5 H5 acc ys) (la:acc.length<=J7) (q:iJ g tc Bd es Δ M5 acc R)
  (k:∀acc' Δ' M' ys' σ' H',R acc' Δ' M'->Ext M5 H5 M' H'->HR K M' H'->SR K M' H' σ' Δ'->aq K M' H' acc' ys'->Z ys' σ' H') :
  ∃W:Nat->Nat->List V->St->Hp->Prop,(∃m,W 0 m ys σ H5)/\kU J gv (upT K tc) B W Z:=by
 refine⟨λj m ys' σ' H'=>∃ Δ' M' acc',m=es.length-j/\j<=es.length/\Ext M5 H5 M' H'/\HR K M' H'/\SR K M' H' σ' Δ'/\aq K M' H' acc' ys'/\acc'.length<=J7/\iJ g tc Bd (es.drop j) Δ' M' acc' R,
  ⟨es.length,Δ,M5,acc,by simp,Q5 _,Ext.refl _ _,hr5,sr,ra,la,q⟩,?_⟩
 rintro j m ys' σ6 H6 ⟨Δ6,M6,acc6,rfl,hj,e6,hr6,sr6,ra6,la6,f6⟩;refine⟨by rw[<-ra6.length];exact la6,?_⟩;obtain⟨go2,stop2⟩:=it5 M6 H6 e6 hr6 j
 by_cases hlt2:j<es.length
 ·have hd2:es[j]?=some es[j]:=by simp[hlt2]
  obtain⟨g2,y2⟩:=go2 _ hd2;rw[Z6 hlt2]at f6;simp only[iJ]at f6;obtain⟨Δ7,eg7,f7⟩:=f6;refine .inr ⟨g2,λx7 H7 hy7=>?_⟩;obtain⟨e7,hr7,rx7⟩:=y2 x7 H7 hy7;refine kg _ x7 σ6 Δ6 Δ7 M6 H7 _ (sr6.ext e7) hr7 rx7 eg7 λσ7 sr7=>?_;refine⟨Δ7,M6,_,sr7,hr7,f7,λb M8 H8 q8 e8 hr8=>?_⟩;cases b with
  |true =>
   simp only[if_true]at q8 ⊢;refine hB ⟨Δ7,M8,acc6,_,sr7.ext e8,hr8,(ra6.ext e7).ext e8,la6,q8,?_⟩;rintro acc' Δ' M' ys9 σ' H' ⟨hz9,q9⟩ e9 hr9 sr9 ra9;exact⟨es.length-(j+1),by lia,Δ',M',acc',rfl,hlt2,((e6.trans e7).trans e8).trans e9,hr9,sr9,ra9,hz9,q9⟩
  |false =>
   simp only[J5,if_false]at q8 ⊢;exact⟨es.length-(j+1),by lia,Δ7,M8,acc6,rfl,hlt2,(e6.trans e7).trans e8,hr8,sr7.ext e8,(ra6.ext e7).ext e8,la6,q8⟩
 ·rw[af0 (by lia)]at f6;simp only[iJ]at f6;exact .inl ⟨stop2 (by lia),k _ _ _ _ _ _ f6 e6 hr6 sr6 ra6⟩
theorem vV(kg:o6 K g gv)(hB:∀{ys σ H Z},upB K Bd ys σ H Z->B ys σ H Z){ys:List V}{σ:St}{H:Hp}{Z:List V->St->Hp->Prop}(h:upB K (k9 wi g tc Bd) ys σ H Z):yQ (upI K wi) gv (upT K tc) B ys σ H Z:=by
 obtain⟨Δ,M,acc,R,sr,hr,ra,la,q,k⟩:=h;exact⟨Δ,M,_,sr,hr,q,λes M2 J H2 q2 e2 hr2 it2=>va kg hB it2 hr2 (sr.ext e2) (ra.ext e2) la q2 λa1 a2 a3 a4 a5 a6 b1 b2=>k a1 a2 a3 a4 a5 a6 b1 (e2.trans b2)⟩
end
def DQ(ms:List Bool)(k:Nat)(w0:TId)(g0:GD)(tc0:TTd)(B:BKd):TEd:=λΔ M Q=>w0 Δ M λds M1=>iJ g0 tc0 B ds (se ms k Δ) M1 [] λys _ M2=>Q (.lst ys) M2
theorem sZ{K:H0}{w0:TId}{g0:GD}{tc0:TTd}{gv0:TG}{Bd:BKd}{B:BK}{ms:List Bool}{kk:Nat}(kg:o6 K g0 gv0)(hB:∀{ys σ H Z},upB K Bd ys σ H Z->B ys σ H Z):∀ σ H Q,up K (DQ ms kk w0 g0 tc0 Bd) σ H Q->AS ms kk (upI K w0) gv0 (upT K tc0) B σ H Q:=by
 rintro σ H Q ⟨Δ,M,R,sr,hr,q,k⟩;refine⟨Δ,M,_,sr,hr,q,λds M1 J H1 q1 e1 hr1 it=>?_⟩;obtain⟨W,hW,hC⟩:=va (Z:=λys' _ H'=>∃M' acc,Ext M1 H1 M' H'/\HR K M' H'/\aq K M' H' acc ys'/\R (.lst acc) M') kg hB it hr1 ((sr.ext e1).comp ms kk) aq.nil (Q5 _) q1
  (λacc' Δ' M' ys' σ' H' q' e' hr' _ ra'=>⟨M',acc',e',hr',ra',q'⟩)
 refine⟨W,_,hW,hC,?_⟩;rintro ys σ' H' p ⟨M',acc,e',hr',ra,q'⟩ hp;refine k _ M' _ _ q' ((e1.trans e').trans (Ext.new hr' hp)) (hr'.new hp) ?_;simp only[Rep];exact⟨p,ys,rfl,⟨bx,hr'.fresh hp⟩,ra.ext (Ext.new hr' hp)⟩
abbrev G3(elt t0 i0 t1 i1:N8)(f0 f1:List N8)(scope:af8)(pos:Pos):N8:=.ListComp elt [⟨t0,i0,f0,0⟩,⟨t1,i1,f1,0⟩] scope pos
def Bq(ms:List Bool)(k:Nat)(w0:TId)(g0:GD)(tc0:TTd)(wi:TId)(g:GD)(tc:TTd)(te:TEd):TEd:=DQ ms k w0 g0 tc0 (k9 wi g tc (k8 te))
section
variable{X:Cx}{scope:af8}{cl:List (Str×K4)}{ms:List Bool}{ar:List Str}{elt t0 i0 t1 i1:N8}{f0 f1:List N8}{pos:Pos}
theorem yF{w1:TI}{g1:TG}{tc1:TT}{te:TE}(hi1:∀C s H ex,PI (aN X scope cl (X.N++ar) C s H ex) t1 i1 w1)(hg1:∀C s H ex,PG (aN X scope cl (X.N++ar) C s H ex) t1 g1)(hif1:∀C s H ex,PIf (aN X scope cl (X.N++ar) C s H ex) f1 tc1)(he:∀C s H ex,PE (aN X scope cl (X.N++ar) C s H ex) elt te)
  (hs1:∀C x,R3 i1 (ar2 scope cl C X.env) x=ag9 x):LvC X scope cl ar (lcE elt [⟨t0,i0,f0,0⟩,⟨t1,i1,f1,0⟩] scope pos) i0.pos t0 f0 (yQ w1 g1 tc1 (nW te)):=λ_ _ _ _ _ c =>
 Bn c (vG (k:=1) (p:=i1.pos) c (he _ _ _ _) λ_ _ _=>rfl) (λ_ _ _=>rfl) (hs1 _) (hi1 _ _ _ _) (hg1 _ _ _ _) (hif1 _ _ _ _) λ_ _ _=>rfl
end
theorem zm{X:Cx}{scope:af8}{cl:List (Str×K4)}{ms:List Bool}{ar:List Str}{elt t0 i0 t1 i1:N8}{f0 f1:List N8}{pos:Pos}{w0 wi:TId}{g0 g:GD}{tc0 tc:TTd}{te:TEd}(S:fk X scope cl ms ar)(cQ:X.calm=true)(hi:QId X t0 i0 w0)(hg0:PGa X scope cl ar t0 g0)
  (hif0:∀C s H ex,QIf (aN X scope cl (X.N++ar) C s H ex) f0 tc0) (hi1:∀C s H ex,QId (aN X scope cl (X.N++ar) C s H ex) t1 i1 wi) (hg:PGa X scope cl ar t1 g) (hif:∀C s H ex,QIf (aN X scope cl (X.N++ar) C s H ex) f1 tc) (he:∀C s H ex,QEd (aN X scope cl (X.N++ar) C s H ex) elt te)
  (hs:∀x,R3 i0 X.env x=ag9 x:=by intro _;rfl) (hs1:∀C x,R3 i1 (ar2 scope cl C X.env) x=ag9 x:=by intro _ _;rfl):QEd X (.ListComp elt [⟨t0,i0,f0,0⟩,⟨t1,i1,f1,0⟩] scope pos) (Bq ms ar.length w0 g0 tc0 wi g tc te):=by
 simp only[QEd.eq,QId.eq,QIf.eq]at *
 obtain⟨gv0,pg0,kg0⟩:=hg0;obtain⟨gv,pg,kg⟩:=hg;exact(zD (tc:=upT X.K tc0) S cQ hi pg0 hif0 (yF (w1:=upI X.K wi) (tc1:=upT X.K tc) (te:=up X.K te) hi1 pg hif he hs1) hs).conv (sZ kg0 λh=>vV kg uY h)
theorem yq{K:Params->H0}{as:List K4}{n t:Nat}{q:N4}{loose:List Str}{XP:(Str->Option J0)->N0->Prop}{r:PySem.W.RowW}{d:DefRec}{kwd:List (Str×N8)}{run:J0->List J0->Sem J0}(hk:∀P,as=(K P).map (·.1))
  (h:PySem.W.WalkO q loose XP (λw h=>(K w.params).In h) r d kwd run):PySem.W.WalkX q loose XP (PySem.W.X.obsZ as) (PySem.W.X.valZ K n t) r d kwd run:=by
 intro w s₀ s₁ mg mb G y a o pm cd doc dV kV ho hd hcd hD hmg hg args vals as' L hpre hlay hrd hwl hlo;refine h w s₀ s₁ mg mb G (λb u hu=>L.keeps b u ?_) a o pm cd doc dV kV ho hd hcd hD hmg hg args vals as' hpre hlay hrd hwl hlo;have y1:as.map s₀.heap.get?=(K w.params).map λp=>some p.2:=congrArg (·.1) y;rw[hk w.params,Q7]at y1;have key:∀(l:H0),(l.map λp=>s₀.heap.get? p.1)=l.map (λp=>some p.2)->ap7 b l=some u->s₀.heap.get? b=some u:=by
  intro l
  induction l with
  |nil=>intro _ z;cases z
  |cons p l ih =>
   intro e z;rw[K2,K2,O0]at e;rw[P6]at z
   by_cases c:b=p.1
   ·subst c;rw[beq_self_eq_true]at z;cases z;exact e.1
   ·rw[beq_eq_false_iff_ne.mpr c]at z;exact ih e.2 z
 exact key _ y1 hu
end L2
namespace L2
open PySem PySem.W PySem.Calls PyProof.Rows
section
variable{prog:N4}{w:S2}{A:P5}{E:J0->J4->Prop}{O:ac2}
theorem pC{T:String}{o:Obj}{n:Nat}{s:J4}{l:K4}{vs:List J0}{key:Nat->O.α}{κ:ar3}{Q:J0->J4->Prop}(hT:T="list"∨T="tuple")(hg:s.heap.get? l=some o)(hcl:o.cls=.type T)(hd:o.data=.seq vs.toArray n)(hz:vs.length<64)
  (hk:∀s1 Q,2<=vs.length->(∀b o,s.heap.get? b=some o->s1.heap.get? b=some o)->Q κ s1->L3 (N9 prog w) A.in1.in1 (keyKind' vs.toArray) Q (λ_ _=>False) s1)
  (hc:∀i j s1 C,i<vs.length->j<vs.length->(∀b o,s.heap.get? b=some o->s1.heap.get? b=some o)->C (dQ O key i j) s1->kas_ask prog w A.in1.in1 κ vs i j C s1)
  (k:∀(h1:N0) p x c h',(∀b o,s.heap.get? b=some o->h1.get? b=some o)->cK vs.length p->dg O key p vs.length->h1.objs.size<=x->(∀b o,h1.get? b=some o->h'.get? b=some o)->h'.get? x=some (an3 "list" (i7 vs p).toArray c)->Q (.ref x) { s with heap:=h' }) :
  L3 (N9 prog w) A (call (.builtin "sorted") [.ref l]) Q E s:=by
 refine call_function_entry kind_sorted plain_sorted entry_sorted (args_sorted1 _) ?_;unfold L6.«sorted»;refine o0 (m:=checkCount "sorted" 1 1 _) (J3 ?_);have hz':vs.length<=J7:=by rw[af1];lia
 refine o0 (wpAny_collect_seq l hT hg hcl hd (λh1 kp0=>o0 (wpAny_newList ?_ hz')) (by simpa using hz'));have kp2:∀b o,h1.get? b=some o->(h1.push (an3 "list" vs.toArray 0)).get? b=some o:=λb o e=>by
  rw[N0.get?_push_ne _ _ _ (L7 (K7 e))];exact e
 have kp1:∀b o,s.heap.get? b=some o->(h1.push (an3 "list" vs.toArray 0)).get? b=some o:=λb o e=>kp2 b o (kp0 b o e);have new:(h1.push (an3 "list" vs.toArray 0)).get? h1.objs.size=some (an3 "list" vs.toArray 0):=K6 _ rfl;have old1:h1.get? h1.objs.size=none:=N0.get?_none_of_le (J6 _);have old:s.heap.get? h1.objs.size=none:=by
  cases e:s.heap.get? h1.objs.size with
  |none=>rfl
  |some u=>rw[kp0 _ _ e]at old1;cases old1
 show L3 _ _ _ _ _ { s with heap:=h1.push (an3 "list" vs.toArray 0) };have go:∀(t:J4),rW h1.objs.size { s with heap:=h1.push (an3 "list" vs.toArray 0) } t->∀b o,s.heap.get? b=some o->t.heap.get? b=some o:=λt ht b o e=>ht b o (λq=>by rw[q,old]at e;cases e) (kp1 b o e);have go1:∀(t:J4),rW h1.objs.size { s with heap:=h1.push (an3 "list" vs.toArray 0) } t->∀b o,h1.get? b=some o->t.heap.get? b=some o:=λt ht b o e=>ht b o (λq=>by rw[q,old1]at e;cases e) (kp2 b o e);refine o0 (U4 (X4 slot_list_sort ⟨_,new,rfl⟩ entry_list_sort ?_ (args_list_sort _)));refine CK (κ:=κ) (key:=key) new hz (λt Q' two ht q=>hk t Q' two (go t ht) q) (λi j t C hi hj ht q=>hc i j t C hi hj (go t ht) q) λp c h' hp hr hs hx=>?_;refine⟨_,rfl,J3 ⟨_,rfl,?_⟩⟩;exact k h1 p _ c h' kp0 hp hr (J6 _) (λb o e=>go1 { s with heap:=h' } hs b o e) hx
end
def GE:ac2 where
 α:=Int
 blt a b:=decide (a<b)
 irrefl a:=by simp
 trans a b c h1 h2:=by simp only[decide_eq_true_eq]at *;lia
 negTrans a b c h:=by simp only[decide_eq_true_eq]at *;lia
 total a b h1 h2:=by simp only[decide_eq_false_iff_not]at *;lia
def ff(ns:List Int):List Int:=ns.mergeSort λa b=>decide (a<=b)
theorem mI(ns:List Int):(ff ns).Perm ns:=List.mergeSort_perm _ _
theorem ri(ns:List Int):(ff ns).Pairwise λa b=>a<=b:=by
 have:=List.pairwise_mergeSort (le:=λa b:Int=>decide (a<=b)) (λa b c h1 h2=>by simp only[decide_eq_true_eq]at *;lia) (λa b=>by simp only[Bool.or_eq_true,decide_eq_true_eq];lia) ns;exact this.imp λh=>by simpa using h
theorem so{ns ms:List Int}(h:ms.Perm ns)(hs:ms.Pairwise λa b=>a<=b):ms=ff ns :=
 an2.eq_of_pairwise (le:=λa b:Int=>a<=b) (λa b _ _ h1 h2=>by lia) hs (ri ns) (h.trans (mI ns).symm)
section
variable{X:Cx}{af:List (K4×Obj)}{s:J4}{σ:St}{H:Hp}{M:DH}
theorem uG(ns:List Int):(O2 ns.length).map (λi=>ns.getD i 0)=ns:=by
 apply List.ext_getElem (by simp);intro i h1 h2;simp[J1 h2]
theorem DD{K:H0}{ns:List Int}{vs:List V}{us:List J0}(rl:aq K M H (ns.map D.int) vs)(rv:ay vs us){i:Nat}(hi:i<ns.length):∃t,us[i]?=some (.int ns[i] t):=by
 obtain⟨v,g,r⟩:=rl.get (i:=i) (d:=D.int ns[i]) (by simp[hi]);obtain⟨u',g',r'⟩:=rv.get g;simp only[Rep]at r;subst r;obtain⟨t,rfl⟩:=r';exact⟨t,g'⟩
theorem pf{K:H0}{ns:List Int}{vs:List V}(rl:aq K M H (ns.map D.int) vs):∀{l:List Nat},(∀i∈l,i<ns.length)->aq K M H ((l.map λi=>ns.getD i 0).map D.int) (l.map λi=>vs.getD i .non)
 |[],_=>rfl
 |i::l,h=>by
  have hi:=h i (.head _);obtain⟨v,g,r⟩:=rl.get (i:=i) (d:=D.int ns[i]) (by simp[hi]);simp only[K2,aq];refine⟨v,_,?_,?_,pf rl λj hj=>h j (.tail _ hj)⟩
  ·rw[N6,g];rfl
  ·rw[N6,J1 hi];exact r
theorem yG{us:List J0}:∀{ns:List Int},us.length=ns.length->(∀i (hi:i<ns.length),∃t,us[i]?=some (.int ns[i] t))->as2 us ns:=by
 induction us with
 |nil=>intro ns h _;cases ns with|nil=>exact .nil|cons n ns=>cases h
 |cons u us ih =>
  intro ns h hh;cases ns with
  |nil=>cases h
  |cons n ns =>
   obtain⟨t,e⟩:=hh 0 (by simp);have e':u=.int n t:=by simpa using e
   subst e';exact .cons _ _ (ih (by simpa using h) λi hi=>by
    obtain⟨t2,e2⟩:=hh (i+1) (by simpa using hi);exact⟨t2,by rw[S0]at e2;exact e2⟩)
theorem xN(I:Inv X af σ H s)(hr:HR X.K M H){ns:List Int}(h64:ns.length<64){l:K4}{T:String}{o:Obj}{n:Nat}{vs:List V}{its:List J0}(rl:aq X.K M H (ns.map D.int) vs)(rv:ay vs its)(hzv:vs.length<=J7)
  (hT:T="list"∨T="tuple") (hg:s.heap.get? l=some o) (hcl:o.cls=.type T) (hd:o.data=.seq its.toArray n) {Q:VK}
  (k:∀w H',Ext M H M H'->HR X.K M H'->Rep X.K M H' (.lst ((ff ns).map D.int)) w->Q w H'):L3 (N9 X.prog X.w) X.A (call (.builtin "sorted") [.ref l]) (EP X af σ Q) X.xe s:=by
 have hn:ns.length=its.length:=by rw[<-rv.length,<-rl.length,u8]
 have at_:=λi (hi:i<ns.length)=>DD rl rv hi;have key:∀i (hi:i<ns.length),ns.getD i 0=ns[i]:=λi hi=>by rw[N6,J1 hi];rfl
 refine pC (O:=GE) (key:=λi=>ns.getD i 0) (κ:=oneType') hT hg hcl hd (by lia) (λs1 Q' two kp q=>?_) (λi j s1 C hi hj kp q=>?_) λh1 p x c h' kp0 hp hs hx kp ho=>?_
 ·have ia:=yG hn.symm at_
  match its,two,ia with
  |v1::v2::r,_,ia=>rw[keyKind_ints ia];exact J3 q
 ·rw[<-hn]at hi hj;obtain⟨t,g⟩:=at_ i hi;obtain⟨u,g'⟩:=at_ j hj;show L3 _ _ (keyLt' _ _ _) _ _ _;rw[kf g,kf g'];refine kat_lt_int ?_;have q':C (decide (ns.getD i 0<ns.getD j 0)) s1:=q
  rwa [key i hi,key j hj]at q'
 ·have hlt:∀i∈p.toList,i<ns.length:=λi hi=>by rw[hn];exact P8.mp (hp.mem_iff.mp hi)
  have hlv:vs.length=its.length:=rv.length;have lo:(p.toList.map λi=>vs.getD i .non).length=its.length:=by rw[u8,L1];exact hp.size
  have I1:Inv X af σ H { s with heap:=h1,toks:=s.toks }:=I.kept kp0;have I2:=I1.laid (t':=s.toks) (o:=.lst (p.toList.map λi=>vs.getD i .non)) kp hx (show bV X.prog X.w _ h' x (.lst _)from⟨by rw[lo,<-hlv];exact hzv,i7 its p,c,lq rv (λi hi=>by rw[hlv,<-hn];exact hlt i hi),ho⟩);have es:(p.toList.map λi=>ns.getD i 0)=ff ns:=by
   have hp':p.toList.Perm (O2 ns.length):=by rw[hn];exact hp
   have hm:=hp'.map λi=>ns.getD i 0;rw[uG]at hm;refine so hm ?_;rw[ac6];intro i j hi hj hij;have sz:p.size=its.length:=hp.size;rw[u8,L1]at hi hj;have:=hs i j (am6 hij) (by lia);have e1:kp_ p i=p.toList[i]'(by simpa using hi):=by simp[kp_,aa3,hi]
   have e2:kp_ p j=p.toList[j]'(by simpa using hj):=by simp[kp_,aa3,hj]
   have g:ns.getD (kp_ p i) 0<=ns.getD (kp_ p j) 0:=by
    have z:decide (ns.getD (kp_ p j) 0<ns.getD (kp_ p i) 0)=false:=this;simp only[decide_eq_false_iff_not]at z
    lia
   rw[e1,e2]at g;simpa using g
  refine⟨.ref x,_,I2,rfl,ft hr (I1.hok.fresh hx) (pf rl hlt) λw H' a b c=>?_⟩;rw[es]at c;exact k w H' a b c
theorem wd(I:Inv X af σ H s)(hr:HR X.K M H){ps:List (Int×Int)}(h64:ps.length<64){l:K4}{T:String}{o:Obj}{n:Nat}{vs:List V}{its:List J0}(rl:aq X.K M H (ps.map pD) vs)(rv:ay vs its)(hzv:vs.length<=J7)
  (hT:T="list"∨T="tuple") (hg:s.heap.get? l=some o) (hcl:o.cls=.type T) (hd:o.data=.seq its.toArray n) {Q:VK}
  (k:∀w H',Ext M H M H'->HR X.K M H'->Rep X.K M H' (.lst ((dH ps).map pD)) w->Q w H'):L3 (N9 X.prog X.w) X.A (call (.builtin "sorted") [.ref l]) (EP X af σ Q) X.xe s:=by
 have hn:ps.length=its.length:=by rw[<-rv.length,<-rl.length,u8]
 have at_:=λi (hi:i<ps.length)=>Eb I rl rv hi;have key:∀i (hi:i<ps.length),ps.getD i (0,0)=ps[i]:=λi hi=>by rw[N6,J1 hi];rfl
 refine pC (O:=Gr) (key:=λi=>ps.getD i (0,0)) (κ:=tuples' true) hT hg hcl hd (by lia) (λs1 Q' two kp q=>?_) (λi j s1 C hi hj kp q=>?_) λh1 p x c h' kp0 hp hs hx kp ho=>?_
 ·obtain⟨fs,t1,t2,t3⟩:=vK (h:=s1.heap) hn.symm λi hi=>let⟨a,t,u,g,z⟩:=at_ i hi;⟨a,t,u,g,js z kp⟩
  exact kat_kind (T:=.type "int") t1 (by lia) (λf hf=>by obtain⟨i,t,rfl⟩:=t3 f hf;exact Looks.of_pure rfl) rfl q
 ·rw[<-hn]at hi hj;obtain⟨a,t,u,g,z⟩:=at_ i hi;obtain⟨b,t',u',g',z'⟩:=at_ j hj;show L3 _ _ (keyLt' _ _ _) _ _ _;rw[kf g,kf g'];refine yH (js z kp) (js z' kp) ?_;have q':C (ltP (ps.getD i (0,0)) (ps.getD j (0,0))) s1:=q
  rwa [key i hi,key j hj]at q'
 ·have hlt:∀i∈p.toList,i<ps.length:=λi hi=>by rw[hn];exact P8.mp (hp.mem_iff.mp hi)
  have hlv:vs.length=its.length:=rv.length;have lo:(p.toList.map λi=>vs.getD i .non).length=its.length:=by rw[u8,L1];exact hp.size
  have I1:Inv X af σ H { s with heap:=h1,toks:=s.toks }:=I.kept kp0;have I2:=I1.laid (t':=s.toks) (o:=.lst (p.toList.map λi=>vs.getD i .non)) kp hx (show bV X.prog X.w _ h' x (.lst _)from⟨by rw[lo,<-hlv];exact hzv,i7 its p,c,lq rv (λi hi=>by rw[hlv,<-hn];exact hlt i hi),ho⟩);have es:(p.toList.map λi=>ps.getD i (0,0))=dH ps:=by
   have hp':p.toList.Perm (O2 ps.length):=by rw[hn];exact hp
   have hm:=hp'.map λi=>ps.getD i (0,0);rw[wn]at hm;refine yL hm ?_;rw[ac6];intro i j hi hj hij;have sz:p.size=its.length:=hp.size;rw[u8,L1]at hi hj;have:=hs i j (am6 hij) (by lia);have e1:kp_ p i=p.toList[i]'(by simpa using hi):=by simp[kp_,aa3,hi]
   have e2:kp_ p j=p.toList[j]'(by simpa using hj):=by simp[kp_,aa3,hj]
   have g:leP (ps.getD (kp_ p i) (0,0)) (ps.getD (kp_ p j) (0,0))=true:=by
    have z:ltP (ps.getD (kp_ p j) (0,0)) (ps.getD (kp_ p i) (0,0))=false:=this;simp only[leP,z,aj8]
   rw[e1,e2]at g;simpa using g
  refine⟨.ref x,_,I2,rfl,ft hr (I1.hok.fresh hx) (px rl hlt) λw H' a b c=>?_⟩;rw[es]at c;exact k w H' a b c
def lH(ds:List D):Option D:=if ds.length<64 then(match gP ds with|some ps=>some (.lst ((dH ps).map pD))|none=>(ck ds).map λns=>.lst ((ff ns).map D.int))else none
def je:D->Option D
 |.lst ds=>lH ds
 |.tup ds=>lH ds
 |_=>none
theorem sH:∀{ds:List D}{ns:List Int},ck ds=some ns->ds=ns.map D.int:=by
 intro ds
 induction ds using ck.induct with
 |case1=>intro ns e;cases e;rfl
 |case2 i ds ih =>
  intro ns e;simp only[ck]at e;cases q:ck ds with
  |none=>rw[q]at e;cases e
  |some qs=>rw[q]at e;cases e;rw[ih q];rfl
 |case3 ds h1 h2=>intro ns e;rw[ck]at e<;>simp_all
theorem yx(I:Inv X af σ H s)(hr:HR X.K M H){ds:List D}{dz:D}(e:lH ds=some dz){l:K4}{T:String}{o:Obj}{n:Nat}{vs:List V}{its:List J0}(rl:aq X.K M H ds vs)(rv:ay vs its)(hzv:vs.length<=J7)
  (hT:T="list"∨T="tuple") (hg:s.heap.get? l=some o) (hcl:o.cls=.type T) (hd:o.data=.seq its.toArray n) {Q:VK}
  (k:∀w H',Ext M H M H'->HR X.K M H'->Rep X.K M H' dz w->Q w H'):L3 (N9 X.prog X.w) X.A (call (.builtin "sorted") [.ref l]) (EP X af σ Q) X.xe s:=by
 unfold lH at e
 split at e
 ·rename_i h64
  split at e
  ·rename_i ps q;cases e;have:=ug q;subst this;exact wd I hr (by simpa using h64) rl rv hzv hT hg hcl hd k
  ·cases q:ck ds with
   |none=>rw[q]at e;cases e
   |some ns =>
    rw[q]at e;cases e;have:=sH q;subst this;exact xN I hr (by simpa using h64) rl rv hzv hT hg hcl hd k
 ·cases e
theorem fV:bO X (.builtin "sorted") (ma je):=by
 intro af s σ H M xs us ds dz Q I hr rv rp e k;obtain⟨d,rfl,e0⟩:=cw e;clear e;obtain⟨v,rfl,r⟩:=kh rp;obtain⟨u,rfl,ru⟩:=ay.one rv;cases d with
 |lst ds =>
  obtain⟨l,vs,rfl,sq,rl⟩:=r;cases ru;obtain⟨its,rv,pl,hz⟩:=I.list (SqL.of sq);obtain⟨o,ho,hc,n,hd⟩:=pl.isList;exact yx I hr e0 rl rv hz (.inl rfl) ho hc hd λw H' a b c=>k w H' a b c
 |tup ds =>
  obtain⟨l,vs,rfl,sq,rl⟩:=r;cases ru;obtain⟨its,rv,tp,hz⟩:=I.tuple sq;obtain⟨o,ho,hc,n,hd⟩:=tp;exact yx I hr e0 rl rv hz (.inr rfl) ho hc hd λw H' a b c=>k w H' a b c
 |_=>cases e0
theorem Bc{ps:List (Int×Int)}(h:ps.length<64):je (.lst (ps.map pD))=some (.lst ((dH ps).map pD)):=by simp[je,lH,lr,h]
theorem vH{ps:List (Int×Int)}(h:ps.length<64):je (.tup (ps.map pD))=some (.lst ((dH ps).map pD)):=by simp[je,lH,lr,h]
theorem vC{ns:List Int}(h:ns.length<64):je (.lst (ns.map D.int))=some (.lst ((ff ns).map D.int)):=by
 cases ns with
 |nil=>simp[je,lH,gP,dH,ff]
 |cons n ns=>simp[je,lH,gP,jH,ck];simp at h;lia
end
end L2
namespace L2
open PySem PySem.Spec PyProof.Rows
def tLR(ta:TA):TE:=λσ H Q=>ta σ H λvs H1=>∃j:Int,vs=[.int j]/\0<=j/\j<=1000000/\∀l,H1 l=none->Q (.ref l) (upd H1 l (.lst ((O2 j.toNat).map λ(k:Nat)=>V.int (0+(k:Int)))))
theorem nO:∀{n m:Nat}{us:List J0},us.length=n->(∀(j:Nat) (v:J0),us[j]?=some v->∃t,v=.int (((m+j:Nat):Int)) t)->ay ((List.range' m n).map λ(k:Nat)=>V.int (0+(k:Int))) us
 |0,m,us,h,_=>by
  have:us=[]:=List.eq_nil_of_length_eq_zero h;subst this;exact .nil
 |n+1,m,[],h,_=>by cases h
 |n+1,m,u::us,h,hh=>by
  rw[List.range'_succ,K2];obtain⟨t,e⟩:=hh 0 u rfl;subst e;refine .cons ⟨t,by rw[Int.zero_add];rfl⟩ (nO (by simpa using h) λj v hv=>?_);obtain⟨t,e⟩:=hh (j+1) v (by simpa using hv);exact⟨t,by rw[e,show m+(j+1)=m+1+j by lia]⟩
section
variable{X:Cx}{a:N8}{ta:TA}{p p2 pos pos2:Pos}
theorem jQ(cQ:X.calm=true)(hg:Gl X "list")(hm:X.mg "list"=none)(hg2:Gl X "range")(hm2:X.mg "range"=none)(ha:PA X [a] ta)(hs:K8 [a] X.env=[(false,ad7 a X.env)]:=by rfl)
  (hs2:K8 [.Call (.Name "range" p2) [a] [] pos2] X.env=[(false,ad7 (.Call (.Name "range" p2) [a] [] pos2) X.env)]:=by rfl):PE X (.Call (.Name "list" p) [.Call (.Name "range" p2) [a] [] pos2] [] pos) (tLR ta):=by
 intro af s σ H Q I h;refine aa0 (fv I hg hm boot_list ?_);refine S6 ?_ hs2 rfl;rw[hs2];show L3 _ _ (spliced [(false,ad7 (.Call (.Name "range" p2) [a] [] pos2) X.env)]) _ _ s;refine ai7 (Call_ (fv I hg2 hm2 boot_range (S6 (thn (ha pos2 af s σ H _ I h) λus s1 hup=>hup.el λvs H1 I1 r1 q1=>?_) hs rfl)));obtain⟨j,e,q1,q2,q⟩:=q1;subst e;cases r1 with
 |cons r rr =>
  cases rr;obtain⟨t,rfl⟩:=r;refine call_range_1 (af9 ?_);refine call_list_range (I.ok.hd cQ) (IsRange.new ..) (small_one (by lia) (by lia) (by lia) (by lia)) (n:=j.toNat) (by rw[rangeSize_one];split<;>lia) (by lia) λh' tk acc' c' kp e items=>?_;have I2:Inv X af σ H1 { s1 with heap:=s1.heap.push { cls:=.type "range",data:=.fields #[.int 0 s1.toks,.int j t,.int 1 (s1.toks+1)] },toks:=s1.toks+1+1 }:=I1.kept λb o e=>I0 _ e;have hv:ay ((O2 j.toNat).map λ(k:Nat)=>V.int (0+(k:Int))) acc'.toList:=by
   rw[List.range_eq_range'];refine nO (by simpa using items.1) λi v hv=>?_;obtain⟨t,e⟩:=items.2 i v (by simpa using hv);exact⟨t,by rw[e];congr 1;lia⟩
  refine⟨.ref _,_,I2.laid (t':=tk) kp (J6 _) (show bV X.prog X.w _ h' _ (.lst _)from⟨?_,acc'.toList,c',hv,e⟩),rfl,q _ (I2.hok.fresh (J6 _))⟩;rw[u8,ag3,af1];lia
def dLR(ta:TAd):TEd:=λΔ M Q=>ta Δ M λds M1=>∃j:Int,ds=[.int j]/\0<=j/\j<=1000000/\Q (.lst (jX 0 j.toNat)) M1
theorem nU{K:H0}{M:DH}{H:Hp}:∀(l:List Nat),aq K M H (l.map λ(k:Nat)=>D.int (0+(k:Int))) (l.map λ(k:Nat)=>V.int (0+(k:Int)))
 |[]=>rfl
 |k::l=>by simp only[K2,aq];exact⟨_,_,rfl,by simp[Rep],nU l⟩
theorem lI{ta:TAd}(cQ:X.calm=true)(hg:Gl X "list")(hm:X.mg "list"=none)(hg2:Gl X "range")(hm2:X.mg "range"=none)(ha:QAd X [a] ta)(hs:K8 [a] X.env=[(false,ad7 a X.env)]:=by rfl)
  (hs2:K8 [.Call (.Name "range" p2) [a] [] pos2] X.env=[(false,ad7 (.Call (.Name "range" p2) [a] [] pos2) X.env)]:=by rfl):QEd X (.Call (.Name "list" p) [.Call (.Name "range" p2) [a] [] pos2] [] pos) (dLR ta):=by
 simp only[QEd.eq,QAd.eq]at *
 exact(jQ cQ hg hm hg2 hm2 ha hs hs2).conv λσ H Q hup=>hup.el λΔ M R sr hr q k=>⟨Δ,M,_,sr,hr,q,λds M1 vs H1 ⟨j,e,h0,h1,q2⟩ e1 hr1 rp=>by
   subst e;obtain⟨v,ev,rv1⟩:=rp.one;have ev1:v=.int j:=by simpa only[Rep]using rv1
   subst ev1;subst ev;exact⟨j,rfl,h0,h1,λl hl=>ft hr1 hl (nU _) λw H' a b c=>k _ M1 w H' q2 (e1.trans a) b c⟩⟩
end
section
variable{X:Cx}{a b c e:N8}{pos:Pos}
def AA(r r' r'':R2)(ta tb tc te:TE):TE:=λσ H Q=>ta σ H λx H1=>tb σ H1 λy H2=>r x y H2 λz H3=>∃k,z=.bl k /\
 (if k=true then tc σ H3 λw' H4=>r' y w' H4 λz' H5=>∃k',z'=.bl k'/\(if k'=true then te σ H5 λu' H6=>r'' w' u' H6 Q else Q (.bl false) H5)else Q (.bl false) H3)
theorem wI{ta tb tc te:TE}{op op' op'':ao3}{r r' r'':R2}(ho:OpR X (Q0 op) r)(ho':OpR X (Q0 op') r')(ho'':OpR X (Q0 op'') r'')(ha:PE X a ta)(hb:PE X b tb)(hc:PE X c tc)(he:PE X e te)
  (hm:ar8 [op,op',op''] [b,c,e]=false:=by with_unfolding_all rfl):PE X (.Compare a [op,op',op''] [b,c,e] pos) (AA r r' r'' ta tb tc te):=by
 intro af s σ H Q I h;refine Compare_chain (thn (ha af s σ H _ I h) λv s1 hup=>hup.el λx H1 I1 r1 q1=>chain_link (thn (hb af s1 σ H1 _ I1 q1) λu s2 hup=>hup.el λy H2 I2 r2 q2 =>
  thn (ho af s2 σ H2 x y v u _ I2 r1 r2 q2) λd s3 ⟨z,H3,I3,r3,k,e,q3⟩=>?_)) hm
 subst e;cases r3;refine V5 ?_;cases k with
 |false=>exact ite_ff ⟨.bl false,H3,I3,rfl,q3⟩
 |true =>
  refine ite_tt (chain_link (thn (hc af s3 σ H3 _ I3 q3) λw' s4 ⟨z',H4,I4,r4,q4⟩=>thn (ho' af s4 σ H4 y z' u w' _ I4 r2 r4 q4) λd' s5 ⟨z5,H5,I5,r5,k5,e5,q5⟩=>?_));subst e5;cases r5;refine V5 ?_;cases k5 with
  |false=>exact ite_ff ⟨.bl false,H5,I5,rfl,q5⟩
  |true=>exact ite_tt (chain_last (thn (he af s5 σ H5 _ I5 q5) λw6 s6 hup=>hup.el λz6 H6 I6 r6 q6=>ho'' af s6 σ H6 z' z6 w' w6 Q I6 r4 r6 q6))
def vY(r r' r'':D->D->Option D)(ta tb tc te:TEd):TEd:=λΔ M Q=>ta Δ M λx M1=>tb Δ M1 λy M2=>∃k,r (rdM M2 x) (rdM M2 y)=some (.bl k)/\if k=true then tc Δ M2 λz M3=>∃k',r' (rdM M3 y) (rdM M3 z)=some (.bl k')/\(if k'=true then te Δ M3 λu M4=>∃w,r'' (rdM M4 z) (rdM M4 u)=some w/\Q w M4 else Q (.bl false) M3)else Q (.bl false) M2
theorem m8{ta tb tc te:TEd}{op op' op'':ao3}{r r' r'':D->D->Option D}(ho:bY X (Q0 op) r)(ho':bY X (Q0 op') r')(ho'':bY X (Q0 op'') r'')(ha:QEd X a ta)(hb:QEd X b tb)(hc:QEd X c tc)(he:QEd X e te)
  (hm:ar8 [op,op',op''] [b,c,e]=false:=by with_unfolding_all rfl):QEd X (.Compare a [op,op',op''] [b,c,e] pos) (vY r r' r'' ta tb tc te):=by
 simp only[QEd.eq]at *
 refine(wI ho.v ho'.v ho''.v ha hb hc he hm).conv λσ H Q h=>?_;obtain⟨Δ,M,R,sr,hr,q,k⟩:=h;refine⟨Δ,M,_,sr,hr,q,λx M1 v H1 q1 e1 hr1 rv=>⟨Δ,M1,_,sr.ext e1,hr1,q1,λy M2 u H2 ⟨b,eb,q2⟩ e2 hr2 ru=>⟨_,_,.bl b,M2,hr2,(rv.ext e2).rd hr2,ru.rd hr2,eb,λw H3 e3 hr3 rw_ =>
  ⟨b,by simpa only[Rep]using rw_,?_⟩⟩⟩⟩
 cases b with
 |true =>
  simp only[if_true]at q2 ⊢;refine⟨Δ,M2,_,(sr.ext (e1.trans e2)).ext e3,hr3,q2,λz M4 w4 H4 ⟨b4,ed,q4⟩ e4 hr4 r4=>⟨_,_,.bl b4,M4,hr4,((ru.ext e3).ext e4).rd hr4,r4.rd hr4,ed,λw5 H5 e5 hr5 r5=>⟨b4,by simpa only[Rep]using r5,?_⟩⟩⟩;cases b4 with
  |true =>
   simp only[if_true]at q4 ⊢;exact⟨Δ,M4,_,(((sr.ext (e1.trans e2)).ext e3).ext e4).ext e5,hr5,q4,λz6 M6 w6 H6 ⟨d6,ed6,q6⟩ e6 hr6 r6=>⟨_,_,d6,M6,hr6,((r4.ext e5).ext e6).rd hr6,r6.rd hr6,ed6,λw7 H7 e7 hr7 r7=>k d6 M6 w7 H7 q6 ((((((e1.trans e2).trans e3).trans e4).trans e5).trans e6).trans e7) hr7 r7⟩⟩
  |false =>
   simp only[J5,if_false]at q4 ⊢;exact k _ M4 _ H5 q4 ((((e1.trans e2).trans e3).trans e4).trans e5) hr5 (by simp[Rep])
 |false =>
  simp only[J5,if_false]at q2 ⊢;exact k _ M2 _ H3 q2 ((e1.trans e2).trans e3) hr3 (by simp[Rep])
end
section
variable{X:Cx}{scope:af8}{cl:List (Str×K4)}{ms:List Bool}{ar:List Str}{elt t0 i0 t1 i1:N8}{f0 f1:List N8}{pos:Pos}
theorem yC{i:Nat}{x:Str}{spos pos':Pos}{w0 wi:TId}{g0 g:GD}{tc0 tc:TTd}{te:TEd}(hN:X.N.Nodup)(hix:X.N[i]?=some x)(hx:X.env.scope.names.lookup x=some .local)
  (hsw:ak2 (.ListComp elt [⟨t0,i0,f0,0⟩,⟨t1,i1,f1,0⟩] scope pos) (some (.Name x pos')) spos.line X.env=ag9 true) (S:fk X scope cl ms ar) (cQ:X.calm=true) (hi:QId X t0 i0 w0) (hg0:PGa X scope cl ar t0 g0)
  (hif0:∀C s H ex,QIf (aN X scope cl (X.N++ar) C s H ex) f0 tc0) (hi1:∀C s H ex,QId (aN X scope cl (X.N++ar) C s H ex) t1 i1 wi) (hg:PGa X scope cl ar t1 g) (hif:∀C s H ex,QIf (aN X scope cl (X.N++ar) C s H ex) f1 tc) (he:∀C s H ex,QEd (aN X scope cl (X.N++ar) C s H ex) elt te)
  (hs:∀x,R3 i0 X.env x=ag9 x:=by intro _;rfl) (hs1:∀C x,R3 i1 (ar2 scope cl C X.env) x=ag9 x:=by intro _ _;rfl):QSd X (.Assign [.Name x pos'] (.ListComp elt [⟨t0,i0,f0,0⟩,⟨t1,i1,f1,0⟩] scope pos) spos) (yw i (Bq ms ar.length w0 g0 tc0 wi g tc te)):=by
 simp only[QEd.eq,QSd.eq,QId.eq,QIf.eq]at *
 obtain⟨gv0,pg0,kg0⟩:=hg0;obtain⟨gv,pg,kg⟩:=hg;refine(pj (tc:=upT X.K tc0) hN hix hx hsw S cQ hi pg0 hif0 (yF (w1:=upI X.K wi) (tc1:=upT X.K tc) (te:=up X.K te) hi1 pg hif he hs1) hs).conv λD σ H hh=>?_;obtain⟨Δ,M,E,sr,hr,q,k⟩:=hh;unfold yw Bq at q;exact sZ kg0 (λh=>vV kg uY h) σ H _ ⟨Δ,M,_,sr,hr,q,λd M1 v H1 q1 e1 hr1 rv=>k.nx _ M1 _ H1 q1 e1 hr1 ((sr.ext e1).set i rv)⟩
end
section
variable{X:Cx}
end
section
variable{X:Cx}
def inF(x y:D):Option D:=match y with
 |.lst ds=>if dLe x 59=true/\cm ds 59=true then some (.bl (ds.any λd=>eqD d x))else none
 |_=>none
theorem EA{x:D}{ds:List D}:inF x (.lst ds)=if dLe x 59=true/\cm ds 59=true then some (.bl (ds.any λd=>eqD d x))else none:=rfl
end
section
variable{X:Cx}{a b e:N8}{ta tb te:TEd}{pos:Pos}
def uW(ds:List D)(x:D):Option Nat:=if dLe x 59=true/\cm ds 59=true/\ds.length<2 ^ 62 then ds.findIdx? (λd=>eqD d x)else none
theorem yR{ds:List D}{x:D}{j:Nat}(h:uW ds x=some j):dLe x 59=true/\cm ds 59=true/\ds.length<2 ^ 62/\∃hj:j<ds.length,eqD ds[j] x=true/\∀m (hm:m<ds.length),m<j->eqD ds[m] x=false:=by
 unfold uW at h
 by_cases hc:dLe x 59=true/\cm ds 59=true/\ds.length<2 ^ 62
 ·rw[if_pos hc]at h;obtain⟨hj,h1,h2⟩:=List.findIdx?_eq_some_iff_getElem.mp h;exact⟨hc.1,hc.2.1,hc.2.2,hj,h1,λm hm hl=>by have:=h2 m hl;simpa using this⟩
 ·rw[if_neg hc]at h;cases h
section
open PySem.SeqAt PySem.MeetsSeq AutoSeq1
theorem rV(l:K4)(xs:Array J0)(n:Nat)(od:Option K4)(os:Array (Option J0))(y:J0)(hit:Nat->Bool)(top:Int)(j:Nat)(lj:j<xs.size)(ltop:(j:Int)<top)(yes:hit j=true):
  ∀(k i:Nat),j-i=k->i<=j->(∀m,i<=m->m<j->hit m=false)->Meets (L6.«list.index.loop» ⟨[.ref l,y,ar7 i,ar7 top],[]⟩)
   (λB R t=>t.heap.get? l=some { cls:=.type "list",dict:=od,data:=.seq xs n,slots:=os }/\(∀m (h:m<xs.size),EqAt B.in1 t xs[m] y (hit m))/\R (.ok (.ret (.int j t.toks))) { t with toks:=t.toks+1 })
 |0,i,ek,hi,no,prog,w,B,R,t,q=>by
  obtain⟨th,tg,td,tt,to⟩:=t;obtain⟨ql,qe,qr⟩:=q;obtain rfl:i=j:=by lia
  wp_walk using af3 ql
  rw[show(if(i:Int)<top then xs[((i:Nat):Int).toNat]? else none)=some xs[i]by simp[ltop,lj]];refine o0 (qe i lj prog w _ _ ?_);rw[yes]
  wp_walk
  exact qr
 |k+1,i,ek,hi,no,prog,w,B,R,t,q=>by
  obtain⟨th,tg,td,tt,to⟩:=t;obtain⟨ql,qe,qr⟩:=q;have li:i<xs.size:=by lia
  have lt:(i:Int)<top:=by lia
  wp_walk using af3 ql
  rw[show(if(i:Int)<top then xs[((i:Nat):Int).toNat]? else none)=some xs[i]by simp[lt,li]];refine o0 (qe i li prog w _ _ ?_);rw[no i (J6 _) (by lia)]
  wp_walk
  rw[show((i:Int)+1)=((i+1:Nat):Int)by lia];refine⟨ag4 plain_index_loop _,W3 entry_index_loop ?_⟩;rw[U2 plain_index_loop _];exact rV l xs n od os y hit top j lj ltop yes k (i+1) (by lia) (by lia) (λm a b=>no m (by lia) b) prog w B R _ ⟨ql,qe,qr⟩
theorem xW(l:K4)(xs:Array J0)(n:Nat)(od:Option K4)(os:Array (Option J0))(y:J0)(hit:Nat->Bool)(j:Nat)(lj:j<xs.size)(ls:(j:Int)<2 ^ 63-1)(yes:hit j=true)(no:∀m,m<j->hit m=false):
  Meets (L6.«list.index» ⟨[.ref l,y],[]⟩)
   (λB R t=>t.heap.get? l=some { cls:=.type "list",dict:=od,data:=.seq xs n,slots:=os }/\(∀m (h:m<xs.size),EqAt B.in1 t xs[m] y (hit m))/\R (.ok (.ret (.int j t.toks))) { t with toks:=t.toks+1 }):=by
 intro prog w B R t q;obtain⟨th,tg,td,tt,to⟩:=t;obtain⟨ql,qe,qr⟩:=q
 wp_walk using af3 ql
 rw[show((λi:Int=>if i<0 then max 0 (i+(xs.size:Int))else i) ((none:Option Int).getD 0))=((0:Nat):Int)by simp,show((λi:Int=>if i<0 then max 0 (i+(xs.size:Int))else i) ((none:Option Int).getD (2 ^ 63-1)))=2 ^ 63-1 by simp];refine⟨ag4 plain_index_loop _,W3 entry_index_loop ?_⟩;rw[U2 plain_index_loop _];exact rV l xs n od os y hit (2 ^ 63-1) j lj ls yes _ 0 rfl (Q5 _) (λm _ b=>no m b) prog w B R _ ⟨ql,qe,qr⟩
end
end
section
variable{X:Cx}{o e:N8}{to te:TEd}{eU bT:Pos}
def su(ds:List D)(d:D)(m:Nat):Bool:=match ds[m]? with|some x=>eqD x d|none=>false
theorem Ad{af:List (K4×Obj)}{σ:St}{H:Hp}{s:J4}{M:DH}{ds:List D}{d:D}{vs:List V}{its:List J0}{y:V}{u:J0}(I:Inv X af σ H s)(hu:X.A.units+64<ac8)(rl:aq X.K M H ds vs)(r:ay vs its)(r1:aX X.K M H d y)(ry:aL y u)(h1:dLe d 59=true)(h2:cm ds 59=true):
  ∀m (h:m<its.toArray.size),PySem.SeqAt.EqAt X.A.in1 s its.toArray[m] u (su ds d m):=λm h=>by
 have hl:ds.length=its.length:=rl.length.trans r.length;have h':m<its.length:=by simpa using h
 have h3:m<ds.length:=by lia
 obtain⟨v1,g1,p1⟩:=rl.get (i:=m) (d:=ds[m]) (by simp[h3]);obtain⟨u1,k1,m1⟩:=r.get g1;have e1:its.toArray[m]=u1:=by simpa[J1 h']using k1
 rw[e1,show su ds d m=eqD ds[m] d by simp[su,h3]];exact(mK I 59 (by show X.A.units+1+59<ac8;lia) (fM h2 (i:=m) (by simp[h3])) h1 p1.r r1 m1 ry).1
theorem zK{ds:List D}{x:D}{j:Nat}(h:uW ds x=some j):dLe x 59=true/\cm ds 59=true/\(j:Int)<2 ^ 63-1/\j<ds.length/\su ds x j=true/\∀m,m<j->su ds x m=false:=by
 obtain⟨h1,h2,h3,lj,yes,no⟩:=yR h;refine⟨h1,h2,by lia,lj,by simp[su,lj,yes],λm hm=>?_⟩;have hm':m<ds.length:=by lia
 simp[su,hm',no m hm' hm]
theorem Aj(hu:X.A.units+64<ac8):MtR X "list.index" (λx xs H Q=>∃M ds d y j,xs=[y]/\aX X.K M H (.lst ds) x/\aX X.K M H d y/\uW ds d=some j/\Q (.int j) H):=by
 intro af s σ H x xs v us Q I rx rv h;obtain⟨M,ds,d,y,j,rfl,r2,r1,hj,q⟩:=h;obtain⟨u,rfl,ry⟩:=ay.one rv;obtain⟨l,vs,rfl,sq,rl⟩:=r2;cases rx;obtain⟨its,r,pl,hz⟩:=I.list (SqL.of sq);obtain⟨h1,h2,h3,lj,yes,no⟩:=zK hj;have hl:ds.length=its.length:=rl.length.trans r.length;obtain⟨⟨c,dd,dt,sl⟩,n,ho,hc,hdd,hdt⟩:=pl;obtain rfl:c=.type "list":=hc;obtain rfl:dt=.seq its.toArray n:=hdt;exact ai2 F.slot_list_index ⟨_,ho,rfl⟩ F.entry_list_index (F.args_list_index_2 _ _) (xW l its.toArray n dd sl u (su ds d) j (by simp;lia) h3 yes no) ⟨ho,Ad I hu rl r r1 ry h1 h2,⟨.int _,H,I.tok _,⟨_,rfl⟩,q⟩⟩
def Cv(to te:TEd):TEd:=λΔ M Q=>to Δ M λo M1=>(∃ds,rdM M1 o=.lst ds)/\te Δ M1 λx M2=>∃ds j,rdM M2 o=.lst ds/\uW ds (rdM M2 x)=some j/\Q (.int j) M2
theorem DN(hu:X.A.units+64<ac8)(ho:QEd X o to)(he:QEd X e te)(ij:ae3 o "index" X.env (ad7 o X.env)=ad7 o X.env:=by rfl)
  (hse:K8 [e] X.env=(false,ad7 e X.env)::K8 [] X.env:=by rfl)
  (tZ:((ab1 bT (K8 [e] X.env)).all (λx => !x.1) && (aq3 bT (al5 [] X.env)).all (λx => x.1.isSome)
  &&decide ([e].length+([]:List al6).length+(if([]:List al6).isEmpty then 0 else 1)<30))=true:=by rfl)
  (g9:(eU.endLine==bT.line)=true:=by rfl) (jJ:(ab1 bT (K8 [] X.env)).any (·.1)=false:=by rfl):QEd X (.Call (.Attribute o "index" eU) [e] [] bT) (Cv to te):=by
 rw[QEd.eq]at *
 refine(za ae6 PySem.F.slot_list_index PySem.F.type_list_index (Aj hu) ho (iM he m6 hse) ij tZ g9 hse jJ).conv λσ H Q hh=>?_;obtain⟨Δ,M,R,sr,hr,q,k⟩:=hh;refine⟨Δ,M,_,sr,hr,q,λo M1 ov H1 ⟨⟨ds0,e0⟩,q1⟩ e1 hr1 ro=>?_⟩;have r0:=ro.rd hr1;rw[e0]at r0;obtain⟨l0,vs0,rfl,hl0,_⟩:=r0;refine⟨.inl ⟨rfl,vs0,SqL.of hl0⟩,Δ,M1,_,sr.ext e1,hr1,q1,λd M2 v H2 ⟨ds,j,ed,hj,q2⟩ e2 hr2 rv=>?_⟩;have r2:=(ro.ext e2).rd hr2;rw[ed]at r2;exact⟨M2,ds,_,v,j,rfl,r2,rv.rd hr2,hj,k _ M2 _ H2 q2 (e1.trans e2) hr2 (by simp[Rep])⟩
end
noncomputable def itN:Bool->String
 |true=>"tuple_iterator"
 |false=>"list_iterator"
def sqN:Bool->String
 |true=>"tuple"
 |false=>"list"
def dW(b:Bool)(h:N0)(i l:K4)(k:Nat):Prop:=∃o,h.get? i=some o/\o.cls=.type (itN b)/\o.data=.fields #[.ref l,.int k 0]
def eV(b:Bool)(h:N0)(l:K4)(xs:Array J0):Prop:=∃o,h.get? l=some o/\o.cls=.type (sqN b)/\∃n,o.data=.seq xs n
section
variable{prog:N4}{w:S2}{A:P5}{E:J0->J4->Prop}{s:J4}{b c:Bool}
theorem dW.go{h h':N0}{i l:K4}{k:Nat}(x:dW b h i l k)(f:∀o,h.get? i=some o->h'.get? i=some o):dW b h' i l k:=let⟨o,e,r⟩:=x;⟨o,f o e,r⟩
theorem eV.go{h h':N0}{l:K4}{xs:Array J0}(x:eV b h l xs)(f:∀o,h.get? l=some o->h'.get? l=some o):eV b h' l xs:=let⟨o,e,r⟩:=x;⟨o,f o e,r⟩
theorem jF{it l:K4}{i:Nat}{xs:Array J0}{x:J0}{Q:J0->J4->Prop}(p:dW b s.heap it l i)(q:eV b s.heap l xs)(hx:xs[i]?=some x)
  (k:∀h',dW b h' it l (i+1)->Q9 it s.heap h'->Q x { s with heap:=h' }):L3 (N9 prog w) A (Q6 (.ref it)) Q E s:=by
 cases b with
 |true=>exact lY (show s.heap.IsTupleIter it l i from p) (show s.heap.IsTuple l xs from q) hx k
 |false=>exact wpAny_nextOf_list_item (show s.heap.IsListIter it l i from p) (show s.heap.IsList l xs from q) hx k
theorem oX{it l:K4}{i:Nat}{xs:Array J0}{Q:J0->J4->Prop}(hh:A.handled=none)(p:dW b s.heap it l i)(q:eV b s.heap l xs)(hx:xs[i]?=none)
  (k:∀h' e,N0.ExtBut it s.heap h'->(∃o,h'.get? e=some o/\o.cls=.type "StopIteration")->E (.ref e) { s with heap:=h' }):L3 (N9 prog w) A (Q6 (.ref it)) Q E s:=by
 cases b with
 |true=>exact nE hh (show s.heap.IsTupleIter it l i from p) (show s.heap.IsTuple l xs from q) hx k
 |false=>exact wpAny_nextOf_list_end hh (show s.heap.IsListIter it l i from p) (show s.heap.IsList l xs from q) hx k
theorem xb{z T U i j l m:K4}{k:Nat}{xs ys:Array J0}{x y u v:J0}{Q:J0->J4->Prop}(D:aq4 z T U i j l m)
  (hz:ap9 s.heap z T U .none) (hT:ah2 s.heap T (.ref i) (.ref j)) (hU:ah2 s.heap U u v) (hi:dW b s.heap i l k) (hj:dW c s.heap j m k) (hl:eV b s.heap l xs) (hm:eV c s.heap m ys) (hx:xs[k]?=some x) (hy:ys[k]?=some y)
  (q:∀ h',ap9 h' z T U (ar7 s.heap.objs.size) → ah2 h' U x y → dW b h' i l (k + 1) → dW c h' j m (k + 1) → ah2 h' s.heap.objs.size x y → h'.objs.size = s.heap.objs.size + 1 →
   (∀d o,d≠z->d≠U->d≠i->d≠j->s.heap.get? d=some o->h'.get? d=some o)->Q (.ref s.heap.objs.size) { s with heap:=h' }) :
  L3 (N9 prog w) A (L6.«zip.__next__» ⟨[.ref z],[]⟩) (λfin s'=>∃v,fin=.done (.ret v)/\Q v s') E s:=by
 show L3 _ _ (field (.ref z) 2 >>= _) _ _ _;refine o0 (U8 hz rfl (x:=.bool false) rfl ?_);show L3 _ _ (field (.ref z) 3 >>= _) _ _ _;refine o0 (U8 hz rfl (x:=.ref T) rfl (o0 (aa7 hT rfl ?_)));show L3 _ _ (W6 (.ref z) >>= _) _ _ _;refine o0 ?_;unfold W6;refine o0 (U8 hz rfl (x:=.none) rfl (J3 ?_));simp only[if_true];refine o0 (ae9 (o0 (U8 hz rfl (x:=.ref U) rfl ?_)));refine o0 (ac3 hz (by simp) λg1 z1 s1=>?_);replace z1:ap9 g1 z T U .ellipsis:=z1;refine o0 ?_;simp only[List.zipIdx_cons,List.zipIdx_nil,List.forIn_cons,List.forIn_nil];refine o0 (o0 (ak9 ?_));show L3 _ _ (Q6 (.ref i) >>= _) _ _ _;refine o0 (jF (hi.go λo e=>s1.extBut _ _ D.i1z e) (hl.go λo e=>s1.extBut _ _ D.l1z e) hx λg2 i2 s2=>J3 ?_);have u2:ah2 g2 U u v:=s2.extBut _ _ D.TOi1 (s1.extBut _ _ D.TOz hU);refine o0 (aa7 u2 rfl (o0 (wpAny_updateSeq_pair u2 λg3 u3 s3=>?_)));replace u3:ah2 g3 U x v:=u3;refine o0 (wpAny_letGo (J3 (o0 (o0 (ak9 ?_)))));show L3 _ _ (Q6 (.ref j) >>= _) _ _ _;refine o0 (jF (hj.go λo e=>s3.extBut _ _ D.TOi2.symm (s2.extBut _ _ D.i12.symm (s1.extBut _ _ D.i2z e))) (hm.go λo e=>s3.extBut _ _ D.l2TO (s2.extBut _ _ D.l2i1 (s1.extBut _ _ D.l2z e))) hy λg4 j4 s4=>J3 ?_);have u4:ah2 g4 U x v:=s4.extBut _ _ D.TOi2 u3;refine o0 (aa7 u4 rfl (o0 (wpAny_updateSeq_pair u4 λg5 u5 s5=>?_)));replace u5:ah2 g5 U x y:=u5;refine o0 (wpAny_letGo (J3 (J3 (o0 (aa7 u5 rfl (o0 (wpAny_newTuple ?_)))))));have sz:g5.objs.size=s.heap.objs.size:=by rw[s5.1,s4.1,s3.1,s2.1,s1.1]
 have z5:ap9 g5 z T U .ellipsis:=s5.extBut _ _ D.TOz.symm (s4.extBut _ _ D.i2z.symm (s3.extBut _ _ D.TOz.symm (s2.extBut _ _ D.i1z.symm z1)));have kp:∀d o,d≠z->d≠U->d≠i->d≠j->s.heap.get? d=some o->g5.get? d=some o:=λd o a1 a2 a3 a4 e =>
  s5.extBut _ _ a2 (s4.extBut _ _ a4 (s3.extBut _ _ a2 (s2.extBut _ _ a3 (s1.extBut _ _ a1 e))))
 have i5:dW b g5 i l (k+1):=i2.go λo e=>s5.extBut _ _ D.TOi1.symm (s4.extBut _ _ D.i12 (s3.extBut _ _ D.TOi1.symm e));have j5:dW c g5 j m (k+1):=j4.go λo e=>s5.extBut _ _ D.TOi2.symm e;have lz:z<g5.objs.size:=K7 z5;show L3 _ _ (L6.SmallTypes.ownedTupleHandOut (.ref z) (.ref g5.objs.size) >>= _) _ _ _;refine o0 ?_;unfold L6.SmallTypes.ownedTupleHandOut;have z6:ap9 (g5.push { cls:=.type "tuple",data:=.seq #[x,y] }) z T U .ellipsis:=I0 _ z5;refine o0 (ac3 z6 (by simp) λg7 z7 s7=>?_);replace z7:ap9 g7 z T U (ar7 g5.objs.size):=z7;refine ac3 z7 (by simp) λg8 z8 s8=>?_;replace z8:ap9 g8 z T U (ar7 g5.objs.size):=z8;have up:∀d o,d≠z->g5.get? d=some o->g8.get? d=some o:=λd o a1 e=>s8.extBut _ _ a1 (s7.extBut _ _ a1 (I0 _ e));have t8:ah2 g8 g5.objs.size x y:=s8.extBut _ _ (ab9 lz) (s7.extBut _ _ (ab9 lz) (K6 _ rfl));have n8:g8.objs.size=g5.objs.size+1:=by rw[s8.1,s7.1,V1]
 rw[sz]at z8 t8 n8;refine J3 ⟨_,rfl,?_⟩;show Q (.ref g5.objs.size) _;rw[sz];exact q g8 z8 (up _ _ D.TOz u5) (i5.go λo e=>up _ o D.i1z e) (j5.go λo e=>up _ o D.i2z e) t8 n8 λd o a1 a2 a3 a4 e=>up d o a1 (kp d o a1 a2 a3 a4 e)
theorem yS{z T U i j l m:K4}{k:Nat}{xs ys:Array J0}{u v:J0}{Q:PySem.Fin->J4->Prop}(hh:A.handled=none)(D:aq4 z T U i j l m)
  (hz:ap9 s.heap z T U .none) (hT:ah2 s.heap T (.ref i) (.ref j)) (hU:ah2 s.heap U u v) (hi:dW b s.heap i l k) (hj:dW c s.heap j m k) (hl:eV b s.heap l xs) (hm:eV c s.heap m ys) (no:xs[k]?=none∨ys[k]?=none)
  (q:∀h' e,(∀d o,d≠z->d≠U->d≠i->d≠j->s.heap.get? d=some o->h'.get? d=some o)->(∃o,h'.get? e=some o/\o.cls=.type "StopIteration")->E (.ref e) { s with heap:=h' }) :
  L3 (N9 prog w) A (L6.«zip.__next__» ⟨[.ref z],[]⟩) Q E s:=by
 show L3 _ _ (field (.ref z) 2 >>= _) _ _ _;refine o0 (U8 hz rfl (x:=.bool false) rfl ?_);show L3 _ _ (field (.ref z) 3 >>= _) _ _ _;refine o0 (U8 hz rfl (x:=.ref T) rfl (o0 (aa7 hT rfl ?_)));show L3 _ _ (W6 (.ref z) >>= _) _ _ _;refine o0 ?_;unfold W6;refine o0 (U8 hz rfl (x:=.none) rfl (J3 ?_));simp only[if_true];refine o0 (ae9 (o0 (U8 hz rfl (x:=.ref U) rfl ?_)));refine o0 (ac3 hz (by simp) λg1 z1 s1=>?_);replace z1:ap9 g1 z T U .ellipsis:=z1;refine o0 ?_;simp only[List.zipIdx_cons,List.zipIdx_nil,List.forIn_cons,List.forIn_nil];refine o0 (o0 (ak9 ?_));show L3 _ _ (Q6 (.ref i) >>= _) _ _ _;cases hx:xs[k]? with
 |none =>
  refine o0 (oX hh (hi.go λo e=>s1.extBut _ _ D.i1z e) (hl.go λo e=>s1.extBut _ _ D.l1z e) hx λg2 e s2 he=>?_);obtain⟨oe,e1,e2⟩:=he;have z2:ap9 g2 z T U .ellipsis:=s2 _ _ D.i1z.symm z1;have ne:e≠z:=λp=>by subst p;rw[z2]at e1;cases e1;simp at e2
  exact ac3 z2 (by simp) λg3 _ s3=>q g3 e (λd o a1 _ a3 _ p=>s3.extBut _ _ a1 (s2 _ _ a3 (s1.extBut _ _ a1 p))) ⟨oe,s3.extBut _ _ ne e1,e2⟩
 |some x =>
  have hy:ys[k]?=none:=no.resolve_left (by rw[hx];exact nofun);refine o0 (jF (hi.go λo e=>s1.extBut _ _ D.i1z e) (hl.go λo e=>s1.extBut _ _ D.l1z e) hx λg2 i2 s2=>J3 ?_);have u2:ah2 g2 U u v:=s2.extBut _ _ D.TOi1 (s1.extBut _ _ D.TOz hU);refine o0 (aa7 u2 rfl (o0 (wpAny_updateSeq_pair u2 λg3 u3 s3=>?_)));refine o0 (wpAny_letGo (J3 (o0 (o0 (ak9 ?_)))));show L3 _ _ (Q6 (.ref j) >>= _) _ _ _;refine o0 (oX hh (hj.go λo e=>s3.extBut _ _ D.TOi2.symm (s2.extBut _ _ D.i12.symm (s1.extBut _ _ D.i2z e))) (hm.go λo e=>s3.extBut _ _ D.l2TO (s2.extBut _ _ D.l2i1 (s1.extBut _ _ D.l2z e))) hy λg4 e s4 he=>?_);obtain⟨oe,e1,e2⟩:=he;have z4:ap9 g4 z T U .ellipsis:=s4 _ _ D.i2z.symm (s3.extBut _ _ D.TOz.symm (s2.extBut _ _ D.i1z.symm z1));have ne:e≠z:=λp=>by subst p;rw[z4]at e1;cases e1;simp at e2
  exact ac3 z4 (by simp) λg5 _ s5=>q g5 e (λd o a1 a2 a3 a4 p=>s5.extBut _ _ a1 (s4 _ _ a4 (s3.extBut _ _ a2 (s2.extBut _ _ a3 (s1.extBut _ _ a1 p))))) ⟨oe,s5.extBut _ _ ne e1,e2⟩
theorem qT{z T U i j l m:K4}{k:Nat}{xs ys:Array J0}{x y u v:J0}{Q:Option J0->J4->Prop}(D:aq4 z T U i j l m)
  (hz:ap9 s.heap z T U .none) (hT:ah2 s.heap T (.ref i) (.ref j)) (hU:ah2 s.heap U u v) (hi:dW b s.heap i l k) (hj:dW c s.heap j m k) (hl:eV b s.heap l xs) (hm:eV c s.heap m ys) (hx:xs[k]?=some x) (hy:ys[k]?=some y)
  (q:∀ h',ap9 h' z T U (ar7 s.heap.objs.size) → ah2 h' U x y → dW b h' i l (k + 1) → dW c h' j m (k + 1) → ah2 h' s.heap.objs.size x y → h'.objs.size = s.heap.objs.size + 1 →
   (∀d o,d≠z->d≠U->d≠i->d≠j->s.heap.get? d=some o->h'.get? d=some o)->Q (some (.ref s.heap.objs.size)) { s with heap:=h' }) :
  L3 (N9 prog w) A (an1 (.ref z)) Q E s:=by
 have ty:s.TypeIs (.ref z) "zip":=⟨_,hz,rfl⟩;unfold an1;exact o0 (wpAny_attempt (V7 (name:=U9 "__next__") ty am1 (X4 am1 ty F.entry_zip_next
  (xb D hz hT hU hi hj hl hm hx hy λh' a1 a2 a3 a4 a5 a6 a7=>J3 (q h' a1 a2 a3 a4 a5 a6 a7)) (F.args_zip_next_1 _))))
theorem rM{z T U i j l m:K4}{k:Nat}{xs ys:Array J0}{u v:J0}{Q:Option J0->J4->Prop}(hh:A.handled=none)(D:aq4 z T U i j l m)
  (hz:ap9 s.heap z T U .none) (hT:ah2 s.heap T (.ref i) (.ref j)) (hU:ah2 s.heap U u v) (hi:dW b s.heap i l k) (hj:dW c s.heap j m k) (hl:eV b s.heap l xs) (hm:eV c s.heap m ys) (no:xs[k]?=none∨ys[k]?=none)
  (q:∀h',(∀d o,d≠z->d≠U->d≠i->d≠j->s.heap.get? d=some o->h'.get? d=some o)->Q none { s with heap:=h' }):L3 (N9 prog w) A (an1 (.ref z)) Q E s:=by
 have ty:s.TypeIs (.ref z) "zip":=⟨_,hz,rfl⟩;unfold an1;refine o0 (wpAny_attempt (V7 (name:=U9 "__next__") ty am1 (X4 am1 ty F.entry_zip_next (yS hh D hz hT hU hi hj hl hm no λh' e kp he=>?_) (F.args_zip_next_1 _))));obtain⟨o,e1,e2⟩:=he;exact o0 (wpAny_isInstance (T:="StopIteration") (b:=true) ⟨o,e1,e2⟩ isSubtype_stop (J3 (q _ kp)))
end
abbrev itO(b:Bool)(l:K4):Obj:={ cls:=.type (itN b),data:=.fields #[.ref l,.int 0 0] }
abbrev zp1(h:N0)(b:Bool)(l:K4):N0:=h.push (itO b l)
abbrev zp2(h:N0)(b c:Bool)(l m:K4):N0:=(zp1 h b l).push (itO c m)
abbrev zp3(h:N0)(b c:Bool)(l m:K4):N0:=(zp2 h b c l m).push { cls:=.type "tuple",data:=.seq #[.ref h.objs.size,.ref (zp1 h b l).objs.size] }
abbrev zp4(h:N0)(b c:Bool)(l m:K4):N0:=(zp3 h b c l m).push { cls:=.type "tuple",data:=.seq #[.none,.none] }
abbrev zp5(h:N0)(b c:Bool)(l m:K4):N0:=(zp4 h b c l m).push { cls:=.type "zip",data:=.fields #[.none,.bool false,.bool false,.ref (zp2 h b c l m).objs.size,.ref (zp3 h b c l m).objs.size] }
set_option maxHeartbeats 4000000 in
theorem uN(b c:Bool)(l m:K4)(xs ys:Array J0):
  Meets (L6.«zip.__new__» ⟨[.type "zip",.ref l,.ref m],[]⟩) (λ_ R s=>eV b s.heap l xs/\eV c s.heap m ys/\R (.ok (.ret (.ref (zp4 s.heap b c l m).objs.size))) { s with heap:=zp5 s.heap b c l m }) :=
 .of_wp λprog w A R s h=>by
  obtain⟨hp,g,d,tk,os⟩:=s;obtain⟨h1,h2,hR⟩:=h;have hsub:=sub_zip;cases b with
  |true =>
   have p1:N0.IsTuple (am2 ⟨hp,g,d,tk,os⟩) l xs:=h1;cases c with
   |true =>
    have p2:N0.IsTuple (am2 ⟨hp.push { cls:=.type "tuple_iterator",data:=.fields #[.ref l,.int 0 0] },g,d,tk,os⟩) m ys:=eV.go (b:=true) h2 λo e=>I0 _ e
    wp_walk using aa2 p1,aa2 p2
    exact⟨_,rfl,hR⟩
   |false =>
    have p2:N0.IsList (am2 ⟨hp.push { cls:=.type "tuple_iterator",data:=.fields #[.ref l,.int 0 0] },g,d,tk,os⟩) m ys:=eV.go (b:=false) h2 λo e=>I0 _ e
    wp_walk using aa2 p1,W7 p2
    exact⟨_,rfl,hR⟩
  |false =>
   have p1:N0.IsList (am2 ⟨hp,g,d,tk,os⟩) l xs:=h1;cases c with
   |true =>
    have p2:N0.IsTuple (am2 ⟨hp.push { cls:=.type "list_iterator",data:=.fields #[.ref l,.int 0 0] },g,d,tk,os⟩) m ys:=eV.go (b:=true) h2 λo e=>I0 _ e
    wp_walk using W7 p1,aa2 p2
    exact⟨_,rfl,hR⟩
   |false =>
    have p2:N0.IsList (am2 ⟨hp.push { cls:=.type "list_iterator",data:=.fields #[.ref l,.int 0 0] },g,d,tk,os⟩) m ys:=eV.go (b:=false) h2 λo e=>I0 _ e
    wp_walk using W7 p1,W7 p2
    exact⟨_,rfl,hR⟩
theorem xg{prog:N4}{w:S2}{A:P5}{E:J0->J4->Prop}{s:J4}{b c:Bool}{l m:K4}{xs ys:Array J0}{Q:J0->J4->Prop}(h1:eV b s.heap l xs)(h2:eV c s.heap m ys)
  (q:∀ h',ap9 h' (s.heap.objs.size + 4) (s.heap.objs.size + 2) (s.heap.objs.size + 3) .none → ah2 h' (s.heap.objs.size + 2) (.ref s.heap.objs.size) (.ref (s.heap.objs.size + 1)) →
   ah2 h' (s.heap.objs.size+3) .none .none->dW b h' s.heap.objs.size l 0->dW c h' (s.heap.objs.size+1) m 0->h'.objs.size=s.heap.objs.size+5 ->
   (∀d o,s.heap.get? d=some o->h'.get? d=some o)->Q (.ref (s.heap.objs.size+4)) { s with heap:=h' }) :
  L3 (N9 prog w) A (call (.type "zip") [.ref l,.ref m]) Q E s:=by
 refine callType_new F.called_zip (by decide) (F.typeCall_zip_2 _ _) (F.newCall_zip_2 _ _) (λob=>F.args_object_init_3 ob _ _) F.entry_zip_new (uN b c l m xs ys) ⟨h1,h2,?_⟩;have y1:(zp1 s.heap b l).objs.size=s.heap.objs.size+1:=V1 ..;have y2:(zp2 s.heap b c l m).objs.size=s.heap.objs.size+2:=by rw[V1,y1]
 have y3:(zp3 s.heap b c l m).objs.size=s.heap.objs.size+3:=by rw[V1,y2]
 have y4:(zp4 s.heap b c l m).objs.size=s.heap.objs.size+4:=by rw[V1,y3]
 have y5:(zp5 s.heap b c l m).objs.size=s.heap.objs.size+5:=by rw[V1,y4]
 have f5:(zp5 s.heap b c l m).get? (zp4 s.heap b c l m).objs.size=some _:=K6 _ rfl;have f4:(zp5 s.heap b c l m).get? (zp3 s.heap b c l m).objs.size=some _:=I0 _ (K6 _ rfl);have f3:(zp5 s.heap b c l m).get? (zp2 s.heap b c l m).objs.size=some _:=I0 _ (I0 _ (K6 _ rfl));have f2:(zp5 s.heap b c l m).get? (zp1 s.heap b l).objs.size=some _:=I0 _ (I0 _ (I0 _ (K6 _ rfl)));have f1:(zp5 s.heap b c l m).get? s.heap.objs.size=some _:=I0 _ (I0 _ (I0 _ (I0 _ (K6 _ rfl))));show _/\_;rw[y2,y3,y4]at f5;rw[y1,y2]at f3;rw[y3]at f4;rw[y1]at f2;rw[y4];exact⟨⟨_,f5,rfl⟩,q _ f5 f3 f4 ⟨_,f1,rfl,rfl⟩ ⟨_,f2,rfl,rfl⟩ y5 λd o p=>I0 _ (I0 _ (I0 _ (I0 _ (I0 _ p))))⟩
section
variable{X:Cx}{af:List (K4×Obj)}{σ:St}{H:Hp}{s:J4}{h':N0}
theorem Inv.turnedF{t':Nat}{fp:List K4}(I:Inv X af σ H s)(k:∀b o,b∉fp->s.heap.get? b=some o->h'.get? b=some o)(f:∀b∈fp,gI X af H b):Inv X af σ H { s with heap:=h',toks:=t' }:=by
 have nit:∀b u,H b=some u->b∉fp:=λb u q z=>by rw[(f b z).1]at q;cases q
 refine I.step (g':=s.gens) (d':=s.drawn) (ch:=fp) (λb hb=>?_) (λb o _ _ hc q _=>k b o hc q) (λb o _ _ hc q _=>⟨o.slots,k b o hc q⟩) (λ_ _ _ _ n=>n)
  (λb o hc q=>⟨o,k b o hc q⟩) (λ_ _ q=>q) (λ_ _ _ q=>q) (λb ps q=>⟨#[],by rw[q];simp⟩) (λm hm=>?_) (λb u q=>?_) I.bare
 ·obtain⟨b0,b1,b2,b3,b4,b5⟩:=f b hb;exact⟨b3,b1,b4,b5⟩
 ·obtain⟨o,es,ep,ho,r⟩:=hm;exact⟨o,es,ep,k _ o (λz=>(f _ z).2.1 rfl) ho,r⟩
 ·refine(I.hok b u q).stay (λc v hc q'=>?_) (λ_ q=>q) λ_ _ q=>q;rcases hc with z|z
  ·rw[z]at q' ⊢;exact k _ _ (nit b u q) q'
  ·exact k c v (nit c _ z) q'
end
def SqB(b:Bool)(K:H0)(H:Hp)(a:K4)(xs:List V):Prop:=match b with
 |true=>SqT K H a xs
 |false=>SqL K H a xs
theorem Inv.sqB{X:Cx}{af:List (K4×Obj)}{σ:St}{H:Hp}{s:J4}{b:Bool}{a:K4}{xs:List V}(I:Inv X af σ H s)(h:SqB b X.K H a xs):∃its:List J0,ay xs its/\eV b s.heap a its.toArray:=by
 cases b with
 |true=>obtain⟨its,r,p,_⟩:=I.tuple h;exact⟨its,r,p⟩
 |false=>obtain⟨its,r,p,_⟩:=I.list h;exact⟨its,r,p.isList⟩
theorem Inv.sqB_inj{X:Cx}{af:List (K4×Obj)}{σ:St}{H:Hp}{s:J4}{b:Bool}{a:K4}{xs ys:List V}(I:Inv X af σ H s)(h:SqB b X.K H a xs)(h':SqB b X.K H a ys):xs=ys:=by
 cases b with
 |true=>exact I.tuple_inj h h'
 |false=>exact I.list_inj h h'
def Itz(K:H0)(b c:Bool)(l m:K4)(n:Nat):It :=
  ⟨λi H=>(∃xs ys,SqB b K H l xs/\SqB c K H m ys/\min xs.length ys.length=n)/\i<n,
   λi H x H'=>∃T u v,x=.ref T/\H T=none/\H'=upd H T (.tup [u,v])/\(∀xs,SqB b K H l xs->xs[i]?=some u)/\∀ys,SqB c K H m ys->ys[i]?=some v,
   λi H=>(∃xs ys,SqB b K H l xs/\SqB c K H m ys/\min xs.length ys.length=n)/\n<=i⟩
theorem yX{P:N4}{w:S2}{K:H0}{elts:List N8}{x1:Nat}{pt:Pos}(b c:Bool)(l m z T U i1 i2:K4)(n:Nat):qS P w K (.Tuple elts x1 pt) (Itz K b c l m n) [z,T,U,i1,i2] z
  (λi h=>ap9 h z T U .none/\ah2 h T (.ref i1) (.ref i2)/\(∃u v,ah2 h U u v)/\dW b h i1 l i/\dW c h i2 m i/\aq4 z T U i1 i2 l m/\i<=n) where
 mem:=by simp
 obj:=λi h st d hd=>by
  obtain⟨a1,a2,⟨u,v,a3⟩,⟨o4,a4,_,d4⟩,⟨o5,a5,_,d5⟩,_⟩:=st;simp only[L5,P0,or_false]at hd;rcases hd with rfl|rfl|rfl|rfl|rfl
  ·exact⟨_,a1,λv y=>by cases y⟩
  ·exact⟨_,a2,λv y=>by cases y⟩
  ·exact⟨_,a3,λv y=>by cases y⟩
  ·exact⟨o4,a4,λv y=>by rw[d4]at y;cases y⟩
  ·exact⟨o5,a5,λv y=>by rw[d5]at y;cases y⟩
 keep:=λi h h' st k=>by
  obtain⟨a1,a2,⟨u,v,a3⟩,a4,a5,a6,a7⟩:=st;exact⟨k z (by simp) _ a1,k T (by simp) _ a2,⟨u,v,k U (by simp) _ a3⟩,a4.go λo e=>k i1 (by simp) o e,a5.go λo e=>k i2 (by simp) o e,a6,a7⟩
 item:=by
  intro X hP hw hK hc i af s σ H E I hf st hg;subst hP hw hK;obtain⟨⟨xs,ys,hq,hq2,hmin⟩,hin⟩:=hg;obtain⟨a1,a2,⟨u0,v0,a3⟩,a4,a5,D,le⟩:=st;obtain⟨its,rv,p⟩:=I.sqB hq;obtain⟨its2,rv2,p2⟩:=I.sqB hq2;have l1:=rv.length;have l2:=rv2.length;have hx:xs[i]?=some (xs[i]'(by lia)):=by simp
  have hy:ys[i]?=some (ys[i]'(by lia)):=by simp
  generalize xs[i]'(by lia)=x at hx;generalize ys[i]'(by lia)=y at hy;obtain⟨u,hu,ru⟩:=rv.get hx;obtain⟨v,hv,rv3⟩:=rv2.get hy;refine qT D a1 a2 a3 a4 a5 p p2 (by simpa using hu) (by simpa using hv) λh1 b1 b2 b3 b4 b5 b6 kp=>?_;refine⟨_,rfl,?_⟩;have In:H s.heap.objs.size=none:=I.hok.fresh (J6 _);have lt:∀{d o},s.heap.get? d=some o->d≠s.heap.objs.size:=λe=>L7 (K7 e);have n1:=lt a1;have n2:=lt a2;have n3:=lt a3;have n4:i1≠s.heap.objs.size:=by obtain⟨o,e,_⟩:=a4;exact lt e
  have n5:i2≠s.heap.objs.size:=by obtain⟨o,e,_⟩:=a5;exact lt e
  have ne:∀d∈[z,T,U,i1,i2],d≠s.heap.objs.size:=λd hd=>by
   simp only[L5,P0,or_false]at hd;rcases hd with rfl|rfl|rfl|rfl|rfl<;>assumption
  have I1:Inv X af σ (upd H s.heap.objs.size (.tup [x,y])) { s with heap:=s.heap.push { cls:=.type "tuple",data:=.seq #[u,v] },toks:=s.toks } :=
   I.laid (λb o q=>I0 _ q) (J6 _) ⟨by simp only[O3,Z7];rw[af1];decide,[u,v],.cons ru (.cons rv3 .nil),jv.new _ _⟩
  have f1:∀d∈[z,T,U,i1,i2],gI X af (upd H s.heap.objs.size (.tup [x,y])) d:=λd hd=>(hf d hd).upd (ne d hd);have I2:Inv X af σ (upd H s.heap.objs.size (.tup [x,y])) { s with heap:=h1,toks:=s.toks }:=I1.turnedF (t':=s.toks) (λd o hd q=>by
   simp only[L5,P0,or_false,not_or]at hd
   by_cases hs:d=s.heap.objs.size
   ·subst hs;rw[K6 s.heap rfl]at q;cases q;exact b5
   ·refine kp d o hd.1 hd.2.2.1 hd.2.2.2.1 hd.2.2.2.2 ?_;rcases N0.get?_push_cases q with y|y
    ·exact absurd y.1 hs
    ·exact y) f1
  refine wpAny_letOwnedTupleGo_zip b1 λh2 c1 c2=>?_;have I3:=I2.turnedF (t':=s.toks) (h':=h2) (fp:=[z,T,U,i1,i2]) (λd o hd q=>(c2.2 d (λe=>hd (by simp[e]))).trans q) f1;refine⟨.ref s.heap.objs.size,_,I3,rfl,⟨_,x,y,rfl,In,rfl,λzs hzs=>by rw[I.sqB_inj hzs hq];exact hx,λzs hzs=>by rw[I.sqB_inj hzs hq2];exact hy⟩,⟨c1,?_,⟨u,v,(c2.2 U D.TOz).trans b2⟩,b3.go λo e=>(c2.2 i1 D.i1z).trans e,b4.go λo e=>(c2.2 i2 D.i2z).trans e,D,hin⟩,λd hd=>(f1 d hd).1⟩;exact(c2.2 T D.TIz).trans (kp T _ D.TIz D.TITO D.TIi1 D.TIi2 a2)
 done:=by
  intro X hP hw hK hc i af s σ H E I hf st hg;subst hP hw hK;obtain⟨⟨xs,ys,hq,hq2,hmin⟩,hin⟩:=hg;obtain⟨a1,a2,⟨u0,v0,a3⟩,a4,a5,D,le⟩:=st;obtain⟨its,rv,p⟩:=I.sqB hq;obtain⟨its2,rv2,p2⟩:=I.sqB hq2;have l1:=rv.length;have l2:=rv2.length;refine rM (I.ok.hd hc) D a1 a2 a3 a4 a5 p p2 ?_ λh' kp=>⟨rfl,I.turnedF (t':=s.toks) (fp:=[z,T,U,i1,i2]) (λd o hd q=>?_) hf⟩
  ·rcases Nat.le_total xs.length ys.length with h|h
   ·left;simp;lia
   ·right;simp;lia
  ·simp only[L5,P0,or_false,not_or]at hd;exact kp d o hd.1 hd.2.2.1 hd.2.2.2.1 hd.2.2.2.2 q
 self:=λ_ _ _ _ _ st h=>wpAny_pyIter_zip st.1 h
noncomputable def zF:D->Option (Bool×List D)
 |.tup es=>some (true,es)
 |.lst es=>some (false,es)
 |_=>none
noncomputable def i4:List D->List D->List D
 |a::as,b::bs=>.tup [a,b]::i4 as bs
 |_,_=>[]
theorem rS:∀(as bs:List D) (i:Nat),(i4 as bs)[i]?=match as[i]?,bs[i]? with|some a,some b=>some (.tup [a,b])|_,_=>none
 |[],bs,i=>by simp[i4]
 |a::as,[],i=>by
  simp only[i4,List.getElem?_nil];cases(a::as)[i]?<;>rfl
 |a::as,b::bs,0=>by simp[i4]
 |a::as,b::bs,i+1=>by simp only[i4,S0];exact rS as bs i
theorem rO:∀(as bs:List D),(i4 as bs).length=min as.length bs.length
 |[],bs=>by simp[i4]
 |a::as,[]=>by simp[i4]
 |a::as,b::bs=>by simp only[i4,O3,rO as bs];lia
def Cb(ta:TAd):TId:=λΔ M R=>ta Δ M λds M1=>∃x y b c es fs,ds=[x,y]/\zF x=some (b,es)/\zF y=some (c,fs)/\R (i4 es fs) M1
theorem zw:ab8 "zip"=some (.type "zip"):=by kernel_rfl
theorem sC{K:H0}{M:DH}{H:Hp}{x:D}{b:Bool}{es:List D}{v:V}(h:zF x=some (b,es))(r:Rep K M H x v):∃a vs,v=.ref a/\aq K M H es vs/\SqB b K H a vs/\∀M' H',Ext M H M' H'->SqB b K H' a vs/\aq K M' H' es vs:=by
 cases x with
 |tup ds =>
  cases h;simp only[Rep]at r;obtain⟨a,vs,rfl,t,rl⟩:=r;exact⟨a,vs,rfl,rl,t.sq,λM' H' e=>⟨(t.ext e).sq,rl.ext e⟩⟩
 |lst ds =>
  cases h;simp only[Rep]at r;obtain⟨a,vs,rfl,t,rl⟩:=r;exact⟨a,vs,rfl,rl,SqL.of t.1,λM' H' e=>⟨SqL.of (t.ext e).1,rl.ext e⟩⟩
 |_=>cases h
section
variable{X:Cx}{a1 a2:N8}{t:TAd}{pos:Pos}
theorem yi{elts:List N8}{x1:Nat}{pt p:Pos}(hg:Gl X "zip")(hm:X.mg "zip"=none)(ha:QAd X [a1,a2] t)(hs:K8 [a1,a2] X.env=(false,ad7 a1 X.env)::K8 [a2] X.env:=by rfl)(hpl:(ab1 pos (K8 [a2] X.env)).any (·.1)=false:=by rfl):QId X (.Tuple elts x1 pt) (.Call (.Name "zip" p) [a1,a2] [] pos) (Cb t):=by
 simp only[QAd.eq,QId.eq]at *
 intro af s σ H R I hh;obtain⟨Δ,M,R',sr,hr,q,k⟩:=hh;refine Call_ (fv I hg hm zw (S6 (thn (ha pos af s σ H (λvs H1=>∃x y b c es fs M1,zF x=some (b,es)/\zF y=some (c,fs)/\aq X.K M1 H1 [x,y] vs/\R' (i4 es fs) M1/\Ext M H M1 H1/\HR X.K M1 H1) I ⟨Δ,M,_,sr,hr,q,λds M1 vs H1 ⟨x,y,b,c,es,fs,ed,ex,ey,q1⟩ e1 hr1 rv=>⟨x,y,b,c,es,fs,M1,ex,ey,by rw[<-ed];exact rv,q1,e1,hr1⟩⟩) λus s1 ⟨vs,H1,I1,r1,x,y,b,c,es,fs,M1,ex,ey,rv,q1,e1,hr1⟩=>?_) hs hpl));obtain⟨v1,v2,rfl,rx,ry⟩:∃v1 v2,vs=[v1,v2]/\Rep X.K M1 H1 x v1/\Rep X.K M1 H1 y v2:=by
  simp only[aq]at rv;obtain⟨v1,ws,rfl,h1,v2,ws2,rfl,h2,rfl⟩:=rv;exact⟨v1,v2,rfl,h1,h2⟩
 obtain⟨l,vs,rfl,rl,sl,kl⟩:=sC ex rx;obtain⟨m,ws,rfl,rm,sm,km⟩:=sC ey ry;obtain⟨u1,u2,rfl,w1,w2⟩:∃u1 u2,us=[u1,u2]/\aL (.ref l) u1/\aL (.ref m) u2:=by
  cases r1 with
  |cons p1 r1 =>
   cases r1 with
   |cons p2 r1 =>
    cases r1;exact⟨_,_,rfl,p1,p2⟩
 cases w1;cases w2;obtain⟨its,rvv,pl⟩:=I1.sqB sl;obtain⟨its2,rvv2,pm⟩:=I1.sqB sm;have ll:l<s1.heap.objs.size:=by obtain⟨o,e,_⟩:=pl;exact K7 e
 have lm:m<s1.heap.objs.size:=by obtain⟨o,e,_⟩:=pm;exact K7 e
 refine xg pl pm λh' c1 c2 c3 c4 c5 c6 kp=>?_;refine wpAny_pyIter_zip c1 ?_;have DA:aq4 (s1.heap.objs.size+4) (s1.heap.objs.size+2) (s1.heap.objs.size+3) s1.heap.objs.size (s1.heap.objs.size+1) l m:=zipApart_new ll lm;refine⟨_,[_,_,_,_,_],_,_,H1,rfl,I1.kept (t':=s1.toks) kp,yX b c l m _ _ _ _ _ (min es.length fs.length),⟨c1,c2,⟨_,_,c3⟩,c4,c5,DA,Q5 _⟩,λd hd=>?_,?_⟩
 ·have hle:s1.heap.objs.size<=d:=by
   simp only[L5,P0,or_false]at hd;rcases hd with rfl|rfl|rfl|rfl|rfl
   ·exact ah4 _ _
   ·exact ah4 _ _
   ·exact ah4 _ _
   ·exact J6 _
   ·exact ah4 _ _
  exact I1.fpOk hle (I1.hok.fresh hle)
 ·have h1:=rl.length;have h2:=rm.length;refine k _ M1 _ H1 q1 e1 hr1 λM2 H2 e2 hr2 i=>⟨λd hd=>?_,λhl=>⟨⟨vs,ws,(kl _ _ e2).1,(km _ _ e2).1,by lia⟩,by rw[rO]at hl;exact hl⟩⟩;rw[rS]at hd;cases hda:es[i]? with
  |none=>rw[hda]at hd;cases hd
  |some d1 =>
   cases hdb:fs[i]? with
   |none=>rw[hda,hdb]at hd;cases hd
   |some d2 =>
    rw[hda,hdb]at hd;have hd':D.tup [d1,d2]=d:=by simpa using hd
    subst hd';have hi:i<es.length:=(K3.mp hda).1;have hi2:i<fs.length:=(K3.mp hdb).1;obtain⟨g1,gv,g2⟩:=(kl _ _ e2).2.get hda;obtain⟨g3,gw,g4⟩:=(km _ _ e2).2.get hdb;refine⟨⟨⟨vs,ws,(kl _ _ e2).1,(km _ _ e2).1,by lia⟩,by lia⟩,λx' H' ⟨T,u,v,ex',hT,eH,hy1,hy2⟩=>?_⟩;subst ex';subst eH;have z1:=hy1 vs (kl _ _ e2).1;have z2:=hy2 ws (km _ _ e2).1;rw[gv]at z1;cases z1;rw[gw]at z2;cases z2;refine⟨Ext.new hr2 hT,hr2.new hT,?_⟩;simp only[Rep];refine⟨T,[g1,g3],rfl,.inl ⟨.inl bx,hr2.fresh hT⟩,?_⟩;exact aq.cons (g2.ext (Ext.new hr2 hT)) (aq.cons (g4.ext (Ext.new hr2 hT)) aq.nil)
end
section
variable{X:Cx}{scope:af8}{cl:List (Str×K4)}{ar:List Str}{tg:N8}{pos:Pos}
end
section
variable{K:H0}{M:DH}{H:Hp}
theorem zl{κ:Type}:∀{ks:List κ}{ds:List D}{vs:List V},ks.length=vs.length->aq K M H ds vs->KR K M H (ks.zip ds) (ks.zip vs)
 |[],_,_,_,_=>by simp only[List.zip_nil_left];exact .nil
 |k::ks,ds,vs,hl,h=>by
  cases vs with
  |nil=>cases hl
  |cons v vs =>
   cases ds with
   |nil=>have:=h.length;cases this
   |cons d ds =>
    simp only[aq]at h;obtain⟨_,_,e,h1,h2⟩:=h;cases e;exact .cons ⟨rfl,h1⟩ (zl (Nat.succ.inj hl) h2)
noncomputable def asK(M:DH):D->Option (List (Key×D))
 |.ref a=>match M a with|some (.dK kvs)=>some kvs|_=>none
 |.box (.dk ks) ds=>some (ks.zip ds)
 |_=>none
theorem AJ{x:D}{v:V}{kvs:List (Key×D)}(hr:HR K M H)(h:Rep K M H x v)(e:asK M x=some kvs):∃a ks,v=.ref a/\Rd H a (.dK ks)/\KR K M H kvs ks:=by
 cases x with
 |ref a =>
  simp only[asK]at e;simp only[Rep]at h
  split at e
  ·rename_i q;cases e;obtain⟨ks,h1,kr⟩:=hr a _ q;exact⟨a,ks,h,.inl h1,kr⟩
  ·cases e
 |box t ds =>
  cases t with
  |dk ks =>
   cases e;simp only[Rep,sR]at h;obtain⟨a,vs,e,⟨hl,⟨o,r⟩,_⟩,h2⟩:=h;exact⟨a,_,e,.inr ⟨o,r⟩,zl hl h2⟩
  |_=>cases e
 |_=>cases e
theorem AC{ks:List Key}{ds:List D}:asK M (.box (.dk ks) ds)=some (ks.zip ds):=rfl
end
section
variable{X:Cx}{e i o:N8}{es:List N8}{te ti to:TEd}{t:TAd}{pos:Pos}
def Cn(to ti:TEd):TEd:=λΔ M Q=>to Δ M λx M1=>ti Δ M1 λy M2=>∃kvs k d,asK M2 x=some kvs/\y=kD k/\oF kvs k=some d/\Q d M2
end
section
variable{X:Cx}{e:N8}{te:TEd}
theorem o9{κ β:Type}:∀l:List (κ×β),(l.map (·.1)).zip (l.map (·.2))=l
 |[]=>rfl
 |p::l=>by rw[K2,K2,W0,o9 l]
def sM(kvs:List (Key×D)):D:=.box (.dk (kvs.map (·.1))) (kvs.map (·.2))
theorem yz{M:DH}{kvs:List (Key×D)}:asK M (sM kvs)=some kvs:=by unfold sM;rw[AC,o9]
end
section
variable{X:Cx}{e i o l:N8}{es:List N8}{te ti to:TEd}{t:TAd}{pos p pos' eU bT:Pos}{f x:Str}{C:K4}{elts:List N8}{x1:Nat}{pt:Pos}
theorem Ex(hu:X.A.units+1<ac8)(ho:QEd X o to)(hi:QEd X i ti)(hs:ze i):QEd X (.Subscript o i pos) (Cn to ti):=by
 simp only[QEd.eq]at *
 exact PE.conv (Bj hu ho hi hs) λσ H Q hup=>hup.el λΔ M R sr hr q k=>⟨Δ,M,_,sr,hr,q,λx M1 v H1 q1 e1 hr1 rv=>⟨Δ,M1,_,sr.ext e1,hr1,q1,λy M2 u H2 ⟨kvs,ky,d,ea,ey,ed,q2⟩ e2 hr2 ru=>by
   subst ey;obtain⟨a,ks,rfl,h2,kr⟩:=AJ hr2 (rv.ext e2) ea;obtain⟨w,hw,rw_⟩:=(kr.val ky).1 d ed;exact⟨a,w,rfl,.inl ⟨ks,ky,h2,yP ru,hw.symm⟩,k d M2 w H2 q2 (e1.trans e2) hr2 rw_⟩⟩⟩
end
section
variable{X:Cx}{a b c e o i:N8}{es:List N8}{te ta tb to ti:TEd}{t:TAd}{pos:Pos}{tg iter:N8}
end
def F5:D->Option D
 |.box (.dk ks) _=>some (.lst (ks.map kD))
 |_=>none
theorem BY{kvs:List (Key×D)}:F5 (sM kvs)=some (.lst (kvs.map λp=>kD p.1)):=by
 show some (D.lst ((kvs.map (·.1)).map kD))=_;rw[Q7];rfl
noncomputable def GB:D->Option D
 |.int i=>some (.int i)
 |.bl k=>some (.int (if k then 1 else 0))
 |_=>none
theorem CH{k:Bool}:GB (.bl k)=some (.int (if k then 1 else 0)):=rfl
section
variable{X:Cx}
def nh(x y:D):Option D:=match y with
 |.lst ds=>if dLe x 59=true/\cm ds 59=true then some (.bl (!(ds.any λd=>eqD d x)))else none
 |.tup ds=>if dLe x 59=true/\cm ds 59=true then some (.bl (!(ds.any λd=>eqD d x)))else none
 |_=>none
theorem zj{x:D}{ds:List D}:nh x (.lst ds)=if dLe x 59=true/\cm ds 59=true then some (.bl (!(ds.any λd=>eqD d x)))else none:=rfl
theorem um{h:N0}{a:K4}{xs:Array J0}(p:ak1 h a xs):h.IsTuple a xs:=by
 obtain⟨o,h1,h2,n,h3⟩:=p;exact⟨o,h1,h2,n,h3⟩
open Classical in
theorem zA(hu:X.A.units+64<ac8):bY X (Q0 .NotIn) nh:=by
 intro af s σ H M x y v u dx dy dz Q I hr rx ry r1 r2 e k;cases dy with
 |lst ds =>
  simp only[nh]at e
  by_cases hc:dLe dx 59=true/\cm ds 59=true
  ·rw[if_pos hc]at e;cases e;obtain⟨l,vs,rfl,sq,rl⟩:=r2;cases ry;obtain⟨its,r,pl,hz⟩:=I.list (SqL.of sq);have hl:ds.length=its.length:=rl.length.trans r.length;have at_:∀j (h:j<ds.length) (h':j<its.length),PySem.SeqAt.EqAt X.A.in1 s its[j] v (eqD ds[j] dx):=λj h h'=>by
    obtain⟨v1,g1,p1⟩:=rl.get (i:=j) (d:=ds[j]) (by simp[h]);obtain⟨u1,k1,m1⟩:=r.get g1;have e1:its[j]=u1:=by simpa[J1 h']using k1
    rw[e1];exact(mK I 59 (by show X.A.units+1+59<ac8;omega) (fM hc.2 (i:=j) (by simp[h])) hc.1 p1.r r1 m1 rx).1
   refine SeqAt.notIn_listAt (λw=>decide (∃j,∃h:j<ds.length,∃h':j<its.length,its[j]=w/\eqD ds[j] dx=true)) pl.isList (λw hw=>?_) ⟨.bl _,H,I,rfl,?_⟩
   ·obtain⟨i,hi,rfl⟩:=U1.mp (show w∈its by simpa using hw)
    by_cases q:∃j,∃h:j<ds.length,∃h':j<its.length,its[j]=its[i]/\eqD ds[j] dx=true
    ·rw[decide_eq_true q];obtain⟨j,h,h',q1,q2⟩:=q;rw[<-q1,<-q2];exact at_ j h h'
    ·rw[decide_eq_false q];have:=at_ i (by omega) hi
     rwa [show eqD ds[i] dx=false from Bool.eq_false_iff.mpr λz=>q ⟨i,by omega,hi,rfl,z⟩]at this
   ·have ea:its.toArray.any (λw=>decide (∃j,∃h:j<ds.length,∃h':j<its.length,its[j]=w/\eqD ds[j] dx=true))=ds.any λd=>eqD d dx:=by
     rw[Q4,List.any_toArray,V2,V2];constructor
     ·rintro⟨w,_,h⟩;obtain⟨j,h1,_,_,h2⟩:=of_decide_eq_true h;exact⟨ds[j],P7 _,h2⟩
     ·rintro⟨d,hd,h⟩;obtain⟨j,hj,rfl⟩:=U1.mp hd;exact⟨its[j],P7 _,decide_eq_true ⟨j,hj,by omega,rfl,h⟩⟩
    rw[ea];exact k _ H (Ext.refl _ _) hr (by simp[Rep])
  ·rw[if_neg hc]at e;cases e
 |tup ds =>
  simp only[nh]at e
  by_cases hc:dLe dx 59=true/\cm ds 59=true
  ·rw[if_pos hc]at e;cases e;obtain⟨l,vs,rfl,sq,rl⟩:=r2;cases ry;obtain⟨its,r,pl,hz⟩:=I.tuple sq;have hl:ds.length=its.length:=rl.length.trans r.length;have at_:∀j (h:j<ds.length) (h':j<its.length),PySem.SeqAt.EqAt X.A.in1 s its[j] v (eqD ds[j] dx):=λj h h'=>by
    obtain⟨v1,g1,p1⟩:=rl.get (i:=j) (d:=ds[j]) (by simp[h]);obtain⟨u1,k1,m1⟩:=r.get g1;have e1:its[j]=u1:=by simpa[J1 h']using k1
    rw[e1];exact(mK I 59 (by show X.A.units+1+59<ac8;omega) (fM hc.2 (i:=j) (by simp[h])) hc.1 p1.r r1 m1 rx).1
   refine SeqAt.notIn_tupleAt (λw=>decide (∃j,∃h:j<ds.length,∃h':j<its.length,its[j]=w/\eqD ds[j] dx=true)) (um pl) (λw hw=>?_) ⟨.bl _,H,I,rfl,?_⟩
   ·obtain⟨i,hi,rfl⟩:=U1.mp (show w∈its by simpa using hw)
    by_cases q:∃j,∃h:j<ds.length,∃h':j<its.length,its[j]=its[i]/\eqD ds[j] dx=true
    ·rw[decide_eq_true q];obtain⟨j,h,h',q1,q2⟩:=q;rw[<-q1,<-q2];exact at_ j h h'
    ·rw[decide_eq_false q];have:=at_ i (by omega) hi
     rwa [show eqD ds[i] dx=false from Bool.eq_false_iff.mpr λz=>q ⟨i,by omega,hi,rfl,z⟩]at this
   ·have ea:its.toArray.any (λw=>decide (∃j,∃h:j<ds.length,∃h':j<its.length,its[j]=w/\eqD ds[j] dx=true))=ds.any λd=>eqD d dx:=by
     rw[Q4,List.any_toArray,V2,V2];constructor
     ·rintro⟨w,_,h⟩;obtain⟨j,h1,_,_,h2⟩:=of_decide_eq_true h;exact⟨ds[j],P7 _,h2⟩
     ·rintro⟨d,hd,h⟩;obtain⟨j,hj,rfl⟩:=U1.mp hd;exact⟨its[j],P7 _,decide_eq_true ⟨j,hj,by omega,rfl,h⟩⟩
    rw[ea];exact k _ H (Ext.refl _ _) hr (by simp[Rep])
  ·rw[if_neg hc]at e;cases e
 |_=>cases e
end
section
variable{X:Cx}{e:N8}{t:TEd}
end
section
variable{P:N4}{w:S2}{K:H0}{h base:N0}{mg:Str->Option J0}{x qual:Str}{st:aa6}{f:K4}{fd:L4}{k:Nat}{S:SpD}
structure bg(K:H0) (x:Str) (st:aa6) (f:K4) (fd:L4):Prop where
 a:M0 K K9 x=some (some (.ref f))
 F:Fun K x x st f fd
theorem FW{oc:J0}{od an:Option K4}{osl:Array (Option J0)}{kV doc pm cdv ct:J0}(a:M0 K K9 x=some (some (.ref f)))(l:K.lookup f=some ⟨oc,od,.func (ad9 x x (gj st) (du st) (aj st) .none kV doc pm an cdv ct),osl⟩)
  (c:ah1 K cdv x=true) (k:ac5 K (.ref f)=true):bg K x st f (ad9 x x (gj st) (du st) (aj st) .none kV doc pm an cdv ct):=⟨a,xY l c k⟩
theorem usS{p:List J0->Prop}{n:Nat}(h:∀a us,us.length=n->p (a::us)):∀us:List J0,us.length=n+1->p us:=by
 intro us e;cases us with
 |nil=>cases e
 |cons a us=>exact h a us (Nat.succ.inj e)
theorem us0{p:List J0->Prop}(h:p []):∀us:List J0,us.length=0->p us:=by
 intro us e;cases us with
 |nil=>exact h
 |cons a us=>cases e
def Bd(x qual:Str)(st:aa6)(ps:List Str)(us:List J0):Prop:=∀(kV doc pm:J0) (an:Option K4) (cdv ct:J0),bindArgs (ad9 x qual (gj st) (du st) (aj st) .none kV doc pm an cdv ct) ⟨us,[]⟩=ag9 (ps.zip us)
theorem u9{ps:List Str}(F:Fun K x qual st f fd)(b:∀us:List J0,us.length=ps.length->Bd x qual st ps us):eY K fd ps []:=F.binds λkV doc pm an cdv ct us hl=>b us hl kV doc pm an cdv ct
variable{p1 p2 p3 p4 p5:Str}
theorem bd1(F:Fun K x qual st f fd)(b:∀a,Bd x qual st [p1] [a]):eY K fd [p1] []:=u9 F (usS λa=>us0 (b a))
theorem bd2(F:Fun K x qual st f fd)(b:∀a c,Bd x qual st [p1,p2] [a,c]):eY K fd [p1,p2] []:=u9 F (usS λa=>usS λc=>us0 (b a c))
theorem bd3(F:Fun K x qual st f fd)(b:∀a c d,Bd x qual st [p1,p2,p3] [a,c,d]):eY K fd [p1,p2,p3] []:=u9 F (usS λa=>usS λc=>usS λd=>us0 (b a c d))
theorem bd4(F:Fun K x qual st f fd)(b:∀a c d e,Bd x qual st [p1,p2,p3,p4] [a,c,d,e]):eY K fd [p1,p2,p3,p4] []:=u9 F (usS λa=>usS λc=>usS λd=>usS λe=>us0 (b a c d e))
theorem fg{ps:List Str}{n:Nat}(X:K.In h)(G:h.Ns K9 mg)(i:bg K x st f fd)(o:aV P w K mg base CX0 k f fd ps (spD K n S))(b:eY K fd ps []):FnD P w K mg base x k n S:=⟨_,_,_,o,Q8 X G i.a,i.F.kp,b⟩
theorem C7{fa:K4}{sp:Sp}{lp:N4}(X:K.In h)(G:h.Ns K9 mg)(hfa:mg "law"=some (.ref fa))(i:bg K "law" st f fd)(b:∀a,Bd "law" "law" st [p1] [a])(o:∀base:N0,aV lp w K mg base CX0 k f fd [p1] sp):
  ∃fd:L4,(∀(s:J4) (v:J0),aq6 s fd ⟨[v],[]⟩ [(p1,v)])/\∀base:N0,K.In base->base.Ns K9 mg->aV lp w K mg base CX0 k fa fd [p1] sp:=by
 have e:=hfa.symm.trans (Q8 X G i.a);cases e;refine⟨fd,λs v=>?_,λbase _ _=>o base⟩;obtain⟨oc,od,kV,doc,pm,an,cdv,ct,osl,rfl,lk,hcd⟩:=i.F.ex;exact .of_eq (b v kV doc pm an cdv ct)
end
theorem oo:typeLookup (.type "tuple") "keys"=ag9 none:=by rw[typeLookup_type,builtinLookup_eq_fast];kernel_rfl
theorem pG:entryFor table "dict.update.loop"=some L6.«dict.update.loop»:=entryFor_of_tree (by kernel_rfl)
theorem iR:plainId "dict.update.loop"=true:=by decide +kernel
section
variable{prog:N4}{w:S2}{A:P5}{E:J0->J4->Prop}{s:J4}
theorem wW{a:K4}{o:Obj}{xs:Array J0}{k:Nat}{Q:Option J0->J4->Prop}(hx:s.heap.get? a=some o)(hc:o.cls=.type "tuple")(hdat:o.data=.seq xs k)(hd:o.dict=none)(hA:A.handled=none)
  (h:∀h' tk e,N0.NewExcOf s.heap h' e "AttributeError"->Q none { s with heap:=h',toks:=tk }):L3 (N9 prog w) A (getAttr? (.ref a) "keys") Q E s:=by
 obtain⟨c,dct,dat,sl⟩:=o;simp only at hc hdat hd;subst hc hdat hd;obtain⟨hp,g,d,tk,os⟩:=s;have hT:∀tk',(⟨hp,g,d,tk',os⟩:J4).TypeIs (.ref a) "tuple":=λ_=>⟨_,hx,rfl⟩;have f1:=sub_AttributeError;have f3:=F.slot_tuple_getattribute.lookup;have f4:=F.slot_tuple_getattribute.bind (.ref a);have f5:=am_tuple_getattr_none;unfold getAttr? getAttrBy? getAttrBy
 repeat (any_goals (first|assumption|exact hT _|((with_reducible show L3 _ _ (call (J0.builtin "tuple.__getattribute__") _ _) _ _ _);refine ai2 F.slot_tuple_getattribute (hT _) am_entry_tuple_getattribute (F.args_tuple_getattribute_2 _ _) (meets_getattribute_miss_tuple a xs k sl "keys" _ oo (by decide) (by decide)) ⟨hx,hA,λh' tk' e hx'=>?_⟩)|wp_step))
 obtain⟨t',u',he⟩:=hx'.there;show L3 _ _ (getattributeRaised _ _ _ _ _ _ _) _ _ _;unfold getattributeRaised
 repeat (any_goals (first|assumption|wp_step))
 exact h _ _ _ hx'.of
theorem uB{b:K4}{x y:J0}{Q:List J0->J4->Prop}(ht:ak1 s.heap b #[x,y])(h:Q [x,y] s):L3 (N9 prog w) A (L6.Dict.pairItems (.ref b)) Q E s:=by
 obtain⟨o,h1,h2,n,h3⟩:=ht;unfold L6.Dict.pairItems;refine o0 (ai1 (T:="tuple") ⟨o,h1,h2⟩ ?_);rw[if_pos (by decide)];refine o0 (aa7 h1 h3 ?_);exact J3 h
variable{K:Type} [DecidableEq K] {knd:KeyKind prog w K}{R:ar9->J4->Prop}{I:K4}{fp wr:List K4}{G:Array an6->Array an6->Prop}{n:Nat}{P:Nat->J0->Prop}{St:Nat->J4->Prop}
def nq(knd:KeyKind prog w K)(h:N0)(b:K4)(kv:K×J0):Prop:=∃key,ak1 h b #[key,kv.2]/\knd.is kv.1 key=true
theorem A2(W:WalksS prog w A.in1 I fp wr G n P St)(d:K4)(hdf:d∉fp)(kvs:List (K×J0))(hn:kvs.length=n)(hz:n<=J7)(hnd:(kvs.map (·.1)).Nodup)(bs:Nat->K4)
  (hP:∀i v,P i v->v=.ref (bs i)) (hbs:∀i,i<n->bs i∉d::wr) :
  ∀(k i:Nat) (s:J4) (t:Tok),n-i=k->i<=n->St i s->s.heap.DictOf knd d (kvs.take i)->(∀j (kv:K×J0),kvs[j]?=some kv->nq knd s.heap (bs j) kv) ->
   (∀s',Moved (d::wr) G s s'->s'.heap.DictOf knd d kvs->R (.ok (.ret .none)) s') ->
   ah7 (N9 prog w) A (.builtin "dict.update.loop" ⟨[.ref d,.ref I,.int i t,.none],[]⟩) R s:=by
 have hSw:d∉wr:=λh=>hdf (W.sub _ h);have hsub:∀b∈wr,b∈d::wr:=λb hb=>O6 _ hb;intro k
 induction k with
 |zero =>
  intro i s t hk hi hst hS hpa hR;have hin:i=n:=by lia
  subst hin;refine W3 pG ?_;rw[U2 iR _];show L3 _ A.in1 (an1 (.ref I) >>= _) _ _ s;refine o0 (W.done s _ _ hst λs' hm=>?_);show L3 _ A.in1 (L6.Dict.addKeywords d [] >>= _) _ _ s';refine o0 (J3 (J3 (hR s' (hm.mono hsub) ?_)));rw[U3 (by lia)]at hS;obtain⟨o,es,ep,ho,rest⟩:=hS;exact⟨o,es,ep,hm.heap d _ hSw ho,rest⟩
 |succ k ih =>
  intro i s t hk hi hst hS hpa hR;have hlt:i<n:=by lia
  refine W3 pG ?_;rw[U2 iR _];show L3 _ A.in1 (an1 (.ref I) >>= _) _ _ s;refine o0 (W.item i s _ _ hlt hst λv s' hPi hst' hm=>?_);obtain rfl:=hP i v hPi;have hS':s'.heap.DictOf knd d (kvs.take i):=by
   obtain⟨o,es,ep,ho,rest⟩:=hS;exact⟨o,es,ep,hm.heap d _ hSw ho,rest⟩
  have hpa':∀j (kv:K×J0),kvs[j]?=some kv->nq knd s'.heap (bs j) kv:=λj kv hj=>by
   obtain⟨key,⟨o,h1,h2,m,h3⟩,h4⟩:=hpa j kv hj;have hjn:j<n:=by have:=(K3.mp hj).1;lia
   exact⟨key,⟨o,hm.heap _ _ (λz=>hbs j hjn (hsub _ z)) h1,h2,m,h3⟩,h4⟩
  have hi':i<kvs.length:=by lia
  obtain⟨key,ht,hkey⟩:=hpa' i kvs[i] (J1 hi');have hstored:stored (kvs.take i) kvs[i].1 kvs[i].2=kvs.take (i+1):=by
   have hno:¬ ((kvs.take i).any λkv=>decide (kv.1=kvs[i].1))=true:=by
    rw[V2];rintro⟨x,hx,e⟩;have e':x.1=kvs[i].1:=by simpa using e
    obtain⟨j,hj,ej⟩:=U1.mp hx;rw[N2]at hj;rw[List.getElem_take]at ej;have hd2:=ac6.mp hnd j i (by rw[u8];lia) (by rw[u8];lia) (by lia);simp only[List.getElem_map]at hd2;exact hd2 (by rw[ej];exact e')
   rw[stored,if_neg hno,S8,J1 hi'];rfl
  show L3 _ A.in1 (aq5 [W1 (bs i)] _ >>= _) _ _ s';refine o0 (U4 (o0 (wpAny_tryCatch (uB ht ?_))));refine U4 (wpAny_dictSet_pairs (hsz:=by rw[N2];lia) hkey hS' λh' hd' hs'=>?_);rw[hstored]at hd';refine J3 ⟨ag4 iR _,ih (i+1) _ _ (by lia) hlt (W.frame _ s' _ _ hst' (ah8 _) λb hb o e=>?_) hd' (λj kv hj=>?_) λs'' hm'' hS''=>?_⟩
  ·rw[hs'.2 b (λh:b=d=>hdf (by rw[<-h];exact hb))];exact e
  ·obtain⟨key,⟨o,h1,h2,m,h3⟩,h4⟩:=hpa' j kv hj;have hjn:j<n:=by have:=(K3.mp hj).1;lia
   refine⟨key,⟨o,?_,h2,m,h3⟩,h4⟩;show h'.get? (bs j)=_;rw[hs'.2 _ (λz=>hbs j hjn (by rw[z];exact R4))];exact h1
  ·refine hR s'' (Moved.trans W.gtrans ((hm.mono hsub).then_heap (ah8 _) λb o hb e=>?_) hm'') hS'';rw[hs'.2 b (λh:b=d=>hb (by rw[h];exact R4))];exact e
def ux(its:Array J0)(i:Nat):K4:=match its[i]? with|some (.ref b)=>b|_=>0
theorem l9{l:K4}{its:Array J0}{kvs:List (K×J0)}{Q:J0->J4->Prop}(hh:A.handled=none)(hl:jv s.heap l its)(hn:kvs.length=its.size)(hz:its.size<=J7)(hnd:(kvs.map (·.1)).Nodup)
  (hit:∀(i:Nat) (kv:K×J0),kvs[i]?=some kv->∃b,its[i]?=some (W1 b)/\nq knd s.heap b kv)
  (h:∀h' tk,h'.DictOf knd s.heap.objs.size kvs->(∀b o,s.heap.get? b=some o->h'.get? b=some o)->Q (.ref s.heap.objs.size) { s with heap:=h',toks:=tk }) :
  L3 (N9 prog w) A (call (.type "dict") [.ref l]) Q E s:=by
 refine callType_codes (Q₁:=λ(obj:J0) (s₁:J4)=>obj=W1 s.heap.objs.size/\s₁={ s with heap:=s.heap.push { cls:=.type "dict",data:=.dict #[] } }) F.kt_called_dict (F.kt_typeCall_dict_1 _) F.entry_dict_init (kt_code_dict_new _ ⟨rfl,rfl⟩) ?_;rintro obj s₁ ⟨rfl,rfl⟩;have hnew:(s.heap.push { cls:=.type "dict",data:=.dict #[] }).DictOf knd s.heap.objs.size []:=N0.DictOf.new s.heap;have hlt:l<s.heap.objs.size:=hl.lt;obtain⟨o,ho,hc,⟨m,hd⟩,hdict⟩:=hl;have ho':(s.heap.push { cls:=.type "dict",data:=.dict #[] }).get? l=some o:=I0 _ ho;refine⟨hnew.typeIs,F.args_dict_init_2 _ _,?_⟩;unfold L6.«dict.__init__»;refine o0 ?_;unfold L6.Dict.selfAndRest;refine o0 (wpAny_notOrdered_dict hnew.typeIs ?_);show L3 _ _ (ag9 (s.heap.objs.size,[W1 l])) _ _ _;refine J3 ?_;show L3 _ _ (L6.Dict.updateFrom "dict.__init__" s.heap.objs.size (.ref l) [] .none) _ _ _;unfold L6.Dict.updateFrom;refine o0 (ai1 (T:="tuple") ⟨o,ho',hc⟩ ?_);rw[if_pos (by decide)];have hh2:A.in1.in1.handled=none:=hh;refine o0 (wW ho' hc hd hdict hh2 λh1 tk1 e1 hx=>?_);have ht1:h1.IsTuple l its:=⟨o,hx.keeps _ _ ho',hc,m,hd⟩;have hd1:h1.DictOf knd s.heap.objs.size []:=by
  obtain⟨q,es,ep,hq,rest⟩:=hnew;exact⟨q,es,ep,hx.keeps _ _ hq,rest⟩
 have hsz:s.heap.objs.size<h1.objs.size:=by
  obtain⟨q,es,ep,hq,rest⟩:=hd1;exact K7 hq
 have hold:∀b q,s.heap.get? b=some q->h1.get? b=some q:=λb q e=>hx.keeps _ _ (I0 _ e);rw[if_pos (show(Option.isNone (none:Option J0))=true from rfl)];refine o0 (ae9 (o0 (aa2 ht1 ?_)));refine J3 ⟨ag4 iR _,?_⟩;have hb:∀(i:Nat) (kv:K×J0),kvs[i]?=some kv->ux its i<s.heap.objs.size/\nq knd s.heap (ux its i) kv:=λi kv hi=>by
  obtain⟨b,e,q⟩:=hit i kv hi;have eb:ux its i=b:=by unfold ux;rw[e]
  rw[eb];obtain⟨key,⟨ob,g1,_⟩,_⟩:=id q;exact⟨K7 g1,q⟩
 have hget:∀i,i<its.size->∃kv,kvs[i]?=some kv:=λi hi=>⟨kvs[i]'(by lia),J1 (by lia)⟩;refine A2 (n:=its.size) ((Walks.tuple (A:=A.in1.in1) hh2 h1.objs.size l (L7 (ak4 hlt hsz)) its).toS) s.heap.objs.size (by
  simp only[L5,P0,or_false,not_or];exact⟨L7 hsz,ab9 hlt⟩) kvs hn hz hnd (ux its) (λi v hi=>?_) (λi hi=>?_) _ 0 _ 0 rfl (Q5 _) ⟨⟨_,K6 _ rfl,rfl,rfl⟩,ht1.push _⟩ (hd1.push _) (λj kv hj=>?_) λs' hm hS'=>?_
 ·have hi':i<its.size:=(X7.mp hi).1;obtain⟨kv,hkv⟩:=hget i hi';obtain⟨b,e,_⟩:=hit i kv hkv;have e':its[i]?=some v:=hi;rw[e]at e';have eb:ux its i=b:=by unfold ux;rw[e]
  rw[eb];exact(R7 e').symm
 ·obtain⟨kv,hkv⟩:=hget i hi;have:=(hb i kv hkv).1;simp only[L5,P0,or_false,not_or];exact⟨L7 this,L7 (ak4 this hsz)⟩
 ·obtain⟨key,⟨ob,g1,g2,gm,g3⟩,g4⟩:=(hb j kv hj).2;exact⟨key,⟨ob,I0 _ (hold _ _ g1),g2,gm,g3⟩,g4⟩
 ·obtain⟨h',g',d',tk',os'⟩:=s';have eg:g'=s.gens:=hm.gens;have ed:d'=s.drawn:=hm.drawn;have eo:os'=s.os:=hm.os;subst eg;subst ed;subst eo;refine⟨rfl,h h' tk' hS' λb q e=>?_⟩;have hbl:=K7 e;exact hm.heap b q (by simp only[L5,P0,or_false,not_or];exact⟨L7 hbl,L7 (ak4 hbl hsz)⟩) (I0 _ (hold _ _ e))
end
noncomputable def uA:List D->Option (List (Key×D))
 |[]=>some []
 |.tup [.str k,d]::ds=>(uA ds).map λl=>(.inr k,d)::l
 |_=>none
def sG:D->Option D
 |.tup ds=>(uA ds).bind λkvs=>if(kvs.map (·.1)).Nodup then some (sM kvs)else none
 |_=>none
theorem Bb{ds:List D}{kvs:List (Key×D)}(h:uA ds=some kvs)(n:(kvs.map (·.1)).Nodup):sG (.tup ds)=some (sM kvs):=by
 simp only[sG,h,Option.bind_some,if_pos n]
section
variable{X:Cx}{af:List (K4×Obj)}{σ:St}{H:Hp}{s:J4}{M:DH}
theorem Cc(I:Inv X af σ H s)(hr:HR X.K M H):∀(ds:List D) (vs:List V) (its:List J0) (kvs:List (Key×D)),aq X.K M H ds vs->ay vs its->uA ds=some kvs ->
  ∃(ws:List V) (us:List J0),aq X.K M H (kvs.map (·.2)) ws/\ay ws us/\kvs.length=its.length/\us.length=its.length/\∀(i:Nat) (kv:Key×J0),((kvs.map (·.1)).zip us)[i]?=some kv->∃b,its[i]?=some (W1 b)/\nq (bB X.prog X.w) s.heap b kv
 |[],vs,its,kvs,rl,rv,e=>by
  cases e;simp only[aq]at rl;subst rl;cases rv;exact⟨[],[],aq.nil,.nil,rfl,rfl,λi kv h=>by simp at h⟩
 |d::ds,vs,its,kvs,rl,rv,e=>by
  simp only[aq]at rl;obtain⟨v,vs',rfl,r1,rl'⟩:=rl;cases rv with
  |@cons _ u _ its' ru rv' =>
   cases d with
   |tup es =>
    cases es with
    |nil=>cases e
    |cons e1 es =>
     cases e1 with
     |str k =>
      cases es with
      |nil=>cases e
      |cons d2 es =>
       cases es with
       |cons _ _=>cases e
       |nil =>
        simp only[uA]at e;obtain⟨kvs',ek,rfl⟩:=Option.map_eq_some_iff.mp e;obtain⟨ws,us,h1,h2,h3,h4,h5⟩:=Cc I hr ds vs' its' kvs' rl' rv' ek;simp only[Rep]at r1;obtain⟨b,xs,rfl,ta,rx⟩:=r1;simp only[aq]at rx;obtain⟨x1,_,rfl,rx1,x2,_,rfl,rx2,rfl⟩:=rx;cases(show u=W1 b from ru);obtain⟨its2,rv2,tn,_⟩:=I.tupN ta.sq;obtain⟨u1,u2,rfl,ru1,ru2⟩:=ay.two rv2;simp only[Rep]at rx1;subst rx1;refine⟨x2::ws,u2::us,aq.cons rx2 h1,.cons ru2 h2,by simp[h3],by simp[h4],λi kv hi=>?_⟩;cases i with
        |zero =>
         simp only[K2,W0,W9,ad3]at hi;subst hi;exact⟨b,rfl,u1,tn.tup,ki (k:=.inr k) ru1⟩
        |succ i =>
         simp only[K2,W0,S0]at hi;obtain⟨c,g1,g2⟩:=h5 i kv hi;exact⟨c,by rw[S0];exact g1,g2⟩
     |_=>cases e
   |_=>cases e
theorem vi{α β γ:Type}:∀{l:List (α×β)}{us:List γ},us.length=l.length->(((l.map (·.1)).zip us).map (·.1))=l.map (·.1)
 |[],[],_=>rfl
 |a::l,u::us,h=>by
  simp only[K2,W0];rw[vi (by simpa using h)]
theorem zi{κ:Type}:∀{ks:List κ}{ws:List V}{us:List J0},ay ws us->ks.length=us.length->KV (ks.zip ws) (ks.zip us)
 |[],_,_,_,_=>.nil
 |k::ks,_,_,.nil,h=>by simp at h
 |k::ks,_,_,.cons r rv,h=>.cons ⟨rfl,r⟩ (zi rv (by simpa using h))
theorem Ed(hc:X.calm=true):bO X (.type "dict") (ma sG):=by
 intro af s σ H M xs us ds dz Q I hr rv rp e k;obtain⟨d,rfl,e0⟩:=cw e;clear e;obtain⟨v,rfl,r⟩:=kh rp;obtain⟨u,rfl,ru⟩:=ay.one rv;cases d with
 |tup ds =>
  simp only[sG]at e0;obtain⟨kvs,ek,e1⟩:=Option.bind_eq_some_iff.mp e0
  by_cases hn:(kvs.map (·.1)).Nodup
  ·rw[if_pos hn]at e1;cases e1;obtain⟨a,vs,rfl,sq,rl⟩:=r;cases(show u=W1 a from ru);obtain⟨its,rv',tn,hz⟩:=I.tupN sq;obtain⟨ws,us,h1,h2,h3,h4,h5⟩:=Cc I hr ds vs its kvs rl rv' ek;have cJ:=rv'.length;refine l9 (knd:=bB X.prog X.w) (kvs:=(kvs.map (·.1)).zip us) (I.ok.hd hc) tn (by simp[h3,h4]) (by simp;lia) (by rw[vi (by lia)];exact hn) (λi kv hi=>by
    obtain⟨b,g1,g2⟩:=h5 i kv hi;exact⟨b,by simpa using g1,g2⟩) λh' tk hd' hk'=>?_
   obtain⟨ob,es,ep,hob,rest⟩:=id hd';have hp:=I.hok.fresh (J6 s.heap.objs.size);have hwl:ws.length=kvs.length:=by have:=h2.length;lia
   have I1:=I.laid (a:=s.heap.objs.size) (o:=.frz ob (.dK ((kvs.map (·.1)).zip ws))) (h':=h') (t':=tk) hk' (J6 _) ⟨hob,by simp[hwl];lia,by
    have:=I.big;exact beq_false_of_ne (ab9 this),_,zi h2 (by simp;lia),hd'⟩
   refine⟨.ref s.heap.objs.size,_,I1,rfl,k _ _ (Ext.new hr hp) (hr.new hp) ?_⟩;unfold sM;simp only[Rep];exact⟨_,ws,rfl,⟨by simp[hwl],⟨ob,bx⟩,hr.fresh hp⟩,h1.ext (Ext.new hr hp)⟩
  ·rw[if_neg hn]at e1;cases e1
 |_=>cases e0
end
theorem nbh{op:ao3}{b:N8}(h:op≠.In:=by decide)(h2:op≠.NotIn:=by decide):Z3 op b=false:=oh b h h2
theorem fsc{N P:List Str}{sc:af8}(a:sc.kind=.function:=by exact rfl)(b:sc.isCoroutine=false:=by exact rfl)(c:sc.isGenerator=false:=by exact rfl)(d:N.Nodup:=by decide +kernel)(e:N.take P.length=P:=by exact rfl)
  (f:∀x∈P,sc.names.lookup x=some .local∨sc.names.lookup x=some .cell:=by decide +kernel) (g:∀y∈sc.names,y.2≠.free:=by decide +kernel):aw N P sc:=⟨a,b,c,d,e,f,g⟩
section
variable{X:Cx}{e:N8}{es:List N8}{t:TAd}{pos p:Pos}{x:Str}{j k n:Nat}{S:SpD}
theorem qd(F:FnD X.prog X.w X.K X.mg X.base x j n S)(hr:de k X.A)(ha:QAd X (e::es) t)(h:j<=k:=by decide)(hg:Gl X x:=by exact rfl)(hdb:(x==("__debug__":Str))=false:=by decide)(he:K8 (e::es) X.env=(false,ad7 e X.env)::K8 es X.env:=by rfl)(hpl:(ab1 pos (K8 es X.env)).any (·.1)=false:=by rfl):
  QEd X (.Call (.Name x p) (e::es) [] pos) (nZ n S t):=qc F (hr.mono h) hg ha hdb he hpl
end
def txt:J0->Str|.str x _=>x|_=>default
theorem zT(t:P2)(n:Nat):(t.orStandIn n).led=t.led:=by unfold P2.orStandIn;split<;>rfl
theorem uh(t:P2)(es:Array (Int×J0))(h:Int)(x:J0):(layNew t es h x).2.1.led=t.led:=by
 unfold layNew
 split
 ·exact zT _ _
 ·rfl
theorem mQ{t t':P2}{hs:Array Int}{n:Nat}{o:Array Nat}(e:t.relaid hs n=some (t',o)):t'.led=t.led/\t'.plain=t.plain:=by
 unfold P2.relaid P2.laid at e;cases q:P2.layClean (P2.sizeAbove n-1) hs with
 |none=>rw[q]at e;cases e
 |some w=>rw[q]at e;cases e;exact⟨rfl,rfl⟩
theorem qP(t:P2)(es:Array (Int×J0))(n:Nat):(ao0 t es n).2.1.led=t.led:=by
 unfold ao0
 split
 ·rename_i e;dsimp only;split
  ·exact(mQ e).1
  ·rfl
 ·rfl
theorem mU(t:P2)(es:Array (Int×J0))(n:Nat)(z:t.plain=false):(ao0 t es n).2.1.plain=false:=by
 unfold ao0
 split
 ·rename_i e;dsimp only;split
  ·rw[(mQ e).2];exact z
  ·rfl
 ·rfl
section
variable{prog:N4}{w:S2}{A:P5}{E:J0->J4->Prop}{s:J4}
noncomputable def byT(w:S2):Bool:=w.params.followText "set-order"
def ElT(prog:N4)(w:S2)(l:List (Int×J0)):Prop:=∀e∈l,∃x t,e=((strKind prog w).hash x,.str x t)
theorem ElT.of{l:List (Int×J0)}(h:ElT prog w l):ElemsOf (strKind prog w) l:=λe he=>by
 obtain⟨x,t,rfl⟩:=h e he;exact⟨⟨x,ar0 _ _ _ _,rfl⟩,rfl⟩
structure t5(prog:N4) (w:S2) (h:N0) (a:K4) (o:Obj) (es:Array (Int×J0)) (ep:Nat) (t:P2):Prop where
 get:h.get? a=some o
 ex:o.ExactSet
 data:o.data=.set es ep t
 el:ElT prog w es.toList
 nd:(es.toList.map λe=>txt e.2).Nodup
 room:es.size<af7
 fit:t.fits es.size=true
 led:t.led=!byT w
 pl:es.size≠0->t.plain=false
def gY(prog:N4)(w:S2)(h:N0)(a:K4)(xs:List Str):Prop:=∃o es ep t,t5 prog w h a o es ep t/\(es.toList.map λe=>txt e.2).Perm xs
theorem gY.mono{h h':N0}{a:K4}{xs:List Str}(z:gY prog w h a xs)(k:∀o,h.get? a=some o->h'.get? a=some o):gY prog w h' a xs:=by
 obtain⟨o,es,ep,t,p,q⟩:=z;exact⟨o,es,ep,t,⟨k _ p.get,p.ex,p.data,p.el,p.nd,p.room,p.fit,p.led,p.pl⟩,q⟩
theorem gY.perm{h:N0}{a:K4}{xs ys:List Str}(z:gY prog w h a xs)(k:xs.Perm ys):gY prog w h a ys:=by
 obtain⟨o,es,ep,t,p,q⟩:=z;exact⟨o,es,ep,t,p,q.trans k⟩
theorem Df{x:Str}{v:J0}(h:(strKind prog w).is x v=true):∃t,v=.str x t:=by
 cases v<;>simp[PySem.strKind,J0.isStrOf]at h
 rename_i y t;exact⟨t,by rw[h]⟩
theorem t5.mem{h:N0}{a:K4}{o:Obj}{es:Array (Int×J0)}{ep:Nat}{t:P2}(p:t5 prog w h a o es ep t)(x:Str):
  (∃e∈es.toList,(strKind prog w).is x e.2=true)↔x∈es.toList.map λe=>txt e.2:=by
 constructor
 ·rintro⟨e,he,q⟩;obtain⟨t,z⟩:=Df q;exact N7.mpr ⟨e,he,by rw[z];rfl⟩
 ·intro q;obtain⟨e,he,z⟩:=N7.mp q;obtain⟨y,t,rfl⟩:=p.el e he;have:y=x:=z;subst this;exact⟨_,he,ar0 _ _ _ _⟩
theorem pb{h:N0}{a:K4}{o:Obj}{es:Array (Int×J0)}{ep:Nat}{t:P2}(ho:h.get? a=some o)(hd:o.data=.set es ep t)(es':Array (Int×J0))(t':P2):
  (h.update a (ai4 es' t')).get? a=some { o with data:=.set es' (ep+1) t' }:=by
 have:=N0.get?_update_self (ai4 es' t') ho (by rw[as6 es' t' hd];rfl);rw[as6 es' t' hd]at this;exact this
theorem nM{l l':List (Int×J0)}(h:l.Perm l'):(l.map λe=>txt e.2).Perm (l'.map λe=>txt e.2):=h.map _
theorem t5.laid{h h':N0}{a:K4}{o:Obj}{es es':Array (Int×J0)}{ep ep':Nat}{t t':P2}(p:t5 prog w h a o es ep t)
  (g:h'.get? a=some { o with data:=.set es' ep' t' }) (q:es'.toList.Perm es.toList) (f:t'.fits es'.size=true) (l:t'.led=t.led) (z:es'.size≠0->t'.plain=false):t5 prog w h' a { o with data:=.set es' ep' t' } es' ep' t':=by
 have sz:es'.size=es.size:=by rw[<-L1,q.length_eq,L1]
 exact⟨g,p.ex,rfl,λe he=>p.el e (q.mem_iff.mp he),((nM q).nodup_iff).mpr p.nd,by rw[sz];exact p.room,f,l.trans p.led,z⟩
theorem Cu{g:Bool->Sem Unit}(hg:∀(b:Bool) (s₁:J4) (Q':Unit->J4->Prop),Q' () s₁->L3 (N9 prog w) A (g b) Q' E s₁)
  {a:K4} {o:Obj} {es:Array (Int×J0)} {ep:Nat} {t:P2} (ho:s.heap.get? a=some o) (hex:o.ExactSet) (hd:o.data=.set es ep t)
  {es1:Array (Int×J0)} {t2:P2} (el:ElT prog w es1.toList) (nd:(es1.toList.map λe=>txt e.2).Nodup) (hb1:es1.size<af7) (hf2:t2.fits es1.size=true) (ld:t2.led=!byT w) (pl:t2.plain=false)
  {wasDummy:Bool} {R:Option Bool->J4->Prop}
  (h:∀h',Q9 a s.heap h'->gY prog w h' a (es1.toList.map λe=>txt e.2)->R (some true) { s with heap:=h' }) :
  L3 (N9 prog w) A (do
    storeSet a es1 t2
    if(!wasDummy&&t2.tooFull)=true then do
      g (ao0 t2 es1 (ac7 es1.size)).2.2
      storeSet a (ao0 t2 es1 (ac7 es1.size)).1 (ao0 t2 es1 (ac7 es1.size)).2.1
      ag9 (some true)
     else ag9 (some true)) R E s:=by
 refine o0 (aj5 ho hd ?_ (aj6 hb1));have ho1:=pb ho hd es1 t2;have hS1:t5 prog w (s.heap.update a (ai4 es1 t2)) a { o with data:=.set es1 (ep+1) t2 } es1 (ep+1) t2:=⟨ho1,hex,rfl,el,nd,hb1,hf2,ld,λ_=>pl⟩;have hsb1:=Z0 s.heap a (ai4 es1 t2)
 split
 ·have hp:=relayAll_perm t2 es1 (ac7 es1.size);have hfr:=relayAll_fits t2 es1 (ac7 es1.size);have hl:=qP t2 es1 (ac7 es1.size);have hpl:=mU t2 es1 (ac7 es1.size) pl;generalize hRl:ao0 t2 es1 (ac7 es1.size)=Rl at hp hfr hl hpl ⊢;obtain⟨es2,t3,gave2⟩:=Rl;dsimp only at hp hfr hl hpl ⊢;have hsz:es2.size=es1.size:=by rw[<-L1,hp.length_eq,L1]
  have hb2:es2.size<af7:=by rw[hsz];exact hb1
  refine o0 (hg _ _ _ ?_);refine o0 (aj5 ho1 rfl ?_ (aj6 hb2));have ho2:=pb (h:=s.heap.update a (ai4 es1 t2)) ho1 rfl es2 t3;exact J3 (h _ (hsb1.trans (Z0 _ a _)) ⟨_,_,_,_,hS1.laid ho2 hp hfr hl (λ_=>hpl),nM hp⟩)
 ·exact J3 (h _ hsb1 ⟨_,_,_,_,hS1,.refl _⟩)
theorem Gv{a:K4}{xs:List Str}{x:Str}{tk:Tok}{Q:Bool->J4->Prop}(hS:gY prog w s.heap a xs)(hroom:xs.length+1<af7)
  (h:∀b h',Q9 a s.heap h'->gY prog w h' a (if x∈xs then xs else xs++[x])->Q b { s with heap:=h' }) :
  L3 (N9 prog w) A (ao6 a (.str x tk) ((strKind prog w).hash x)) Q E s:=by
 obtain⟨o,es,ep,t,p,pm⟩:=hS;have hkey:=ar0 prog w x tk;have hel:=p.el.of;have hn:es.size=xs.length:=by rw[<-L1,<-pm.length_eq,u8]
 have hb1:es.size+1<af7:=by rw[hn];exact hroom
 unfold ao6 setAddHashedIn;refine U4 (o0 (ad6 p.get p.data p.fit ?_));dsimp only;rw[byScan_of rfl p.room hel];simp only[↓reduceIte];unfold setAddByScan;refine o0 ?_;refine o0 (ae9 ?_);refine o0 (wpAny_setScan_of hkey p.get p.data p.fit hel ?_);cases hr:List.findIdx? (λe=>(strKind prog w).is x e.2) es.toList with
 |some j =>
  dsimp only;obtain⟨hj,hpj,_⟩:=List.findIdx?_eq_some_iff_getElem.mp hr;have hx:x∈xs:=pm.mem_iff.mp ((p.mem x).mp ⟨es.toList[j],P7 hj,hpj⟩);refine J3 (J3 ?_);have e:s={ s with heap:=s.heap }:=by cases s;rfl
  rw[e];exact h _ s.heap (Q9.refl a s.heap) (by rw[if_pos hx];exact⟨o,es,ep,t,p,pm⟩)
 |none =>
  dsimp only;have hx:x∉es.toList.map λe=>txt e.2:=λq=>by
   obtain⟨e,he,z⟩:=(p.mem x).mpr q;have:=List.findIdx?_eq_none_iff.mp hr e he;rw[z]at this;exact Bool.noConfusion this
  have hx':x∉xs:=λq=>hx (pm.mem_iff.mpr q);have hgw:∀(b:Bool) {s₁:J4} {Q':Unit->J4->Prop},Q' () s₁->L3 (N9 prog w) A (match b with|true=>rule "set.scan.the-table-gave-way" |false=>ag9 ()) Q' E s₁ :=
   λb s₁ Q' hq=>by cases b<;>first|exact J3 hq|exact ae9 hq
  have hperm:=layNew_perm t es ((strKind prog w).hash x) (.str x tk);have hfits:=layNew_fits t es ((strKind prog w).hash x) (.str x tk);have hled:=uh t es ((strKind prog w).hash x) (.str x tk);generalize hL:layNew t es ((strKind prog w).hash x) (.str x tk)=L at hperm hfits hled ⊢;obtain⟨es1,t1,wasDummy,gave⟩:=L;dsimp only at hperm hfits hled ⊢;rw[Array.toList_push]at hperm;have hel1:ElT prog w es1.toList:=λe he=>by
   rcases K1.mp (hperm.mem_iff.mp he)with he|he
   ·exact p.el e he
   ·rw[K0]at he;exact⟨x,tk,he⟩
  have hm:(es1.toList.map λe=>txt e.2).Perm ((es.toList.map λe=>txt e.2)++[x]):=by
   have:=nM hperm
   rwa [O1]at this
  have hnd:(es1.toList.map λe=>txt e.2).Nodup:=by
   rw[hm.nodup_iff,aa8];exact⟨p.nd,by simp,λa ha b hb=>by rw[K0]at hb;subst hb;intro q;subst q;exact hx ha⟩
  have hb1':es1.size<af7:=by rw[<-L1,hperm.length_eq,J9,L1];simpa using hb1
  refine o0 (hgw _ ?_);have hend:∀h',Q9 a s.heap h'->gY prog w h' a (es1.toList.map λe=>txt e.2)->Q true { s with heap:=h' }:=λh' hsb hS' =>
   h _ h' hsb (by rw[if_neg hx'];exact hS'.perm (hm.trans (pm.append_right _)))
  split
  ·refine o0 ?_;rw[hashByValue_scannable 8 rfl];refine J3 ?_;refine Cu (t2:={ t1 with plain:=false }) ?_ p.get p.ex p.data hel1 hnd hb1' (P2.fits_plain_off hfits) (hled.trans p.led) rfl ?_
   ·intro b s₁ Q' hq;cases b<;>first|exact J3 hq|exact ae9 hq
   ·intro h' hsb hS';dsimp only;exact J3 (hend h' hsb hS')
  ·rename_i hp;refine o0 (J3 ?_);simp only[↓reduceIte];refine Cu ?_ p.get p.ex p.data hel1 hnd hb1' hfits (hled.trans p.led) (by simpa using hp) ?_
   ·intro b s₁ Q' hq;cases b<;>first|exact J3 hq|exact ae9 hq
   ·intro h' hsb hS';dsimp only;exact J3 (hend h' hsb hS')
end
def lE(xs:List Str)(x:Str):List Str:=if x∈xs then xs else xs++[x]
def gH(xs:List Str):List Str:=xs.foldl lE []
theorem wa(xs:List Str)(x:Str):(lE xs x).length<=xs.length+1:=by unfold lE;split<;>simp
theorem kY:∀(xs zs:List Str),(xs.foldl lE zs).length<=zs.length+xs.length
 |[],_=>J6 _
 |x::xs,zs=>by
  have:=kY xs (lE zs x);have:=wa zs x;simp only[af4,O3];lia
theorem zd(xs:List Str):(gH xs).length<=xs.length:=by have:=kY xs [];simpa[gH]using this
theorem wO(xs:List Str)(i:Nat)(h:i<xs.length):gH (xs.take (i+1))=lE (gH (xs.take i)) xs[i]:=by
 rw[List.take_succ_eq_append_getElem h,gH,List.foldl_append];rfl
section
variable{prog:N4}{w:S2}{A:P5}{R:ar9->J4->Prop}{I:K4}{fp wr:List K4}{G:Array an6->Array an6->Prop}{P:Nat->J0->Prop}{St:Nat->J4->Prop}
theorem GP{xs:List Str}(W:WalksS prog w A.in1 I fp wr G xs.length P St)(S:K4)(hSf:S∉fp)
  (hval:∀i v (h:i<xs.length),P i v->∃t,v=.str xs[i] t) (hb:xs.length+1<af7) :
  ∀(k i:Nat) (s:J4),xs.length-i=k->i<=xs.length->St i s->gY prog w s.heap S (gH (xs.take i)) ->
   (∀s',Moved (S::wr) G s s'->gY prog w s'.heap S (gH xs)->R (.ok (.ret .none)) s') ->
   ah7 (N9 prog w) A (.builtin "set.update.loop" ⟨[.ref S,.ref I],[]⟩) R s:=by
 have hSw:S∉wr:=λh=>hSf (W.sub _ h);have hsub:∀b∈wr,b∈S::wr:=λb hb=>O6 _ hb;intro k
 induction k with
 |zero =>
  intro i s hk hi hst hS hR;have hin:i=xs.length:=by lia
  subst hin;refine W3 ae7 ?_;rw[U2 X0 _];show L3 _ A.in1 (an1 (.ref I) >>= _) _ _ s;refine o0 (W.done s _ _ hst λs' hm=>?_);show L3 _ A.in1 (ret X8) _ _ s';rw[W5]at hS;exact J3 (hR s' (hm.mono hsub) (hS.mono λo e=>hm.heap S _ hSw e))
 |succ k ih =>
  intro i s hk hi hst hS hR;have hlt:i<xs.length:=by lia
  refine W3 ae7 ?_;rw[U2 X0 _];show L3 _ A.in1 (an1 (.ref I) >>= _) _ _ s;refine o0 (W.item i s _ _ hlt hst λv s' hP hst' hm=>?_);obtain⟨t,rfl⟩:=hval i v hlt hP;have hS':gY prog w s'.heap S (gH (xs.take i)):=hS.mono λo e=>hm.heap S _ hSw e;show L3 _ A.in1 (aq5 [ar4 xs[i] t] (setAdd S (.str xs[i] t)) >>= _) _ _ s';refine o0 (U4 ?_);unfold setAdd;refine U4 ?_;refine o0 ((strKind prog w).pyHash (k:=xs[i]) (ar0 _ _ _ _) ?_);have hroom:(gH (xs.take i)).length+1<af7:=by have:=zd (xs.take i);rw[N2]at this;lia
  refine Gv (s:={ s' with toks:=s'.toks+1 }) hS' hroom λb h' hsb hS2=>?_;have hSi:gY prog w h' S (gH (xs.take (i+1))):=by rw[wO xs i hlt];exact hS2
  refine J3 ⟨ag4 X0 _,ih (i+1) _ (by lia) hlt (W.frame _ s' _ _ hst' (ah8 _) λb hb o e=>?_) hSi λs'' hm'' hS''=>?_⟩
  ·rw[hsb.2 b (λh:b=S=>hSf (by rw[<-h];exact hb))];exact e
  ·refine hR s'' (Moved.trans W.gtrans ((hm.mono hsub).then_heap (ah8 _) λb o hb e=>?_) hm'') hS'';rw[hsb.2 b (λh:b=S=>hb (by rw[h];exact R4))];exact e
end
section
variable{prog:N4}{w:S2}{A:P5}{E:J0->J4->Prop}{s:J4}
abbrev fK(w:S2):Obj:={ cls:=.type "set",dict:=none,data:=.set #[] 0 (.fresh 0 0 (!byT w)) }
theorem Ec{h:N0}{a:K4}(g:h.get? a=some (fK w)):gY prog w h a [] :=
 ⟨_,#[],0,_,⟨g,⟨rfl,rfl,rfl⟩,rfl,λe he=>by simp at he,by simp,by decide,rfl,rfl,λq=>absurd rfl q⟩,by simp⟩
theorem rj(a:J0){Q₁:J0->J4->Prop}(h:Q₁ (.ref s.heap.objs.size) { s with heap:=s.heap.push (fK w) }):
  ah7 (N9 prog w) A (.call (.builtin "set.__new__") ⟨[.type "set",a],[]⟩) (wants Q₁ E) s:=by
 refine al8 ?_;show L3 _ A.in1 (do checkBuiltinCall "set.__new__" ⟨[.type "set",a],[]⟩;again (.builtin "set.__new__" ⟨[.type "set",a],[]⟩)) _ _ s;refine o0 (wpAny_of_eq (PySem.F.newCall_set_1 a) (J3 ⟨ag4 PySem.F.plain_set_new _,W3 PySem.F.entry_set_new ?_⟩));rw[U2 PySem.F.plain_set_new _];unfold L6.«set.__new__» L6.Frozenset.newClass;have hsub:=sub_set_self;obtain⟨hp,g,d,tk,os⟩:=s;dsimp only
 wp_walk
 refine wpAny_askSetting (J3 ?_);dsimp only;simp only[newObj];refine o0 (wpAny_alloc (J3 ?_));exact J3 h
set_option maxHeartbeats 3200000 in
theorem wB{l:K4}{items:Array J0}{xs:List Str}{Q:J0->J4->Prop}
  (hh:A.handled=none) (hl:s.heap.IsList l items) (hn:items.size=xs.length) (hi:∀i (h:i<xs.length),∃t,items[i]?=some (.str xs[i] t)) (hb:xs.length+1<af7)
  (h:∀(h':N0) (tk:Nat),gY prog w h' s.heap.objs.size (gH xs)->(∀b o,s.heap.get? b=some o->h'.get? b=some o)->Q (.ref s.heap.objs.size) { s with heap:=h',toks:=tk }) :
  L3 (N9 prog w) A (call (.type "set") [.ref l]) Q E s:=by
 obtain⟨c,tl,hmro⟩:=P4.mro;have hmade:=P4.made;have hsub:=P4.sub;refine wpAny_call (al8 ?_);show L3 _ _ (callAny (.type "set") _) _ _ _;refine J3 ⟨Code.quiet_builtin _ (by decide +kernel),W3 PySem.F.entry_type_call ?_⟩;rw[P5.under_plain (weight_type_call_type "set" [.ref l] []) rfl];have h1:=P4.notType;have h2:=P4.canCreate;have hct:=PySem.F.typeCall_set_1 (.ref l)
 repeat (any_goals (first|assumption|wp_step))
 refine ad8 (rj (.ref l) (E:=E) (Q₁:=λobj s₁=>obj=.ref s.heap.objs.size/\s₁={ s with heap:=s.heap.push (fK w) }) ⟨rfl,rfl⟩) λr s₁ hr=>?_;cases r with
 |error e=>exact hr
 |ok fl =>
  cases fl with
  |ret obj =>
   obtain⟨rfl,rfl⟩:=hr;have hS:(s.heap.push (fK w)).get? s.heap.objs.size=some (fK w):=K6 _ rfl;have hT:J4.TypeIs { s with heap:=s.heap.push (fK w) } (.ref s.heap.objs.size) "set":=⟨_,hS,rfl⟩;have hli:=P4.init.lookup;have hbi:=P4.init.bind (.ref s.heap.objs.size)
   repeat (any_goals (first|assumption|wp_step))
   refine ad8 (codeAny_call_builtin (R:=wants (λr s₂=>r=.none/\∃h' tk,s₂={ s with heap:=h',toks:=tk } /\
     gY prog w h' s.heap.objs.size (gH xs)/\(∀b o,s.heap.get? b=some o->h'.get? b=some o)) E) P4.init.plain PySem.F.entry_set_init (check_set_init_1 hT ?_)) λr₂ s₂ hr₂=>?_
   ·obtain⟨ol,hol,hcl,nl,hdl⟩:=hl;obtain⟨ocls,odict,odata,oslots⟩:=ol;simp only at hcl hdl;subst hcl;subst hdl;have hol':(s.heap.push (fK w)).get? l=some { cls:=.type "list",dict:=odict,data:=.seq items nl,slots:=oslots }:=I0 _ hol;have hsls:=PySem.F.sub_list_set;have hslf:=PySem.F.sub_list_frozenset;have hne:(al0 "list"==al0 "dict")=false:=by decide
    have hl1:(s.heap.push (fK w)).IsList l items:=⟨_,hol',rfl,nl,rfl⟩;unfold L6.«set.__init__» noKeywords L6.Frozenset.updateFrom;generalize hPI:ap2=PI
    wp_walk
    subst hPI;refine W7 hl1 ?_;refine o0 (wpAny_runValue ?_);have hlS:l<s.heap.objs.size:=K7 hol;have hh3:A.in1.in1.in1.handled=none:=by simp[hh]
    have hneI:l≠(s.heap.push (fK w)).objs.size:=by
     rw[V1];exact L7 (V8 hlS)
    have hSf:s.heap.objs.size∉[(s.heap.push (fK w)).objs.size,l]:=by
     rw[V1];simp only[L5,K0,P0,or_false,not_or];exact⟨L7 (ae8 _),ab9 hlS⟩
    have W:=(Walks.list (prog:=prog) (w:=w) hh3 _ l hneI items).toS;rw[hn]at W;refine GP (xs:=xs) W s.heap.objs.size hSf (λi v hlt hv=>?_) hb (xs.length-0) 0 _ (by lia) (Q5 _) ?St0 ?hS0 ?hR
    case St0=>exact⟨⟨_,K6 _ rfl,rfl,rfl⟩,(hl1.push _)⟩
    ·obtain⟨t,g⟩:=hi i hlt;have hv':items[i]?=some v:=hv;rw[g]at hv';exact⟨t,(R7 hv').symm⟩
    case hS0=>exact Ec (I0 _ hS)
    case hR =>
     intro s' hm hS';obtain⟨h',g',d',tk',os'⟩:=s';have eg:g'=s.gens:=hm.gens;have ed:d'=s.drawn:=hm.drawn;have eo:os'=s.os:=hm.os;subst eg;subst ed;subst eo;show L3 _ _ _ _ _ _;refine J3 ?_;show L3 _ _ (ret X8) _ _ _;refine J3 ⟨rfl,h',tk',rfl,hS',λb o e=>?_⟩;have hb:=K7 e;have hb1:b≠s.heap.objs.size:=L7 hb;have hb2:b≠(s.heap.push (fK w)).objs.size:=by
      rw[V1];exact L7 (V8 hb)
     exact hm.heap b o (by simp only[L5,K0,P0,or_false,not_or];exact⟨hb1,hb2⟩) (I0 _ (I0 _ e))
   ·cases r₂ with
    |error e=>exact hr₂
    |ok fl₂ =>
     cases fl₂ with
     |ret r =>
      obtain⟨rfl,h',tk,rfl,hS',hk'⟩:=hr₂
      repeat (any_goals (first|assumption|wp_step))
      exact h _ _ hS' hk'
     |_=>exact hr₂.elim
  |_=>exact hr.elim
end
end L2
namespace L2
open PySem
def f51(x:Nat):Nat:=5*x+1
def md:Nat->Nat->Nat
 |0,x=>x
 |n+1,x=>md n (f51 x)
theorem nk(m n x:Nat):md (m+n) x=md n (md m x):=by
 induction m generalizing x with
 |zero=>simp[md]
 |succ m ih=>rw[Nat.succ_add];simp only[md];exact ih _
theorem xI(k:Nat):∃a c,∀z,md (2 ^ k) z=z+2 ^ (k+2)*a*z+2 ^ k+2 ^ (k+1)*c:=by
 induction k with
 |zero=>exact⟨1,0,λz=>by simp[md,f51];lia⟩
 |succ k ih =>
  obtain⟨a,c,h⟩:=ih;generalize hp:2 ^ k=p at *
  have e1:2 ^ (k+1)=2*p:=by rw[ai5,hp,ak3]
  have e2:2 ^ (k+2)=4*p:=by rw[aq0,hp];lia
  have e3:2 ^ (k+1+2)=8*p:=by rw[show k+1+2=k+3 by lia,aq0,hp];lia
  have e4:2 ^ (k+1+1)=4*p:=e2;rw[e1,e3,e4];rw[e1,e2]at h;refine⟨a+2*p*a*a,c+p*a+2*p*a*c,λz=>?_⟩;rw[show 2*p=p+p by lia,nk,h,h]
  grind
theorem xD(k:Nat):∀x j,j<2 ^ k->∃n,n<2 ^ k/\md n x % 2 ^ k=j:=by
 induction k with
 |zero=>intro x j h;exact⟨0,by simp,by simp at h;simp[h,Nat.mod_one]⟩
 |succ k ih =>
  intro x j hj;obtain⟨a,c,hs⟩:=xI k;have pos:0<2 ^ k:=Nat.two_pow_pos k;have e1:2 ^ (k+1)=2*2 ^ k:=by rw[ai5,ak3]
  have e2:2 ^ (k+2)=2*(2*2 ^ k):=by rw[aq0];lia
  obtain⟨n,hn,he⟩:=ih x (j % 2 ^ k) (al1 _ pos);generalize hy:md n x=y at he;generalize hp:2 ^ k=p at *
  have hm:y % (2*p)=j∨(y+p) % (2*p)=j:=by
   rw[e1]at hj;have d1:=Nat.div_add_mod y (2*p);have d3:=al1 y (show 0<2*p by lia);have:y % (2*p) % p=y % p:=Nat.mod_mul_left_mod y 2 p;rw[he]at this;generalize y % (2*p)=r at *
   have q1:r=p*(r / p)+r % p:=(Nat.div_add_mod r p).symm;have q2:j=p*(j / p)+j % p:=(Nat.div_add_mod j p).symm;have r2:r / p<2:=Nat.div_lt_of_lt_mul (by lia);have j2:j / p<2:=Nat.div_lt_of_lt_mul (by lia);rw[this]at q1;have hy':(y+p) % (2*p)=(r+p) % (2*p):=by
    rw[<-d1,ao1,Nat.mul_add_mod]
   rw[hy'];have jl:j % p<p:=al1 _ pos;generalize j % p=u at *
   have two:∀q,q<2->q=0∨q=1:=λq h=>by lia
   have c1:=two _ r2;have c2:=two _ j2;rcases c1 with c1|c1<;>rcases c2 with c2|c2<;>rw[c1]at q1<;>rw[c2]at q2<;>simp only[Nat.mul_zero,Nat.mul_one,Nat.zero_add]at q1 q2
   ·left;lia
   ·right;rw[Nat.mod_eq_of_lt (by lia)];lia
   ·right;rw[show r+p=u+1*(2*p)by lia,Nat.add_mul_mod_self_right,Nat.mod_eq_of_lt (by lia)];lia
   ·left;lia
  rcases hm with hm|hm
  ·exact⟨n,by lia,by rw[e1,hy];exact hm⟩
  ·refine⟨n+p,by lia,?_⟩;rw[nk,hy,hs y,e1,e2];have:y+2*(2*p)*a*y+p+2*p*c=(y+p)+(2*a*y+c)*(2*p):=by grind
   rw[this,Nat.add_mul_mod_self_right];exact hm
end L2
namespace L2
open PySem PySem.SetTable
def pS(mask:Nat)(h:Int):Probe:={ j:=bits h % (mask+1),more:=runEnd mask (bits h % (mask+1))-bits h % (mask+1),i:=bits h % (mask+1),perturb:=bits h,dummy:=none }
def pA(mask:Nat)(p:Probe):Probe :=
 if p.more > 0 then { p with j:=p.j+1,more:=p.more-1 }
 else { p with j:=(leap mask p.i p.perturb).1,more:=runEnd mask (leap mask p.i p.perturb).1-(leap mask p.i p.perturb).1,i:=(leap mask p.i p.perturb).1,perturb:=(leap mask p.i p.perturb).2 }
def pth(mask:Nat)(h:Int):Nat->Probe
 |0=>pS mask h
 |n+1=>pA mask (pth mask h n)
def rs(mask:Nat)(h:Int):Nat->Nat×Nat
 |0=>(bits h % (mask+1),bits h)
 |n+1=>leap mask (rs mask h n).1 (rs mask h n).2
def atR(mask:Nat)(r:Nat×Nat):Probe:={ j:=r.1,more:=runEnd mask r.1-r.1,i:=r.1,perturb:=r.2,dummy:=none }
variable{mask:Nat}{h:Int}
theorem Dc(i:Nat):runEnd mask i-i<=9:=by unfold runEnd;split<;>lia
theorem qh{n:Nat}{r:Nat×Nat}(e:pth mask h n=atR mask r):∀q,q<=runEnd mask r.1-r.1->pth mask h (n+q)={ atR mask r with j:=r.1+q,more:=runEnd mask r.1-r.1-q }
 |0,_=>by rw[Nat.add_zero,e];rfl
 |q+1,hq=>by
  rw[<-ao1];show pA mask (pth mask h (n+q))=_;rw[qh e q (by lia)];unfold pA;rw[if_pos (show runEnd mask r.1-r.1-q > 0 by lia)];rfl
theorem yU:∀m,∃n,n<=10*m/\pth mask h n=atR mask (rs mask h m)
 |0=>⟨0,by lia,rfl⟩
 |m+1=>by
  obtain⟨n,hn,e⟩:=yU m;have hl:=Dc (mask:=mask) (rs mask h m).1;refine⟨n+(runEnd mask (rs mask h m).1-(rs mask h m).1)+1,by lia,?_⟩;show pA mask (pth mask h (n+_))=_;rw[qh e _ (J6 _)];unfold pA;rw[if_neg (by simp)];rfl
theorem A8:bits h<2 ^ 64:=by
 unfold bits;have:=S1 h (show(0:Int)<2 ^ 64 by decide);have:=T7 h (show(2 ^ 64:Int)≠0 by decide)
 lia
theorem xM:∀m,(rs mask h m).2=bits h / 32 ^ m
 |0=>by simp[rs]
 |m+1=>by
  show(rs mask h m).2 / 32=_;rw[xM m,Nat.div_div_eq_div_mul,ai5]
theorem GL(m:Nat):(rs mask h (13+m)).2=0:=by
 rw[xM];refine Nat.div_eq_of_lt (K5 A8 ?_);rw[aq0];exact R6 (by decide) (Nat.le_mul_of_pos_right (32 ^ 13) (Nat.pow_pos (by decide)))
theorem Cr:∀m,(rs mask h (13+m)).1 % (mask+1)=md m (rs mask h 13).1 % (mask+1)
 |0=>rfl
 |m+1=>by
  show(leap mask (rs mask h (13+m)).1 (rs mask h (13+m)).2).1 % _=_;unfold leap;rw[GL,nk m 1];show((rs mask h (13+m)).1*5+1+0 / 32) % (mask+1) % (mask+1)=(5*md m (rs mask h 13).1+1) % (mask+1);rw[Nat.mod_mod,Nat.zero_div,Nat.add_zero,Nat.add_mod,Nat.mul_mod,Cr m,<-Nat.mul_mod,<-Nat.add_mod,ak3]
theorem Cg(m:Nat):(rs mask h m).1<mask+1:=by
 cases m with
 |zero=>exact al1 _ (ao7 _)
 |succ m=>exact al1 _ (ao7 _)
theorem vn{k:Nat}(hk:mask+1=2 ^ k){j:Nat}(hj:j<=mask):∃m n,m<=mask+13/\n<=10*m/\(rs mask h m).1=j/\(pth mask h n).j=j:=by
 obtain⟨m,hm,e⟩:=xD k (rs mask h 13).1 j (by lia);rw[<-hk]at hm e;have e2:=Cr (mask:=mask) (h:=h) m;rw[e,Nat.mod_eq_of_lt (Cg _)]at e2;obtain⟨n,hn,en⟩:=yU (mask:=mask) (h:=h) (13+m);exact⟨13+m,n,by lia,hn,e2,by rw[en];exact e2⟩
theorem t7(n:Nat):(pth mask h n).j<=mask:=by
 have key:∀n,(pth mask h n).j+(pth mask h n).more<=mask/\(pth mask h n).dummy=none:=λn=>by
  have st:∀i,i<mask+1->i+(runEnd mask i-i)<=mask:=λi hi=>by unfold runEnd;split<;>lia
  induction n with
  |zero=>exact⟨st _ (al1 _ (ao7 _)),rfl⟩
  |succ n ih =>
   show(pA mask (pth mask h n)).j+(pA mask (pth mask h n)).more<=mask/\(pA mask (pth mask h n)).dummy=none;unfold pA
   split
   ·exact⟨by have:=ih.1;dsimp only;lia,ih.2⟩
   ·exact⟨st _ (al1 _ (ao7 _)),ih.2⟩
 have:=(key n).1
 lia
theorem Ds(n:Nat):(pth mask h n).dummy=none:=by
 induction n with
 |zero=>rfl
 |succ n ih =>
  show(pA mask (pth mask h n)).dummy=none;unfold pA
  split<;>exact ih
theorem EM{P:Nat->Prop}{n:Nat}(h:P n):∃m,m<=n/\P m/\∀l,l<m->¬ P l:=by
 induction n using Nat.strongRecOn with
 |_ n ih =>
  by_cases c:∃l,l<n/\P l
  ·obtain⟨l,hl,pl⟩:=c;obtain⟨m,hm,a,b⟩:=ih l hl pl;exact⟨m,by lia,a,b⟩
  ·exact⟨n,J6 _,h,λl hl pl=>c ⟨l,hl,pl⟩⟩
def Ri(xs:Array Nat):Prop:=∀i j,i<j->j<xs.size->xs.getD i 0<xs.getD j 0
theorem xC{xs:Array Nat}{i:Nat}(h:i<xs.size)(a b:Nat):xs.getD i a=xs.getD i b:=by simp[aa3,h]
theorem nK{xs:Array Nat}(up:Ri xs)(j:Nat):∀f lo hi,hi-lo<=f->lo<=hi->hi<=xs.size->(∀i,i<lo->xs.getD i 0<j)->(∀i,hi<=i->i<xs.size->j<=xs.getD i 0) ->
  below.go xs j f lo hi<=xs.size/\(∀i,i<below.go xs j f lo hi->xs.getD i 0<j)/\∀i,below.go xs j f lo hi<=i->i<xs.size->j<=xs.getD i 0
 |0,lo,hi,h1,h2,h3,a,b=>by
  obtain rfl:lo=hi:=by lia
  exact⟨h3,a,b⟩
 |f+1,lo,hi,h1,h2,h3,a,b=>by
  unfold below.go
  by_cases c:lo<hi
  ·rw[if_pos c];dsimp only
   by_cases d:xs.getD ((lo+hi) / 2) j<j
   ·rw[if_pos d];rw[xC (by lia) j 0]at d;refine nK up j f _ _ (by lia) (by lia) h3 (λi hi'=>?_) b;rcases R1 i ((lo+hi) / 2)with q|q
    ·exact ak4 (up i _ q (by lia)) d
    ·obtain rfl:i=(lo+hi) / 2:=by lia
     exact d
   ·rw[if_neg d];rw[xC (by lia) j 0]at d;refine nK up j f _ _ (by lia) (by lia) (by lia) a (λi h4 h5=>?_);rcases R1 ((lo+hi) / 2) i with q|q
    ·have:=up _ i q h5;lia
    ·obtain rfl:i=(lo+hi) / 2:=by lia
     lia
  ·rw[if_neg c];obtain rfl:lo=hi:=by lia
   exact⟨h3,a,b⟩
theorem tE{xs:Array Nat}(up:Ri xs)(j:Nat):below xs j<=xs.size/\(∀i,i<below xs j->xs.getD i 0<j)/\∀i,below xs j<=i->i<xs.size->j<=xs.getD i 0 :=
 nK up j _ _ _ (by lia) (Q5 _) (J6 _) (λi h=>by lia) (λi h1 h2=>by lia)
def Occ(xs:Array Nat)(j:Nat):Prop:=∃i,i<xs.size/\xs.getD i 0=j
theorem pR{t:P2}(up:Ri t.place){i j:Nat}(hi:i<t.place.size)(e:t.place.getD i 0=j):t.slot j=.live i:=by
 obtain⟨h1,h2,h3⟩:=tE up j;have:below t.place j=i:=by
  rcases Nat.lt_trichotomy (below t.place j) i with q|q|q
  ·have a:=h3 _ (J6 _) (by lia);have b:=up _ i q hi
   lia
  ·exact q
  ·have:=h2 i q;lia
 unfold slot;rw[this];have g:t.place[i]?=some j:=by rw[R0 hi,<-e];simp[aa3,hi]
 simp[g]
theorem uU{t:P2}(dm:t.dummies=#[]){j:Nat}(n:¬ Occ t.place j):t.slot j=.empty:=by
 unfold slot;have g:(t.place[below t.place j]?==some j)=false:=by
  cases q:t.place[below t.place j]? with
  |none=>rfl
  |some x =>
   obtain⟨hi,e⟩:=X7.mp q;simp only[beq_eq_false_iff_ne,ne_eq,ad3];intro z;exact n ⟨_,hi,by simp[aa3,hi,e,z]⟩
 rw[if_neg (by rw[g];decide),dm];rfl
theorem wD{xs:Array Nat}(up:Ri xs){mask:Nat}(few:xs.size<=mask):∃j,j<=mask/\¬ Occ xs j:=by
 refine W4 λc=>?_;have all:∀j,j<=mask->Occ xs j:=λj hj=>W4 λd=>c ⟨j,hj,d⟩;have key:∀j,j<=mask+1->j<=xs.size/\∀i,i<j->xs.getD i 0=i:=λj=>by
  induction j with
  |zero=>exact λ_=>⟨Q5 _,λi h=>by lia⟩
  |succ j ih =>
   intro hj;obtain⟨h1,h2⟩:=ih (by lia);obtain⟨i,hi,e⟩:=all j (by lia);have a:¬ i<j:=λq=>by have:=h2 i q;lia
   have b:i=j:=by
    rcases R1 j i with q|q
    ·have b1:=up j i q hi;rw[e]at b1;cases j with
     |zero=>lia
     |succ j =>
      have b2:=up j (j+1) (by lia) (by lia);have b3:=h2 j (by lia)
      lia
    ·lia
   subst b;refine⟨hi,λl hl=>?_⟩;rcases R1 l i with q|q
   ·exact h2 l q
   ·obtain rfl:l=i:=by lia
    exact e
 have:=(key (mask+1) (J6 _)).1
 lia
structure TB(t:P2) (hs:List Int):Prop where
 sz:t.place.size=hs.length
 up:Ri t.place
 le:∀i,i<t.place.size->t.place.getD i 0<=t.mask
 dm:t.dummies=#[]
 pw:∃k,3<=k/\t.mask+1=2 ^ k
 few:t.place.size<=t.mask
 pr:∀i h,hs[i]?=some h->∃n,(pth t.mask h n).j=t.place.getD i 0/\∀m,m<n->Occ t.place (pth t.mask h m).j
theorem TB.free{t:P2}{hs:List Int}(T:TB t hs)(h:Int):∃n,n<=10*(t.mask+13)/\¬ Occ t.place (pth t.mask h n).j/\∀m,m<n->Occ t.place (pth t.mask h m).j:=by
 obtain⟨j,hj,nj⟩:=wD T.up T.few;obtain⟨k,_,hk⟩:=T.pw;obtain⟨m,n,hm,hn,_,e⟩:=vn (mask:=t.mask) (h:=h) hk hj;obtain⟨n0,h1,h2,h3⟩:=EM (P:=λn=>¬ Occ t.place (pth t.mask h n).j) (n:=n) (by rw[e];exact nj);exact⟨n0,by lia,h2,λm hm=>W4 λd=>h3 m hm d⟩
theorem sD{t:P2}{hs:List Int}(T:TB t hs){h:Int}{n0:Nat}(f0:¬ Occ t.place (pth t.mask h n0).j)(f1:∀m,m<n0->Occ t.place (pth t.mask h m).j){ha:Nat->Int}:∀F n,n<=n0->n0-n<F ->
    ∃ m,n ≤ m ∧ m ≤ n0 ∧ (∀ l,n ≤ l → l < m → ∃ i,i < t.place.size ∧ t.place.getD i 0 = (pth t.mask h l).j ∧ ha i ≠ h) ∧
      ((m = n0 ∧ probe.go t ha h F (pth t.mask h n) = some (.empty (pth t.mask h n0).j none)) ∨
       (m<n0/\∃i,i<t.place.size/\t.place.getD i 0=(pth t.mask h m).j/\ha i=h/\probe.go t ha h F (pth t.mask h n)=some (.candidate (pth t.mask h m).j i (pth t.mask h (m+1)))))
  |0,n,h1,h2=>by lia
  | F + 1,n,h1,h2 => by
    rcases R1 n n0 with q|q
    · obtain ⟨i,hi,e⟩:=f1 n q;have es:=pR T.up hi e
      by_cases c:ha i=h
      · refine ⟨n,J6 _,h1,λl a b => by lia,.inr ⟨q,i,hi,e,c,?_⟩⟩;unfold probe.go;rw[es];dsimp only;rw[if_pos (by simpa using c)];rfl
      · obtain ⟨m,m1,m2,m3,m4⟩:=sD T f0 f1 (ha:=ha) F (n + 1) (by lia) (by lia);have eq:probe.go t ha h (F+1) (pth t.mask h n)=probe.go t ha h F (pth t.mask h (n+1)):=by
          rw[probe.go,es];dsimp only;rw[if_neg (by simpa using c)];rfl
        rw[eq];refine⟨m,by lia,m2,λl a b=>?_,m4⟩;rcases R1 n l with d|d
        · exact m3 l d b
        · obtain rfl:l = n:=by lia
          exact⟨i,hi,e,c⟩
    · obtain rfl:n = n0:=by lia
      refine⟨n,J6 _,J6 _,λl a b=>by lia,.inl ⟨rfl,?_⟩⟩;unfold probe.go;rw[uU T.dm f0];dsimp only;rw[Ds]
end L2
namespace L2
open PySem PySem.Spec PyProof.Rows
section
variable{X:Cx}{o i:N8}{to ti:TEd}{pos:Pos}
end
section
variable{P:N4}{w:S2}{K:H0}{mg:Str->Option J0}{base:N0}{f:K4}{fd:L4}
theorem Fun.okR{x qual:Str}{st:aa6}{f:K4}{fd:L4}{N ps:List Str}{k n:Nat}{S:SpD}(F:Fun K x qual st f fd)(hn:ps.length=n)(Sc:aw N ps (aj st))
  (hbody:∀ (cdv:J0) (A:P5) (outer:List Env) (s:J4) (H:Hp) (E:XK),de k (A.deeper (ap3 qual (aj st) s.heap.objs.size f cdv)) →
   ∃t:TSd,QSs (rq CX0 P w K mg base N qual (aj st) f cdv A outer s H E).nox (du st) t/\∀ds M R (G:Prop),S ds M R->(t { nx:=λ_ M'=>R .non M',rt:=R } (jC N ds) M->G)->G):aV P w K mg base CX0 (k+1) f fd ps (spD K n S):=by
 refine F.okD hn Sc λcdv A outer s H E hr=>?_;obtain⟨t,h1,h2⟩:=hbody cdv A outer s H E hr;exact⟨t,AI h1,λds M R _ hS=>h2 ds M R _ hS id⟩
theorem shr{p:Prop}(h:∀q:Prop,(p->q)->q):p:=h p id
end
end L2
namespace L2
open PySem PyProof.Rows
section
variable{prog:N4}{w:S2}{A:P5}{E:J0->J4->Prop}{s:J4}{O:ac2}{key:Keyed->O.α}{a0:List Keyed}{κ:ar3}
structure SB(a0:List Keyed) (κ:ar3) (st:SortSt):Prop where
 perm:(arrOf st).toList.Perm a0
 kind:am7 st=κ
 fail:failedOf st=none
theorem SB.size{st:SortSt}(h:SB a0 κ st):(arrOf st).size=a0.length:=by rw[<-L1];exact h.perm.length_eq
end
section
variable{prog:N4}{w:S2}{A:P5}{E:J0->J4->Prop}{s:J4}{O:ac2}{key:Keyed->O.α}{a0:List Keyed}{κ:ar3}
def kl(key:Keyed->O.α)(x y:Keyed):Prop:=O.kle (key x) (key y)
variable{a b out:Array Keyed}{ia ib k:Nat}
end
end L2
namespace L2
open PySem PySem.SetTable
theorem jU{α:Type}(xs:Array α)(p:Nat)(x:α):(insertAt xs p x).toList=xs.toList.take p++x::xs.toList.drop p:=by
 unfold insertAt;rw[Array.toList_append,Array.toList_push,Array.toList_extract,Array.toList_extract,List.extract_eq_take_drop,List.extract_eq_take_drop];rw[List.drop_zero,Nat.sub_zero,U3 (l:=xs.toList.drop p) (by simp)];simp
theorem iU{xs:Array Nat}{i d:Nat}:xs.getD i d=xs.toList[i]?.getD d:=by
 rw[T0]
 by_cases h:i<xs.size
 ·simp[aa3,h]
 ·simp[aa3,h]
theorem sv{xs:Array Nat}{p x:Nat}(hp:p<=xs.size)(i:Nat):(insertAt xs p x).getD i 0=if i<p then xs.getD i 0 else if i=p then x else xs.getD (i-1) 0:=by
 have hl:(xs.toList.take p).length=p:=by simp;lia
 rw[iU,jU,ah0,hl]
 by_cases a:i<p
 ·rw[if_pos a,if_pos a,aa1 a,iU]
 ·rw[if_neg a,if_neg a]
  by_cases b:i=p
  ·rw[if_pos b,b];simp
  ·rw[if_neg b];obtain⟨m,hm⟩:∃m,i-p=m+1:=⟨i-p-1,by lia⟩;rw[hm,S0,List.getElem?_drop,iU];congr 2;lia
theorem iq{α:Type}(xs:Array α)(p:Nat)(x:α)(hp:p<=xs.size):(insertAt xs p x).size=xs.size+1:=by
 rw[<-L1,jU];simp;lia
theorem vU{xs:Array Nat}{p x:Nat}(hp:p<=xs.size){j:Nat}(h:Occ xs j):Occ (insertAt xs p x) j:=by
 obtain⟨i,hi,e⟩:=h
 by_cases a:i<p
 ·exact⟨i,by rw[iq _ _ _ hp];lia,by rw[sv hp,if_pos a];exact e⟩
 ·exact⟨i+1,by rw[iq _ _ _ hp];lia,by rw[sv hp,if_neg (by lia),if_neg (by lia)];exact e⟩
theorem TB.put{t:P2}{hs:List Int}(T:TB t hs){h:Int}{n:Nat}(f0:¬ Occ t.place (pth t.mask h n).j)(f1:∀m,m<n->Occ t.place (pth t.mask h m).j)(few:t.place.size+1<=t.mask):
  ∃p,p<=hs.length/\(t.put (pth t.mask h n).j).2=p/\TB (t.put (pth t.mask h n).j).1 (hs.take p++h::hs.drop p)/\(t.put (pth t.mask h n).j).1.led=t.led/\(t.put (pth t.mask h n).j).1.plain=t.plain/\(t.put (pth t.mask h n).j).1.mask=t.mask/\(t.put (pth t.mask h n).j).1.place.size=t.place.size+1:=by
 generalize hj:(pth t.mask h n).j=j at *
 have hjm:j<=t.mask:=by rw[<-hj];exact t7 n
 obtain⟨b1,b2,b3⟩:=tE T.up j;have sz:=T.sz;have hd:has t.dummies j=false:=by rw[T.dm];rfl
 have e:t.put j=({ t with place:=insertAt t.place (below t.place j) j,dummies:=t.dummies },below t.place j):=by unfold P2.put;rw[hd];rfl
 rw[e];dsimp only;generalize hp:below t.place j=p at *
 have b3':∀i,p<=i->i<t.place.size->j<t.place.getD i 0:=λi h1 h2=>by
  have:=b3 i h1 h2;rcases R1 j (t.place.getD i 0)with q|q
  ·exact q
  ·exact absurd ⟨i,h2,by lia⟩ f0
 have isz:=iq t.place p j b1;refine⟨p,by lia,rfl,⟨?_,?_,?_,T.dm,T.pw,by rw[isz];exact few,?_⟩,rfl,rfl,rfl,isz⟩
 ·show(insertAt t.place p j).size=_;rw[isz,J9,N2,O3,X1];lia
 ·intro i k hik hk;have hk':k<t.place.size+1:=by rw[<-isz];exact hk
  show(insertAt t.place p j).getD i 0<(insertAt t.place p j).getD k 0;rw[sv b1,sv b1]
  by_cases c1:i<p
  ·rw[if_pos c1]
   by_cases c2:k<p
   ·rw[if_pos c2];exact T.up i k hik (by lia)
   ·rw[if_neg c2]
    by_cases c3:k=p
    ·rw[if_pos c3];exact b2 i c1
    ·rw[if_neg c3];exact T.up i (k-1) (by lia) (by lia)
  ·rw[if_neg c1,if_neg (show ¬ k<p by lia),if_neg (show ¬ k=p by lia)]
   by_cases c3:i=p
   ·rw[if_pos c3];exact b3' _ (by lia) (by lia)
   ·rw[if_neg c3];exact T.up (i-1) (k-1) (by lia) (by lia)
 ·intro i hi;have hi':i<t.place.size+1:=by rw[<-isz];exact hi
  show(insertAt t.place p j).getD i 0<=t.mask;rw[sv b1]
  by_cases c1:i<p
  ·rw[if_pos c1];exact T.le i (by lia)
  ·rw[if_neg c1]
   by_cases c3:i=p
   ·rw[if_pos c3];exact hjm
   ·rw[if_neg c3];exact T.le _ (by lia)
 ·intro i g hg;have hl:(hs.take p).length=p:=by simp;lia
  have old:∀i',hs[i']?=some g->(insertAt t.place p j).getD i 0=t.place.getD i' 0->∃n,(pth t.mask g n).j=(insertAt t.place p j).getD i 0/\∀m,m<n->Occ (insertAt t.place p j) (pth t.mask g m).j:=λi' h1 h2=>by
   obtain⟨n',a,b⟩:=T.pr i' g h1;exact⟨n',by rw[a,h2],λm hm=>vU b1 (b m hm)⟩
  rw[ah0,hl]at hg
  by_cases c1:i<p
  ·rw[if_pos c1,aa1 c1]at hg;exact old i hg (by rw[sv b1,if_pos c1])
  ·rw[if_neg c1]at hg
   by_cases c3:i=p
   ·rw[c3,ao8,W9]at hg;cases hg;exact⟨n,by show _=(insertAt t.place p j).getD i 0;rw[sv b1,if_neg c1,if_pos c3];exact hj,λm hm=>vU b1 (f1 m hm)⟩
   ·obtain⟨m,hm⟩:∃m,i-p=m+1:=⟨i-p-1,by lia⟩;rw[hm,S0,List.getElem?_drop]at hg;exact old _ hg (by rw[sv b1,if_neg c1,if_neg c3];congr 1;lia)
variable{mask:Nat}{h:Int}
abbrev Ow:=Array (Option Nat)
def ocO(ow:Ow)(j:Nat):Prop:=ow.getD j (some 0)≠none
theorem vW{ow:Ow}(hs:ow.size=mask+1){M:Nat}(hM:ow.getD (rs mask h M).1 (some 0)=none):∀F m n,m<=M->M-m<F->pth mask h n=atR mask (rs mask h m)->(∀l,l<n->ocO ow (pth mask h l).j) ->
  ∃n',layClean.free mask ow F (rs mask h m).1 (rs mask h m).2=some (pth mask h n').j/\ow.getD (pth mask h n').j (some 0)=none/\∀l,l<n'->ocO ow (pth mask h l).j
 |0,m,n,h1,h2,_,_=>by lia
 |F+1,m,n,h1,h2,e,oc=>by
  have lt:=Cg (mask:=mask) (h:=h) m;have len:runEnd mask (rs mask h m).1+1-(rs mask h m).1=runEnd mask (rs mask h m).1-(rs mask h m).1+1:=by
   have:(rs mask h m).1<=runEnd mask (rs mask h m).1:=by unfold runEnd;split<;>lia
   lia
  have jq:∀q,q<=runEnd mask (rs mask h m).1-(rs mask h m).1->(pth mask h (n+q)).j=(rs mask h m).1+q:=λq hq=>by rw[qh e q hq]
  unfold layClean.free;rw[len];cases c:(O2 (runEnd mask (rs mask h m).1-(rs mask h m).1+1)).find? λk=>(ow.getD ((rs mask h m).1+k) (some 0)).isNone with
  |some k =>
   dsimp only;have hk:=P8.mp (List.mem_of_find?_eq_some c);have hn:=List.find?_some c;refine⟨n+k,by rw[jq k (by lia)],by rw[jq k (by lia)];simpa using hn,λl hl=>?_⟩;rcases R1 l n with a|a
   ·exact oc l a
   ·obtain⟨q,rfl⟩:∃q,l=n+q:=⟨l-n,by lia⟩;unfold ocO;rw[jq q (by lia)];intro z;obtain⟨as,bs,e1,e2⟩:=(List.find?_eq_some_iff_append.mp c).2;have:q∈as:=by
     have hq:q∈O2 (runEnd mask (rs mask h m).1-(rs mask h m).1+1):=P8.mpr (by lia);have srt:(as++k::bs).Pairwise (·<·):=by rw[<-e1];exact List.pairwise_lt_range
     rw[e1]at hq;rcases K1.mp hq with r|r
     ·exact r
     ·rw[List.pairwise_append]at srt;rcases L5.mp r with r|r
      ·lia
      ·have:=(List.pairwise_cons.mp srt.2.1).1 q r;lia
    have:=e2 q this;rw[z]at this;simp at this
  |none =>
   dsimp only;have all:=List.find?_eq_none.mp c;have ne:m≠M:=λz=>by
    subst z;have:=all 0 (P8.mpr (by lia));rw[Nat.add_zero,hM]at this;simp at this
   show ∃n',layClean.free mask ow F (rs mask h (m+1)).1 (rs mask h (m+1)).2=_/\_;refine vW hs hM F (m+1) (n+(runEnd mask (rs mask h m).1-(rs mask h m).1)+1) (by lia) (by lia) ?_ λl hl=>?_
   ·show pA mask (pth mask h (n+_))=_;rw[qh e _ (J6 _)];unfold pA;rw[if_neg (by simp)];rfl
   ·rcases R1 l n with a|a
    ·exact oc l a
    ·obtain⟨q,rfl⟩:∃q,l=n+q:=⟨l-n,by lia⟩;unfold ocO;rw[jq q (by lia)];intro z;have:=all q (P8.mpr (by lia));rw[z]at this;simp at this
def lv(mask:Nat)(ow:Ow):List (Nat×Nat):=(O2 (mask+1)).filterMap λj=>(ow.getD j none).map (j,·)
theorem uy{ow:Ow}{j:Nat}(hj:j<ow.size)(a b:Option Nat):ow.getD j a=ow.getD j b:=by simp[aa3,hj]
theorem Do{ow:Ow}(hs:ow.size=mask+1){s k:Nat}(hl:s<=mask)(hn:ow.getD s none=none):(lv mask (ow.setIfInBounds s (some k))).Perm ((s,k)::lv mask ow):=by
 unfold lv;have sp:O2 (mask+1)=O2 s++s::(List.range' (s+1) (mask-s)):=by
  rw[List.range_eq_range',List.range_eq_range',show mask+1=s+(1+(mask-s))by lia,<-List.range'_append_1,<-List.range'_append_1];simp[Nat.add_comm]
 have same:∀l:List Nat,s∉l->(l.filterMap λj=>((ow.setIfInBounds s (some k)).getD j none).map (j,·))=l.filterMap λj=>(ow.getD j none).map (j,·):=λl hl=>by
  induction l with
  |nil=>rfl
  |cons j l ih =>
   have this:s≠j:=λz=>hl (z▸.head _);rw[R5,R5,ih λz=>hl (.tail _ z)];simp only[S9,aa5,if_neg this]
 rw[sp,af6,af6,R5,R5,hn,same _ (by simp),same _ (λz=>by obtain⟨x,_,z⟩:=List.mem_range'.mp z;lia)];have:(ow.setIfInBounds s (some k)).getD s none=some k:=by simp[S9,show s<ow.size by lia]
 rw[this];simp only[Option.map_some,Option.map_none];exact ak6
structure LC(mask:Nat) (hs:List Int) (ow:Ow) (k:Nat):Prop where
 sz:ow.size=mask+1
 perm:((lv mask ow).map (·.2)).Perm (O2 k)
 pr:∀j i h,ow.getD j none=some i->hs[i]?=some h->∃n,(pth mask h n).j=j/\∀m,m<n->ocO ow (pth mask h m).j
theorem DW{ow:Ow}(hs:ow.size=mask+1){j i:Nat}(e:ow.getD j none=some i):(j,i)∈lv mask ow:=by
 have hj:j<ow.size:=by
  rcases R1 j ow.size with q|q
  ·exact q
  ·simp[aa3,show ¬ j<ow.size by lia]at e
 exact ac0.mpr ⟨j,P8.mpr (by lia),by rw[e];rfl⟩
theorem Bf{ow:Ow}(hs:ow.size=mask+1)(few:(lv mask ow).length<=mask):∃j,j<=mask/\ow.getD j none=none:=by
 refine W4 λc=>?_;have all:∀j∈O2 (mask+1),∃i,ow.getD j none=some i:=λj hj=>by
  cases q:ow.getD j none with
  |none=>exact absurd ⟨j,by have:=P8.mp hj;lia,q⟩ c
  |some i=>exact⟨i,rfl⟩
 have:∀l:List Nat,(∀j∈l,∃i,ow.getD j none=some i)->(l.filterMap λj=>(ow.getD j none).map (j,·)).length=l.length:=λl=>by
  induction l with
  |nil=>exact λ_=>rfl
  |cons j l ih =>
   intro hl;obtain⟨i,e⟩:=hl j (.head _);rw[R5,e];simp only[Option.map_some,O3];rw[ih λx hx=>hl x (.tail _ hx)]
 have q:=this _ all;rw[ag3]at q;unfold lv at few
 lia
abbrev lcF(mask:Nat)(acc:Option (Ow×Nat))(h:Int):Option (Ow×Nat):=do
 let(owner,k) <-acc
 let j <-layClean.free mask owner (turns mask) (bits h % (mask+1)) (bits h)
 ag9 (owner.setIfInBounds j (some k),k+1)
theorem B2{e:Nat}(hk:mask+1=2 ^ e){hs:List Int}(few:hs.length<=mask):∀(todo done:List Int) (ow:Ow),hs=done++todo->LC mask hs ow done.length->∃ow',todo.foldl (lcF mask) (some (ow,done.length))=some (ow',hs.length)/\LC mask hs ow' hs.length
 |[],done,ow,h0,L=>⟨ow,by rw[h0];simp,by rw[h0];simpa[h0]using L⟩
 |h::todo,done,ow,h0,L=>by
  have ll:(lv mask ow).length=done.length:=by have:=L.perm.length_eq;simpa using this
  have lt:done.length<hs.length:=by rw[h0];simp
  obtain⟨j,hj,nj⟩:=Bf L.sz (by lia);obtain⟨m,_,hm,_,em,_⟩:=vn (mask:=mask) (h:=h) hk hj;obtain⟨n',f1,f2,f3⟩:=vW (mask:=mask) (h:=h) (ow:=ow) L.sz (M:=m) (by rw[em,uy (by rw[L.sz];lia) (some 0) none];exact nj) (turns mask) 0 0 (Q5 _) (by unfold turns;lia) rfl (λl hl=>by lia);have sl:=t7 (mask:=mask) (h:=h) n';have st:lcF mask (some (ow,done.length)) h=some (ow.setIfInBounds (pth mask h n').j (some done.length),done.length+1):=by
   show(layClean.free mask ow (turns mask) (bits h % (mask+1)) (bits h) >>= λj=>ag9 (ow.setIfInBounds j (some done.length),done.length+1))=_;have:layClean.free mask ow (turns mask) (bits h % (mask+1)) (bits h)=some (pth mask h n').j:=f1;rw[this];rfl
  rw[af4,st];generalize hsl:(pth mask h n').j=sl' at *
  have f2':ow.getD sl' none=none:=by rw[<-f2];exact uy (by rw[L.sz];lia) _ _
  have oc':∀j,ocO ow j->ocO (ow.setIfInBounds sl' (some done.length)) j:=λj hj z=>by
   unfold ocO at hj;simp only[S9,aa5]at z hj
   split at z
   ·split at z<;>simp at z
   ·exact hj z
  have:=B2 hk few todo (done++[h]) (ow.setIfInBounds sl' (some done.length)) (by rw[h0];simp) ⟨by rw[Array.size_setIfInBounds];exact L.sz,?_,?_⟩
  ·rw[J9,List.length_singleton]at this;exact this
  ·rw[J9,List.length_singleton,List.range_succ];refine((Do L.sz sl f2').map _).trans ?_;rw[K2];exact(an2.cons _ L.perm).trans (List.perm_append_singleton _ _).symm
  ·intro j i g hg hi
   by_cases c:sl'=j
   ·have:i=done.length:=by
     simp only[S9,aa5,if_pos c]at hg
     split at hg
     ·simpa using hg.symm
     ·simp at hg
    subst this;have:g=h:=by rw[h0,X5 (J6 _),ao8,W9]at hi;exact(R7 hi).symm
    subst this;exact⟨n',by rw[hsl];exact c,λm hm=>oc' _ (f3 m hm)⟩
   ·have hg':ow.getD j none=some i:=by
     simp only[S9,aa5,if_neg c]at hg ⊢;exact hg
    obtain⟨n,a,b⟩:=L.pr j i g hg' hi;exact⟨n,a,λm hm=>oc' _ (b m hm)⟩
theorem sW(n:Nat):∀F k,n<2 ^ (k+F)->∃e,k<=e/\sizeAbove.go n F (2 ^ k)=2 ^ e/\n<2 ^ e/\(e=k∨2 ^ e<=2*n)
 |0,k,h=>⟨k,J6 _,rfl,h,.inl rfl⟩
 |F+1,k,h=>by
  unfold sizeAbove.go
  by_cases c:2 ^ k<=n
  ·rw[if_pos c,show 2 ^ k*2=2 ^ (k+1)from(ai5 ..).symm];obtain⟨e,h1,h2,h3,h4⟩:=sW n F (k+1) (by rw[show k+1+F=k+(F+1)by lia];exact h);refine⟨e,by lia,h2,h3,.inr ?_⟩;rcases h4 with h4|h4
   ·rw[h4,ai5];lia
   ·exact h4
  ·rw[if_neg c];exact⟨k,J6 _,rfl,by lia,.inl rfl⟩
theorem tS{n:Nat}(h:n<2 ^ 60):∃e,3<=e/\sizeAbove n=2 ^ e/\n<2 ^ e/\(2 ^ e<=8∨2 ^ e<=2*n):=by
 obtain⟨e,h1,h2,h3,h4⟩:=sW n 64 3 (ak4 h (by decide));exact⟨e,h1,h2,h3,h4.imp (λz=>by rw[z];decide) id⟩
variable{mask:Nat}
theorem Fm(ow:Ow):((lv mask ow).map (·.1)).Pairwise (·<·):=by
 unfold lv;rw[List.map_filterMap,List.pairwise_filterMap];refine List.pairwise_lt_range.imp λ{a b} hab x hx y hy=>?_;cases qa:ow.getD a none with
 |none=>rw[qa]at hx;cases hx
 |some i =>
  cases qb:ow.getD b none with
  |none=>rw[qb]at hy;cases hy
  |some k =>
   rw[qa]at hx;rw[qb]at hy;cases hx;cases hy;exact hab
theorem Co{ow:Ow}{j i:Nat}(h:(j,i)∈lv mask ow):j<=mask/\ow.getD j none=some i:=by
 obtain⟨a,ha,e⟩:=ac0.mp h;have:=P8.mp ha;cases q:ow.getD a none with
 |none=>rw[q]at e;cases e
 |some k=>rw[q]at e;cases e;exact⟨by lia,q⟩
theorem AB{t:P2}{hs:List Int}{wanted:Nat}(h1:hs.length<=wanted)(h2:wanted<2 ^ 60)(h3:0<wanted):∃t' order,t.relaid hs.toArray wanted=some (t',order)/\t'.led=t.led/\t'.plain=t.plain/\t'.mask+1=sizeAbove wanted/\order.toList.Perm (O2 hs.length)/\t'.place.size=hs.length/\TB t' (order.toList.map λk=>hs.getD k 0):=by
 obtain⟨e,e3,es,el,_⟩:=tS h2;have pos:0<2 ^ e:=Nat.two_pow_pos e;generalize hm:sizeAbove wanted-1=mask;have hk:mask+1=2 ^ e:=by lia
 have L0:LC mask hs (am3 (mask+1) none) 0:=by
  have z:∀j,(am3 (mask+1) (none:Option Nat)).getD j none=none:=λj=>by
   rw[S9,Array.getElem?_replicate];split<;>rfl
  refine⟨by simp,?_,λj i h q _=>by rw[z]at q;cases q⟩;have:lv mask (am3 (mask+1) none)=[]:=by
   unfold lv;rw[List.filterMap_eq_nil_iff];intro j _;rw[z];rfl
  rw[this];exact .refl _
 obtain⟨ow,f,L⟩:=B2 hk (hs:=hs) (by lia) hs [] _ rfl L0;have hl:layClean mask hs.toArray=some ow:=by
  unfold layClean;rw[<-Array.foldl_toList];show(hs.foldl (lcF mask) (some (am3 (mask+1) none,0))).map (·.1)=_;rw[show(0:Nat)=([]:List Int).length from rfl,f];rfl
 have hr:t.relaid hs.toArray wanted=some ({ mask,place:=((lv mask ow).map (·.1)).toArray,dummies:=#[],finger:=t.finger,led:=t.led,moves:=t.movedTo mask,plain:=t.plain },((lv mask ow).map (·.2)).toArray):=by
  unfold relaid laid;rw[hm,hl];rfl
 have ll:(lv mask ow).length=hs.length:=by have:=L.perm.length_eq;simpa using this
 have gl:∀i,((lv mask ow).map (·.1)).toArray.getD i 0=((lv mask ow)[i]?.map (·.1)).getD 0:=λi=>by rw[iU];simp
 have psz:((lv mask ow).map (·.1)).toArray.size=hs.length:=by simp[ll]
 have occ:∀j,j<=mask->ocO ow j->Occ ((lv mask ow).map (·.1)).toArray j:=λj hj q=>by
  cases c:ow.getD j none with
  |none=>exact absurd (by rw[uy (by rw[L.sz];lia) (some 0) none];exact c) q
  |some i =>
   obtain⟨l,hl⟩:=af5.mp (DW L.sz c);exact⟨l,by rw[psz,<-ll];exact(K3.mp hl).1,by rw[gl,hl];rfl⟩
 refine⟨_,_,hr,rfl,rfl,by show mask+1=_;lia,by simpa using L.perm,psz,⟨by simp,?_,?_,rfl,⟨e,e3,hk⟩,by show((lv mask ow).map (·.1)).toArray.size<=mask;lia,?_⟩⟩
 ·intro i j hij hj;rw[psz]at hj;have:=ac6.mp (Fm (mask:=mask) ow) i j (by simp;lia) (by simp;lia) hij;show((lv mask ow).map (·.1)).toArray.getD i 0<((lv mask ow).map (·.1)).toArray.getD j 0;rw[gl,gl,J1 (by lia),J1 (by lia)];simpa using this
 ·intro i hi;rw[psz]at hi;show((lv mask ow).map (·.1)).toArray.getD i 0<=mask;rw[gl,J1 (by lia)];exact(Co (P7 (by lia))).1
 ·intro i h hi;show ∃n,(pth mask h n).j=((lv mask ow).map (·.1)).toArray.getD i 0/\∀m,m<n->Occ ((lv mask ow).map (·.1)).toArray (pth mask h m).j;simp only[L8]at hi;cases c:(lv mask ow)[i]? with
  |none=>rw[c]at hi;cases hi
  |some jk =>
   obtain⟨j,k⟩:=jk;rw[c]at hi;have mem:=M9 c;have hk':k<hs.length:=P8.mp (L.perm.mem_iff.mp (N7.mpr ⟨_,mem,rfl⟩));have hh:hs[k]?=some h:=by
    have:hs.getD k 0=h:=by simpa using hi
    rw[J1 hk',<-this];simp[hk']
   obtain⟨n,a,b⟩:=L.pr j k h (Co mem).2 hh;exact⟨n,by rw[gl,c];exact a,λm hm=>occ _ (t7 m) (b m hm)⟩
end L2
namespace L2
open PySem PySem.SetTable PySem.SeqAt
structure TK(prog:N4) (w:S2) (τ:Type) where
 is:N0->τ->J0->Prop
 hash:τ->Int
 room:P5->Prop
 pyHash:∀{A:P5} {E:J0->J4->Prop} {s:J4} {x:τ} {v:J0} {Q:Int->J4->Prop},room A->is s.heap x v->(∀t,s.toks<=t->Q (hash x) { s with toks:=t })->L3 (N9 prog w) A (PySem.pyHash v) Q E s
 eqB:∀{A:P5} {s:J4} {x y:τ} {v u:J0},room A->is s.heap x v->is s.heap y u->∃b:Bool,(b=true↔x=y)/\EqAt A s v u b
 quiet:∀{A:P5} {E:J0->J4->Prop} {s:J4} {x:τ} {v:J0} {Q:Bool->J4->Prop},room A->is s.heap x v->Q true s->L3 (N9 prog w) A (eqIsQuiet 8 v) Q E s
 noCls:∀{A:P5} {E:J0->J4->Prop} {s:J4} {x:τ} {v:J0} {Q:Bool->J4->Prop},room A->is s.heap x v->Q false s->L3 (N9 prog w) A (ofAClassStatement 8 v) Q E s
 byV:∀{A:P5} {E:J0->J4->Prop} {s:J4} {x:τ} {v:J0} {Q:Bool->J4->Prop},room A->is s.heap x v->(∀b,Q b s)->L3 (N9 prog w) A (hashByValue 8 v) Q E s
 ref:∀{h:N0} {x:τ} {v:J0},is h x v->∃a,v=.ref a
variable{prog:N4}{w:S2}{τ:Type}{κ:TK prog w τ}{A:P5}{E:J0->J4->Prop}{s:J4}
structure Els(κ:TK prog w τ) (h:N0) (es:Array (Int×J0)) (zs:List τ):Prop where
 len:es.size=zs.length
 at_:∀(i:Nat) z,zs[i]?=some z->∃v,es[i]?=some (κ.hash z,v)/\κ.is h z v
def dM(es:Array (Int×J0)):List Int:=es.toList.map (·.1)
theorem Els.of{h:N0}{es:Array (Int×J0)}{zs:List τ}(L:Els κ h es zs){i:Nat}{e:Int×J0}(g:es[i]?=some e):∃z,zs[i]?=some z/\e.1=κ.hash z/\κ.is h z e.2:=by
 have hi:i<zs.length:=by rw[<-L.len];exact(X7.mp g).1
 obtain⟨v,g',q⟩:=L.at_ i zs[i] (J1 hi);rw[g]at g';cases g';exact⟨_,J1 hi,rfl,q⟩
theorem E4{x:τ}{v:J0}(hr:κ.room A)(hx:κ.is s.heap x v){Q:Bool->J4->Prop}(h:Q false s):∀(l:List J0),(∀u∈l,∃y,κ.is s.heap y u)->L3 (N9 prog w) A (searchCouldBeSeen v l) Q E s:=by
 intro l hl;unfold searchCouldBeSeen;refine o0 ?_;refine ah5 _ (λrest b s'=>s'=s/\b=(none,())/\∀u∈rest,∃y,κ.is s.heap y u) _ ?_ ?_ _ _ ⟨rfl,rfl,hl⟩
 ·rintro u rest b s' ⟨rfl,rfl,hr'⟩;obtain⟨y,hy⟩:=hr' u (.head _);obtain⟨a,rfl⟩:=κ.ref hx;obtain⟨c,rfl⟩:=κ.ref hy;have rest':∀u∈rest,∃y,κ.is s'.heap y u:=λu hu=>hr' u (.tail _ hu);dsimp only
  split
  ·exact J3 ⟨rfl,rfl,rest'⟩
  ·refine o0 (κ.quiet hr hx ?_);simp only[ac4,J5,if_false];refine o0 (κ.quiet hr hy ?_);simp only[ac4,J5,if_false];refine o0 (κ.noCls hr hx ?_);simp only[J5,if_false];refine o0 (κ.noCls hr hy ?_);simp only[J5,if_false];exact J3 ⟨rfl,rfl,rest'⟩
 ·rintro b s' ⟨rfl,rfl,_⟩;exact J3 h
theorem CG{a:K4}{o:Obj}{es:Array (Int×J0)}{ep:Nat}{t:P2}{zs:List τ}{x:τ}{v:J0}{n0:Nat}(hr:κ.room A)(hx:κ.is s.heap x v)(ho:s.heap.get? a=some o)(hd:o.data=.set es ep t)(L:Els κ s.heap es zs)(T:TB t (dM es))
  (f0:¬ Occ t.place (pth t.mask (κ.hash x) n0).j) (f1:∀m,m<n0->Occ t.place (pth t.mask (κ.hash x) m).j) {Q:SetFound->J4->Prop} (hy:x∈zs->∀i,Q (.there i) s) (hn:x∉zs->Q (.free (pth t.mask (κ.hash x) n0).j false) s) :
  ∀F n stand,stand.getD (t.probeStart (κ.hash x))=pth t.mask (κ.hash x) n->n<=n0->n0-n<F->n0<10*turns t.mask->(∀l,l<n->∀i,i<t.place.size->t.place.getD i 0=(pth t.mask (κ.hash x) l).j->zs[i]?≠some x)->L3 (N9 prog w) A (ao2 a v (κ.hash x) true F stand) Q E s:=by
 have lens:(dM es).length=es.size:=by simp[dM]
 have fit:t.fits es.size=true:=by
  unfold P2.fits fill;rw[T.dm,T.sz,lens];have:=T.few;rw[T.sz,lens]at this;simpa using this
 have gw:t.gaveWay=false:=by
  obtain⟨k,k3,hk⟩:=T.pw;unfold gaveWay;obtain⟨m,rfl⟩:∃m,k=m+1:=⟨k-1,by lia⟩;rw[ai5]at hk;have:t.mask % 2=1:=by lia
  rw[this];rfl
 have uniq:∀{i k},i<t.place.size->k<t.place.size->t.place.getD i 0=t.place.getD k 0->i=k:=λ{i k} hi hk e=>by
  rcases Nat.lt_trichotomy i k with q|q|q
  ·have:=T.up i k q hk;lia
  ·exact q
  ·have:=T.up k i q hi;lia
 intro F
 induction F with
 |zero=>intro n stand _ _ h3;lia
 |succ F ih =>
  intro n stand e h2 h3 h4 h5;unfold ao2;refine o0 (ad6 ho hd fit ?_);dsimp only;rw[gw];simp only[J5,if_false];unfold P2.probe;rw[e];obtain⟨ha,hha⟩:∃ha:Nat->Int,ha=λi=>(es[i]?.map (·.1)).getD 0:=⟨_,rfl⟩;obtain⟨m,m1,m2,m3,m4⟩:=sD T f0 f1 (ha:=ha) (10*turns t.mask) n h2 (by lia);have hat:∀(i:Nat) z,zs[i]?=some z->ha i=κ.hash z:=λi z hz=>by
   obtain⟨u,g,_⟩:=L.at_ i z hz;rw[hha];simp[g]
  have skip:∀l,l<m->∀i,i<t.place.size->t.place.getD i 0=(pth t.mask (κ.hash x) l).j->zs[i]?≠some x:=λl hl i hi he hz=>by
   rcases R1 l n with q|q
   ·exact h5 l q i hi he hz
   ·obtain⟨k,k1,k2,k3⟩:=m3 l q hl;obtain rfl:=uniq hi k1 (he.trans k2.symm);exact k3 (hat _ _ hz)
  rcases m4 with⟨rfl,em⟩|⟨mlt,i,i1,i2,i3,em⟩
  ·have em2:∀f:Nat->Int,f=ha->probe.go t f (κ.hash x) (10*turns t.mask) (pth t.mask (κ.hash x) n)=probe.go t ha (κ.hash x) (10*turns t.mask) (pth t.mask (κ.hash x) n):=λf hf=>by rw[hf]
   rw[em2 _ ?_,em]
   rotate_left
   ·rw[hha];rfl
   dsimp only;refine J3 (hn λhz=>?_);obtain⟨i,hi⟩:=af5.mp hz;have hi':i<t.place.size:=by rw[T.sz,lens,L.len];exact(K3.mp hi).1
   obtain⟨u,g,_⟩:=L.at_ i x hi;obtain⟨nn,a1,a2⟩:=T.pr i (κ.hash x) (by rw[dM,L8,T0,g];rfl);have lt:nn<m:=by
    rcases Nat.lt_trichotomy nn m with q|q|q
    ·exact q
    ·subst q;exact absurd ⟨i,hi',a1.symm⟩ f0
    ·exact absurd (a2 m q) f0
   exact skip nn lt i hi' a1.symm hi
  ·have em2:∀f:Nat->Int,f=ha->probe.go t f (κ.hash x) (10*turns t.mask) (pth t.mask (κ.hash x) n)=probe.go t ha (κ.hash x) (10*turns t.mask) (pth t.mask (κ.hash x) n):=λf hf=>by rw[hf]
   rw[em2 _ ?_,em]
   rotate_left
   ·rw[hha];rfl
   dsimp only;have iz:i<zs.length:=by rw[<-L.len,<-lens,<-T.sz];exact i1
   obtain⟨u,gu,hu⟩:=L.at_ i zs[i] (J1 iz);have main:L3 (N9 prog w) A (do
     let some (_,y):=es[i]?|ap8 "internal:set-entry"
     let equal <-aq5 [y] (eqBool y v)
     let(es',_,t') <-setState a
     if true&&equal then return .there none
     let some same:=t'.sameMemory t.moves t.mask|ap8 "set.changed-during-lookup:is-the-new-block-at-the-old-address"
     let still <-match (if same then t'.slot (pth t.mask (κ.hash x) m).j else .empty)with
      |.live i'=>match es'[i']? with
       |some (_,y')=>do ag9 (if <-isSame y' y then some i' else none)
       |none=>ag9 none
      |_=>ag9 none
     match still with
     |none=>rule "set.search.anew";ao2 a v (κ.hash x) true F none
     |some i'=>if equal then return .there (some i')else ao2 a v (κ.hash x) true F (some (pth t.mask (κ.hash x) (m+1)))) Q E s:=by
    rw[gu];dsimp only;obtain⟨b,hb,eq⟩:=κ.eqB hr hu hx;refine o0 (U4 (eq prog w _ _ ?_));refine o0 (ad6 ho hd fit ?_);dsimp only;cases b with
    |true =>
     have:zs[i]=x:=hb.mp rfl;exact J3 (hy (this▸P7 iz) _)
    |false =>
     have ne:zs[i]≠x:=λz=>by have:=hb.mpr z;cases this
     simp only[an0,J5,if_false];rw[show t.sameMemory t.moves t.mask=some true by simp[sameMemory]];dsimp only;rw[pR T.up i1 i2];simp only[if_true];rw[gu];dsimp only;obtain⟨c,rfl⟩:=κ.ref hu;refine o0 (wpAny_isSame_ref_self (o0 (J3 ?_)));simp only[if_true];refine ih (m+1) _ rfl mlt (by lia) h4 λl hl k k1 k2=>?_;rcases R1 l m with q|q
     ·exact skip l q k k1 k2
     ·obtain rfl:l=m:=by lia
      obtain rfl:=uniq k1 i1 (k2.trans i2.symm);rw[J1 iz];intro z;exact ne (R7 z)
   by_cases led:t.led=true
   ·rw[led];simp only[ac4,J5,if_false];exact main
   ·rw[show t.led=false by simpa using led];simp only[aj8,if_true];refine o0 (E4 hr hx ?_ _ λu hu=>?_)
    ·simp only[J5,if_false];exact main
    ·obtain⟨e,he,rfl⟩:=N7.mp hu;have he':e∈es:=(Array.mem_filter.mp (Array.mem_def.mpr he)).1;obtain⟨k,hk,ek⟩:=Array.mem_iff_getElem.mp he';obtain⟨z,_,_,q⟩:=L.of (i:=k) (e:=e) (by rw[R0 hk,ek]);exact⟨z,q⟩
variable{prog:N4}{w:S2}{τ:Type}{κ:TK prog w τ}{A:P5}{E:J0->J4->Prop}{s:J4}
structure Gh(κ:TK prog w τ) (h:N0) (a:K4) (o:Obj) (es:Array (Int×J0)) (ep:Nat) (t:P2) (zs:List τ):Prop where
 get:h.get? a=some o
 ex:o.ExactSet
 data:o.data=.set es ep t
 el:Els κ h es zs
 nd:zs.Nodup
 tb:TB t (dM es)
 led:t.led=!w.params.followText "set-order"
 roomy:es.size*5<t.mask*3
 small:t.mask<=7∨t.mask<=8*es.size
def kS(κ:TK prog w τ)(h:N0)(a:K4)(xs:List τ):Prop:=∃o es ep t zs,Gh κ h a o es ep t zs/\zs.Perm xs
theorem Els.keep{h h':N0}{es:Array (Int×J0)}{zs:List τ}(L:Els κ h es zs)(k:∀z v,κ.is h z v->κ.is h' z v):Els κ h' es zs:=⟨L.len,λi z hz=>by obtain⟨v,g,q⟩:=L.at_ i z hz;exact⟨v,g,k z v q⟩⟩
theorem kS.mono{h h':N0}{a:K4}{xs:List τ}(S:kS κ h a xs)(k:∀o,h.get? a=some o->h'.get? a=some o)(k2:∀z v,κ.is h z v->κ.is h' z v):kS κ h' a xs:=by
 obtain⟨o,es,ep,t,zs,q,p⟩:=S;exact⟨o,es,ep,t,zs,⟨k _ q.get,q.ex,q.data,q.el.keep k2,q.nd,q.tb,q.led,q.roomy,q.small⟩,p⟩
theorem vj{h:N0}{es:Array (Int×J0)}{zs:List τ}{x:τ}{v:J0}{p:Nat}(L:Els κ h es zs)(hx:κ.is h x v)(hp:p<=zs.length):Els κ h (insertAt es p (κ.hash x,v)) (zs.take p++x::zs.drop p):=by
 have lt:(es.toList.take p).length=p:=by rw[N2,L1,L.len];lia
 have lz:(zs.take p).length=p:=by rw[N2];lia
 refine⟨by rw[iq _ _ _ (by rw[L.len];exact hp),J9,O3,lz,X1,L.len];lia,λi z hz=>?_⟩;have gi:(insertAt es p (κ.hash x,v))[i]?=(es.toList.take p++(κ.hash x,v)::es.toList.drop p)[i]?:=by rw[<-jU,T0]
 rw[gi];rw[ah0,lz]at hz;rw[ah0,lt]
 by_cases c1:i<p
 ·rw[if_pos c1,aa1 c1]at hz;rw[if_pos c1,aa1 c1,T0];exact L.at_ i z hz
 ·rw[if_neg c1]at hz ⊢
  by_cases c2:i=p
  ·rw[c2,ao8,W9]at hz ⊢;cases hz;exact⟨v,rfl,hx⟩
  ·obtain⟨m,hm⟩:∃m,i-p=m+1:=⟨i-p-1,by lia⟩;rw[hm,S0,List.getElem?_drop]at hz ⊢;rw[T0];exact L.at_ _ z hz
theorem TB.plain{t:P2}{hs:List Int}(T:TB t hs)(b:Bool):TB { t with plain:=b } hs:=⟨T.sz,T.up,T.le,T.dm,T.pw,T.few,T.pr⟩
theorem TB.fit{t:P2}{es:Array (Int×J0)}(T:TB t (dM es)):t.fits es.size=true:=by
 have lens:(dM es).length=es.size:=by simp[dM]
 unfold P2.fits fill;rw[T.dm,T.sz,lens];have:=T.few;rw[T.sz,lens]at this;simpa using this
theorem v7{h:N0}{a:K4}{o:Obj}{es:Array (Int×J0)}{ep:Nat}{t:P2}(ho:h.get? a=some o)(hd:o.data=.set es ep t)(es':Array (Int×J0))(t':P2):
  (h.update a (ai4 es' t')).get? a=some { o with data:=.set es' (ep+1) t' }:=by
 have:=N0.get?_update_self (ai4 es' t') ho (by rw[as6 es' t' hd];rfl);rw[as6 es' t' hd]at this;exact this
theorem tW{es:Array (Int×J0)}:∀{l:List Nat},(∀k∈l,k<es.size)->(l.filterMap λk=>es[k]?)=l.map λk=>es.getD k (0,.none)
 |[],_=>rfl
 |k::l,h=>by
  have hk:=h k (.head _);rw[R5,R0 hk,K2,tW λj hj=>h j (.tail _ hj)];simp[aa3,hk]
theorem p9{l:List τ}{k:Nat}(h:k<l.length)(d:τ):l[k]?=some (l.getD k d):=by rw[N6,J1 h];rfl
theorem nu(l:List τ)(d:τ):(O2 l.length).map (λk=>l.getD k d)=l:=by
 refine ag1 λi=>?_;rw[L8];rcases R1 i l.length with q|q
 ·rw[List.getElem?_range q,p9 q d];rfl
 ·rw[T4 (by rw[ag3];exact q),T4 q];rfl
theorem Gs{a:K4}{xs:List τ}{x:τ}{v:J0}{Q:Bool->J4->Prop}(hr:κ.room A)(hx:κ.is s.heap x v)(hS:kS κ s.heap a xs)(few:xs.length<1000)(kp:∀h' z v,Q9 a s.heap h'->κ.is s.heap z v->κ.is h' z v)
  (h:∀b h',Q9 a s.heap h'->(x∈xs->kS κ h' a xs)->(x∉xs->kS κ h' a (xs++[x]))->Q b { s with heap:=h' }):L3 (N9 prog w) A (ao6 a v (κ.hash x)) Q E s:=by
 obtain⟨o,es,ep,t,zs,q,pm⟩:=hS;have lens:(dM es).length=es.size:=by simp[dM]
 have lz:es.size=xs.length:=by rw[q.el.len,pm.length_eq]
 obtain⟨n0,n1,f0,f1⟩:=q.tb.free (κ.hash x);have hm:t.mask<=8000:=by have:=q.small;lia
 obtain⟨r,rfl⟩:=κ.ref hx;have es0:s={ s with heap:=s.heap }:=by cases s;rfl
 unfold ao6 setAddHashedIn;refine U4 (o0 (ad6 q.get q.data q.tb.fit ?_));dsimp only;rw[show byScan (.ref r) es=false by unfold byScan;rfl];simp only[J5,if_false];unfold setSearch;refine o0 (CG hr hx q.get q.data q.el q.tb f0 f1 (λhz i=>?_) (λhz=>?_) 100000 0 none rfl (Q5 _) (by lia) (by unfold turns;lia) (λl hl=>by lia))
 ·refine J3 ?_;rw[es0];exact h _ s.heap (Q9.refl a s.heap) (λ_=>⟨o,es,ep,t,zs,q,pm⟩) λhn=>absurd (pm.mem_iff.mp hz) hn
 ·have hn:x∉xs:=λz=>hz (pm.mem_iff.mpr z);have fl:t.place.size+1<=t.mask:=by
   have:=q.roomy;have:=q.tb.sz;obtain⟨k,k3,hk⟩:=q.tb.pw;have:2 ^ 3<=2 ^ k:=Nat.pow_le_pow_right (by decide) k3
   lia
  obtain⟨p,hp,e2,T1,l1,_,m1,z1⟩:=q.tb.put f0 f1 fl;rw[lens]at hp;dsimp only;refine o0 (ad6 q.get q.data q.tb.fit ?_);dsimp only;generalize ht:t.put (pth t.mask (κ.hash x) n0).j=tp at *
  obtain⟨t1,p'⟩:=tp;dsimp only at e2 T1 l1 m1 z1 ⊢;subst e2;have pz:p'<=zs.length:=by rw[<-q.el.len];exact hp
  have hso:dM (insertAt es p' (κ.hash x,.ref r))=(dM es).take p'++κ.hash x::(dM es).drop p':=by unfold dM;rw[jU];simp[List.map_take,List.map_drop]
  have iz:(insertAt es p' (κ.hash x,.ref r)).size=es.size+1:=iq _ _ _ hp;have nd1:(zs.take p'++x::zs.drop p').Nodup:=by
   rw[ak6.nodup_iff,List.take_append_drop,af2];exact⟨hz,q.nd⟩
  have pm1:(zs.take p'++x::zs.drop p').Perm (xs++[x]):=by
   refine ak6.trans ?_;rw[List.take_append_drop];exact(an2.cons _ pm).trans (List.perm_append_singleton _ _).symm
  have go:∀t2:P2,TB t2 (dM (insertAt es p' (κ.hash x,.ref r)))->t2.led=t.led->t2.mask=t.mask->t2.place.size=t.place.size+1->L3 (N9 prog w) A (do
     storeSet a (insertAt es p' (κ.hash x,.ref r)) t2
     if !false&&t2.tooFull then setRelay a (grown (es.size+1))
     return true) Q E s:=by
   intro t2 T2 ld mk sz2;refine o0 (aj5 q.get q.data ?_ (aj6 (by unfold af7;lia)));have ho1:=v7 q.get q.data (insertAt es p' (κ.hash x,.ref r)) t2;have sb1:=Z0 s.heap a (ai4 (insertAt es p' (κ.hash x,.ref r)) t2);generalize hh1:s.heap.update a (ai4 (insertAt es p' (κ.hash x,.ref r)) t2)=h1 at *
   have el1:Els κ h1 (insertAt es p' (κ.hash x,.ref r)) (zs.take p'++x::zs.drop p'):=(vj q.el hx pz).keep λz v hz=>kp _ z v sb1 hz;have tf:t2.tooFull=decide ((es.size+1)*5>=t.mask*3):=by
    unfold tooFull fill;rw[T2.dm,sz2,q.tb.sz,lens,mk];simp
   by_cases c:(es.size+1)*5>=t.mask*3
   ·rw[tf,decide_eq_true c];simp only[aj8,ag5,if_true];refine o0 ?_;unfold setRelay;refine o0 (ad6 (s:={ s with heap:=h1 }) ho1 rfl T2.fit ?_);dsimp only;have gr:grown (es.size+1)=(es.size+1)*4:=by unfold grown;rw[if_neg (by lia)]
    rw[gr];obtain⟨e,e3,ee,el,eb⟩:=tS (n:=(es.size+1)*4) (by lia);obtain⟨t3,order,er,ld3,_,mk3,po,sz3,T3⟩:=AB (t:=t2) (hs:=dM (insertAt es p' (κ.hash x,.ref r))) (wanted:=(es.size+1)*4) (by simp only[dM,u8,L1];rw[iz];lia) (by lia) (by lia);have ls:(dM (insertAt es p' (κ.hash x,.ref r))).length=es.size+1:=by simp[dM,iz]
    rw[ls]at po sz3;rw[if_neg (by rw[ee,af1];lia)];have ea:(insertAt es p' (κ.hash x,.ref r)).map (·.1)=(dM (insertAt es p' (κ.hash x,.ref r))).toArray:=by apply Array.toList_inj.mp;simp[dM]
    rw[ea,er];have inr:∀k∈order.toList,k<(insertAt es p' (κ.hash x,.ref r)).size:=λk hk=>by rw[iz];exact P8.mp (po.mem_iff.mp hk)
    have eo:(order.filterMap λk=>(insertAt es p' (κ.hash x,.ref r))[k]?).toList=order.toList.map λk=>(insertAt es p' (κ.hash x,.ref r)).getD k (0,.none):=by
     rw[Array.toList_filterMap,tW inr]
    generalize he2:(order.filterMap λk=>(insertAt es p' (κ.hash x,.ref r))[k]?)=es2 at *
    have z2:es2.size=es.size+1:=by rw[<-L1,eo,u8,po.length_eq,ag3]
    refine o0 ?_;show L3 _ _ (do
     let es':=order.filterMap λk=>(insertAt es p' (κ.hash x,.ref r))[k]?
     if es'.size != (insertAt es p' (κ.hash x,.ref r)).size then ap8 "internal:set-table-lost-an-element"
     ag9 (es',t3)) _ _ _
    dsimp only;rw[he2,if_neg (by rw[z2,iz];simp)];refine J3 ?_;dsimp only;refine aj5 ho1 rfl ?_ (aj6 (by unfold af7;lia));have ho2:=v7 (h:=h1) ho1 rfl es2 t3;refine J3 (h _ _ (sb1.trans (Z0 _ a _)) (λz=>absurd z hn) λ_=>⟨_,es2,_,t3,order.toList.map λk=>(zs.take p'++x::zs.drop p').getD k x,⟨ho2,q.ex,rfl,?_,?_,?_,?_,?_,?_⟩,?_⟩)
    ·refine⟨by rw[z2,u8,po.length_eq,ag3],λi z hz'=>?_⟩;rw[L8]at hz';cases c2:order.toList[i]? with
     |none=>rw[c2]at hz';cases hz'
     |some k =>
      rw[c2]at hz';have hk:=inr k (M9 c2);have hk':k<(zs.take p'++x::zs.drop p').length:=by rw[<-el1.len];exact hk
      obtain⟨v2,g2,q2⟩:=el1.at_ k z (by rw[p9 hk' x];exact hz');refine⟨v2,?_,kp _ z v2 (sb1.trans (Z0 _ a _)) ?_⟩
      ·rw[<-T0,eo,L8,c2];simp[S9,g2]
      ·obtain⟨v3,g3,q3⟩:=(vj q.el hx pz).at_ k z (by rw[p9 hk' x];exact hz');rw[g2]at g3;cases g3;exact q3
    ·refine((po.map λk=>(zs.take p'++x::zs.drop p').getD k x).nodup_iff).mpr ?_;rw[<-iz,el1.len,nu];exact nd1
    ·have:dM es2=order.toList.map λk=>(dM (insertAt es p' (κ.hash x,.ref r))).getD k 0:=by
      unfold dM;rw[eo,Q7];refine ab3 λk hk=>?_;have hk:=inr k hk;simp[aa3,hk,List.getD]
     rw[this];exact T3
    ·rw[ld3,ld];exact q.led
    ·have:=mk3;rw[ee]at this;rw[z2];lia
    ·right;have:=mk3;rw[ee]at this;rw[z2];rcases eb with eb|eb<;>lia
    ·refine(po.map _).trans ?_;rw[<-iz,el1.len,nu];exact pm1
   ·rw[tf,decide_eq_false c];simp only[aj8,an0,J5,if_false];refine J3 (h _ _ sb1 (λz=>absurd z hn) λ_=>⟨_,_,_,t2,_,⟨ho1,q.ex,rfl,el1,nd1,T2,by rw[ld];exact q.led,by rw[iz,mk];lia,?_⟩,pm1⟩);rw[mk,iz];have:=q.small;lia
  rw[<-hso]at T1
  by_cases pl:t1.plain=true
  ·rw[if_pos pl];refine o0 (κ.byV hr hx λb=>?_);cases b with
   |true=>simp only[if_true];exact go t1 T1 l1 m1 z1
   |false=>simp only[J5,if_false];exact go _ (T1.plain false) l1 m1 z1
  ·rw[if_neg pl];refine o0 (J3 ?_);simp only[if_true];exact go t1 T1 l1 m1 z1
end L2
namespace L2
open PySem PySem.Spec PyProof.Rows PySem.SeqAt
inductive KD where
 |int (i:Int)|str (x:Str)|tup (ks:List KD)
 deriving Inhabited
def KAt(h:N0):Nat->KD->J0->Prop
 |_,.int i,v=>∃t,v=.int i t
 |_,.str x,v=>∃t,v=.str x t
 |0,.tup _,_=>False
 |n+1,.tup ds,v=>∃(a:K4) (its:Array J0),v=.ref a/\ak1 h a its/\its.size=ds.length/\∀(i:Nat) d u,ds[i]?=some d->its[i]?=some u->KAt h n d u
def hK(w:S2):Nat->KD->Int
 |_,.int i=>hashInt i
 |_,.str x=>hashStr w x
 |0,.tup _=>0
 |n+1,.tup ds=>reduceHash (T9 (ds.map (hK w n)))
theorem vf{h:N0}{n:Nat}{i:Int}{v:J0}:KAt h n (.int i) v↔∃t,v=.int i t:=by cases n<;>exact .rfl
theorem vv{h:N0}{n:Nat}{i:Str}{v:J0}:KAt h n (.str i) v↔∃t,v=.str i t:=by cases n<;>exact .rfl
theorem yY{h h':N0}{a:K4}{its:Array J0}(t:ak1 h a its)(k:∀o,o.cls=.type "tuple"->h.get? a=some o->h'.get? a=some o):ak1 h' a its :=
 let⟨o,ho,hc,hd⟩:=t
 ⟨o,k _ hc ho,hc,hd⟩
theorem KAt.upT{h h':N0}(k:∀b xs,ak1 h b xs->ak1 h' b xs):∀{n:Nat}{d:KD}{v:J0},KAt h n d v->KAt h' n d v:=by
 intro n
 induction n with
 |zero=>intro d v q;cases d<;>exact q
 |succ n ih =>
  intro d v q;cases d with
  |int _=>exact q
  |str _=>exact q
  |tup ds =>
   obtain⟨a,its,e,t,z,r⟩:=q;exact⟨a,its,e,k a _ t,z,λi d u h1 h2=>ih (r i d u h1 h2)⟩
theorem KAt.up{h h':N0}(k:∀b o,o.cls=.type "tuple"->h.get? b=some o->h'.get? b=some o){n:Nat}{d:KD}{v:J0}(q:KAt h n d v):KAt h' n d v:=q.upT λb xs t=>yY t (k b)
theorem KAt.same{h:N0}:∀(n:Nat) {d e:KD}{v:J0},KAt h n d v->KAt h n e v->d=e:=by
 intro n
 induction n with
 |zero =>
  intro d e v h1 h2;cases d with
  |int i=>cases e with
   |int j=>obtain⟨_,rfl⟩:=h1;obtain⟨_,z⟩:=h2;cases z;rfl
   |str j=>obtain⟨_,rfl⟩:=h1;obtain⟨_,z⟩:=h2;cases z
   |tup _=>exact h2.elim
  |str i=>cases e with
   |int j=>obtain⟨_,rfl⟩:=h1;obtain⟨_,z⟩:=h2;cases z
   |str j=>obtain⟨_,rfl⟩:=h1;obtain⟨_,z⟩:=h2;cases z;rfl
   |tup _=>exact h2.elim
  |tup _=>exact h1.elim
 |succ n ih =>
  intro d e v h1 h2;cases d with
  |int i=>cases e with
   |int j=>obtain⟨_,rfl⟩:=h1;obtain⟨_,z⟩:=h2;cases z;rfl
   |str j=>obtain⟨_,rfl⟩:=h1;obtain⟨_,z⟩:=h2;cases z
   |tup _=>obtain⟨_,rfl⟩:=h1;obtain⟨_,_,z,_⟩:=h2;cases z
  |str i=>cases e with
   |int j=>obtain⟨_,rfl⟩:=h1;obtain⟨_,z⟩:=h2;cases z
   |str j=>obtain⟨_,rfl⟩:=h1;obtain⟨_,z⟩:=h2;cases z;rfl
   |tup _=>obtain⟨_,rfl⟩:=h1;obtain⟨_,_,z,_⟩:=h2;cases z
  |tup ds=>cases e with
   |int j=>obtain⟨_,rfl⟩:=h2;obtain⟨_,_,z,_⟩:=h1;cases z
   |str j=>obtain⟨_,rfl⟩:=h2;obtain⟨_,_,z,_⟩:=h1;cases z
   |tup es =>
    obtain⟨a1,its,e1,⟨o,ho,hc,c,hd⟩,z,r⟩:=h1;obtain⟨a2,its2,e2,⟨o2,ho2,hc2,c2,hd2⟩,z2,r2⟩:=h2;subst e1;cases e2;rw[ho]at ho2;cases ho2;rw[hd]at hd2;cases hd2;congr 1;refine ag1 λi=>?_;rcases R1 i ds.length with q|q
    ·have q2:i<es.length:=by lia
     rw[J1 q,J1 q2];have q3:i<its.size:=by lia
     exact congrArg some (ih (r i _ _ (J1 q) (R0 q3)) (r2 i _ _ (J1 q2) (R0 q3)))
    ·rw[T4 q,T4 (by lia)]
def drK:Nat->KD->Nat
 |_,.int _=>1
 |_,.str _=>1
 |0,.tup _=>0
 |n+1,.tup ds=>(ds.map (drK n)).sum+1
section
variable{prog:N4}{w:S2}{A:P5}{E:J0->J4->Prop}{s:J4}
theorem KAt.eq:∀(n:Nat) {A:P5}{d e:KD}{v u:J0},A.units+n<ac8->KAt s.heap n d v->KAt s.heap n e u->∃b:Bool,(b=true↔d=e)/\EqAt A s v u b:=by
 intro n
 induction n with
 |zero =>
  intro A d e v u hu q1 q2;cases d with
  |tup _=>exact q1.elim
  |int i=>obtain⟨t,rfl⟩:=q1;cases e with
   |tup _=>exact q2.elim
   |int j=>obtain⟨t',rfl⟩:=q2;exact⟨i==j,by simp,EqAt.int_int _ _ _ _⟩
   |str j=>obtain⟨t',rfl⟩:=q2;exact⟨false,by simp,EqAt.int_str _ _ _ _⟩
  |str i=>obtain⟨t,rfl⟩:=q1;cases e with
   |tup _=>exact q2.elim
   |int j=>obtain⟨t',rfl⟩:=q2;exact⟨false,by simp,EqAt.str_int _ _ _ _⟩
   |str j=>obtain⟨t',rfl⟩:=q2;exact⟨i==j,by simp,EqAt.str_str _ _ _ _⟩
 |succ n ih =>
  intro A d e v u hu q1 q2;cases d with
  |int i=>obtain⟨t,rfl⟩:=q1;cases e with
   |int j=>obtain⟨t',rfl⟩:=q2;exact⟨i==j,by simp,EqAt.int_int _ _ _ _⟩
   |str j=>obtain⟨t',rfl⟩:=q2;exact⟨false,by simp,EqAt.int_str _ _ _ _⟩
   |tup _=>obtain⟨a,its,rfl,t,_⟩:=q2;exact⟨false,by simp,EqAt.int_tuple _ _ t (by lia)⟩
  |str i=>obtain⟨t,rfl⟩:=q1;cases e with
   |int j=>obtain⟨t',rfl⟩:=q2;exact⟨false,by simp,EqAt.str_int _ _ _ _⟩
   |str j=>obtain⟨t',rfl⟩:=q2;exact⟨i==j,by simp,EqAt.str_str _ _ _ _⟩
   |tup _=>obtain⟨a,its,rfl,t,_⟩:=q2;exact⟨false,by simp,EqAt.str_tuple _ _ t (by lia)⟩
  |tup ds =>
   obtain⟨a,its,rfl,t1,z1,r1⟩:=id q1;cases e with
   |int j=>obtain⟨t',rfl⟩:=q2;exact⟨false,by simp,EqAt.tuple_int _ _ t1 (by lia)⟩
   |str j=>obtain⟨t',rfl⟩:=q2;exact⟨false,by simp,EqAt.tuple_str _ _ t1 (by lia)⟩
   |tup es =>
    obtain⟨b,its2,rfl,t2,z2,r2⟩:=id q2
    by_cases ab:a=b
    ·subst ab;exact⟨true,by simp[KAt.same (n+1) q1 q2],EqAt.same _⟩
    ·have item:∀j,∃b:Bool,∀(h1:j<its.size) (h2:j<its2.size),(b=true↔ds[j]?=es[j]?)/\EqAt A.in1 s its[j] its2[j] b:=λj=>by
      by_cases h1:j<its.size
      ·by_cases h2:j<its2.size
       ·obtain⟨b,b1,b2⟩:=ih (A:=A.in1) (show A.units+1+n<ac8 by lia) (r1 j _ _ (J1 (by lia)) (R0 h1)) (r2 j _ _ (J1 (by lia)) (R0 h2));exact⟨b,λ_ _=>⟨by rw[J1 (by lia),J1 (by lia),b1];simp,b2⟩⟩
       ·exact⟨true,λ_ h=>absurd h h2⟩
      ·exact⟨true,λh=>absurd h h1⟩
     have rc:=RcAt.tuples (A:=A) (s:=s) (e:=λj=>(item j).choose) t1 t2 (by lia) λj h1 h2=>((item j).choose_spec h1 h2).2;refine⟨_,?_,EqAt.of_refs ab rc⟩;rw[N1,O4,beq_iff_eq];constructor
     ·rintro⟨h1,h2⟩;congr 1;refine ag1 λi=>?_;rcases R1 i ds.length with q|q
      ·exact((item i).choose_spec (by lia) (by lia)).1.mp (h1 i (P8.mpr (by lia)))
      ·rw[T4 q,T4 (by lia)]
     ·intro z;cases z;refine⟨λi hi=>?_,by lia⟩;have hi:=P8.mp hi;exact((item i).choose_spec (by lia) (by lia)).1.mpr rfl
theorem KAt.hash:∀(n:Nat) {A:P5}{s:J4}{E:J0->J4->Prop}{d:KD}{v:J0}{Q:Int->J4->Prop},A.units+n<ac8->KAt s.heap n d v->Q (hK w n d) { s with toks:=s.toks+drK n d }->L3 (N9 prog w) A (pyHash v) Q E s:=by
 intro n
 induction n with
 |zero =>
  intro A s E d v Q hu q h;cases d with
  |int i=>obtain⟨t,rfl⟩:=q;exact wpAny_pyHash_int h
  |str i=>obtain⟨t,rfl⟩:=q;exact wpAny_pyHash_str h
  |tup _=>exact q.elim
 |succ n ih =>
  intro A s E d v Q hu q h;cases d with
  |int i=>obtain⟨t,rfl⟩:=q;exact wpAny_pyHash_int h
  |str i=>obtain⟨t,rfl⟩:=q;exact wpAny_pyHash_str h
  |tup ks =>
   obtain⟨a,its,rfl,tp,z,r⟩:=q;obtain⟨o,ho,hc,c,hd⟩:=tp;have hT:s.TypeIs (.ref a) "tuple":=⟨o,ho,hc⟩;have hu0:A.units<ac8:=by lia
   unfold pyHash pyHashByItsType;refine o0 (wpAny_cRoomFor_or (.inr hu0) ?_);refine o0 (ai9 hT ag6.lookup ?_);show L3 _ _ (if(some (J0.builtin "tuple.__hash__")==some X8)=true then _ else _) Q E s;rw[if_neg (by rw[beq_builtin_none];exact R9)];refine o0 (ai9 hT ag6.lookup ?_);show L3 _ _ (callSpecialIfBoundUnlessNone? (.ref a) "__hash__" _ >>= _) Q E s;refine o0 (wpAny_callSpecialIfBoundUnlessNone?_slot hT ag6 (X4 ag6 hT F.entry_tuple_hash ?_ (F.args_tuple_hash_1 _)));show L3 _ _ (X6 (.ref a) >>= _) _ _ s;refine o0 (wpAny_tupleItemsOf ho hd ?_);refine o0 ?_;rw[<-aj1];refine ah5 _ (λrest (b:Array Int) s'=>∃m,m<=ks.length/\rest=its.toList.drop m/\b.toList=(ks.take m).map (hK w n)/\s'={ s with toks:=s.toks+((ks.take m).map (drK n)).sum }) _ ?_ ?_ _ _ ⟨0,Q5 _,rfl,rfl,rfl⟩
   ·rintro x rest b s' ⟨m,hm,hr,hb,rfl⟩;have lt:m<its.size:=by
     rcases R1 m its.size with q|q
     ·exact q
     ·rw[af0 (by rw[L1];exact q)]at hr;cases hr
    rw[Z6 (by rw[L1];exact lt)]at hr;obtain⟨rfl,rfl⟩:=V0.inj hr;have km:ks[m]?=some (ks[m]'(by lia)):=J1 _;refine o0 (ih (show A.in1.units+n<ac8 by show A.units+1+n<ac8;lia) (r m _ _ km (by rw[R0 lt];simp)) ?_);refine J3 ⟨m+1,by lia,rfl,?_,?_⟩
    ·rw[Array.toList_push,hb,S8,km,O1];rfl
    ·rw[S8,km,O1,List.sum_append,<-ao1];simp
   ·rintro b s' ⟨m,hm,hr,hb,rfl⟩;have:m=ks.length:=by
     rcases R1 m its.size with q|q
     ·rw[Z6 (by rw[L1];exact q)]at hr;cases hr
     ·lia
    subst this;rw[W5]at hb ⊢;show L3 _ _ (retInt (T9 b.toList)) _ _ _;rw[hb];refine wpAny_ret_mkInt ?_;show L3 _ _ (if(decide (-(2:Int) ^ 63<=T9 (ks.map (hK w n)))&&decide (T9 (ks.map (hK w n))<2 ^ 63))=true then _ else _) Q E _;have h':Q (reduceHash (T9 (ks.map (hK w n)))) { s with toks:=s.toks+((ks.map (drK n)).sum+1) }:=h;rw[<-ao1]at h';unfold reduceHash at h'
    by_cases hr2:(decide (-(2:Int) ^ 63<=T9 (ks.map (hK w n)))&&decide (T9 (ks.map (hK w n))<2 ^ 63))=true
    ·rw[if_pos hr2];rw[if_pos hr2]at h';exact J3 h'
    ·rw[if_neg hr2];rw[if_neg hr2]at h';exact o0 (ae9 (J3 h'))
end
section
variable{prog:N4}{w:S2}{A:P5}{E:J0->J4->Prop}{s:J4}
theorem uP{a:K4}{its:Array J0}{Q:Option (Array J0)->J4->Prop}(t:ak1 s.heap a its)(h:Q (some its) s):L3 (N9 prog w) A (as5 (.ref a)) Q E s:=by
 obtain⟨o,ho,hc,c,hd⟩:=t;unfold as5;refine o0 (wpAny_load ho ?_);rw[hd];exact J3 h
theorem KAt.item{h:N0}{n:Nat}{ks:List KD}{its:Array J0}(z:its.size=ks.length)(r:∀(i:Nat) d u,ks[i]?=some d->its[i]?=some u->KAt h n d u){x:J0}(hx:x∈its.toList):∃k,KAt h n k x:=by
 obtain⟨i,hi⟩:=af5.mp hx;rw[T0]at hi;have lt:=(X7.mp hi).1;exact⟨_,r i _ _ (J1 (by lia)) hi⟩
theorem KAt.quiet:∀(f n:Nat) {k:KD}{v:J0}{Q:Bool->J4->Prop},n<=f->KAt s.heap n k v->Q true s->L3 (N9 prog w) A (eqIsQuiet f v) Q E s:=by
 intro f
 induction f with
 |zero =>
  intro n k v Q hn q h;obtain rfl:n=0:=by lia
  cases k with
  |int i=>obtain⟨t,rfl⟩:=q;exact J3 h
  |str i=>obtain⟨t,rfl⟩:=q;exact J3 h
  |tup _=>exact q.elim
 |succ f ih =>
  intro n k v Q hn q h;cases k with
  |int i=>obtain⟨t,rfl⟩:=vf.mp q;exact J3 h
  |str i=>obtain⟨t,rfl⟩:=vv.mp q;exact J3 h
  |tup ks =>
   cases n with
   |zero=>exact q.elim
   |succ n =>
    obtain⟨a,its,rfl,tp,z,r⟩:=q;have hT:s.TypeIs (.ref a) "tuple":=by obtain⟨o,ho,hc,_⟩:=tp;exact⟨o,ho,hc⟩
    unfold eqIsQuiet;refine o0 (ai9 hT F.slot_tuple_eq.lookup ?_);show L3 _ _ (isInstance (.ref a) (.type "tuple") >>= _) _ _ s;refine o0 (wpAny_isInstance hT isSubtype_tuple_tuple ?_);simp only[ac4,J5,if_false];refine o0 (uP tp ?_);refine o0 ?_;show L3 _ _ (forIn its _ _) _ _ s;rw[<-aj1];refine ah5 _ (λrest b s'=>s'=s/\b=(none,())/\∀x∈rest,x∈its.toList) _ ?_ ?_ _ _ ⟨rfl,rfl,λ_ z=>z⟩
    ·rintro x rest b s' ⟨rfl,rfl,hr⟩;obtain⟨k,hk⟩:=KAt.item z r (hr x (.head _));refine o0 (ih n (by lia) hk ?_);simp only[ac4,J5,if_false];exact J3 ⟨rfl,rfl,λy hy=>hr y (.tail _ hy)⟩
    ·rintro b s' ⟨rfl,rfl,_⟩;exact J3 h
theorem KAt.noCls:∀(f n:Nat) {k:KD}{v:J0}{Q:Bool->J4->Prop},n<=f->KAt s.heap n k v->Q false s->L3 (N9 prog w) A (ofAClassStatement f v) Q E s:=by
 intro f
 induction f with
 |zero =>
  intro n k v Q hn q h;obtain rfl:n=0:=by lia
  cases k with
  |int i=>obtain⟨t,rfl⟩:=q;exact J3 h
  |str i=>obtain⟨t,rfl⟩:=q;exact J3 h
  |tup _=>exact q.elim
 |succ f ih =>
  intro n k v Q hn q h;cases k with
  |int i=>obtain⟨t,rfl⟩:=vf.mp q;exact J3 h
  |str i=>obtain⟨t,rfl⟩:=vv.mp q;exact J3 h
  |tup ks =>
   cases n with
   |zero=>exact q.elim
   |succ n =>
    obtain⟨a,its,rfl,tp,z,r⟩:=q;have hT:s.TypeIs (.ref a) "tuple":=by obtain⟨o,ho,hc,_⟩:=tp;exact⟨o,ho,hc⟩
    unfold ofAClassStatement;refine o0 (ai1 hT ?_);dsimp only;rw[if_pos (by rfl)];refine o0 (J3 ?_);simp only[ac4,J5,if_false];refine o0 (uP tp ?_);dsimp only;refine o0 ?_;rw[<-aj1];refine ah5 _ (λrest b s'=>s'=s/\b=(none,())/\∀x∈rest,x∈its.toList) _ ?_ ?_ _ _ ⟨rfl,rfl,λ_ z=>z⟩
    ·rintro x rest b s' ⟨rfl,rfl,hr⟩;obtain⟨k,hk⟩:=KAt.item z r (hr x (.head _));refine o0 (ih n (by lia) hk ?_);simp only[J5,if_false];exact J3 ⟨rfl,rfl,λy hy=>hr y (.tail _ hy)⟩
    ·rintro b s' ⟨rfl,rfl,_⟩;exact J3 h
theorem KAt.byV:∀(f n:Nat) {k:KD}{v:J0}{Q:Bool->J4->Prop},KAt s.heap n k v->(∀b,Q b s)->L3 (N9 prog w) A (hashByValue f v) Q E s:=by
 intro f
 induction f with
 |zero =>
  intro n k v Q q h;cases k with
  |int i=>obtain⟨t,rfl⟩:=vf.mp q;exact J3 (h _)
  |str i=>obtain⟨t,rfl⟩:=vv.mp q;exact J3 (h _)
  |tup _=>cases n with
   |zero=>exact q.elim
   |succ n=>obtain⟨a,its,rfl,_⟩:=q;exact J3 (h _)
 |succ f ih =>
  intro n k v Q q h;cases k with
  |int i=>obtain⟨t,rfl⟩:=vf.mp q;exact J3 (h _)
  |str i=>obtain⟨t,rfl⟩:=vv.mp q;exact J3 (h _)
  |tup ks =>
   cases n with
   |zero=>exact q.elim
   |succ n =>
    obtain⟨a,its,rfl,tp,z,r⟩:=q;have hT:s.TypeIs (.ref a) "tuple":=by obtain⟨o,ho,hc,_⟩:=tp;exact⟨o,ho,hc⟩
    unfold hashByValue;refine o0 (ai9 hT ag6.lookup ?_);dsimp only;refine o0 (uP tp ?_);refine o0 ?_;show L3 _ _ (forIn its _ _) _ _ s;rw[<-aj1];refine ah5 _ (λrest b s'=>s'=s/\b=(none,())/\∀x∈rest,x∈its.toList) _ ?_ ?_ _ _ ⟨rfl,rfl,λ_ z=>z⟩
    ·rintro x rest b s' ⟨rfl,rfl,hr⟩;obtain⟨k,hk⟩:=KAt.item z r (hr x (.head _));refine o0 (ih n hk λb=>?_);cases b with
     |true =>
      simp only[ac4,J5,if_false];exact J3 ⟨rfl,rfl,λy hy=>hr y (.tail _ hy)⟩
     |false =>
      simp only[aj8,if_true];exact J3 (J3 (h _))
    ·rintro b s' ⟨rfl,rfl,_⟩;exact J3 (h _)
end
def qA(h0 h:N0):Prop:=∀b o,h0.get? b=some o->h.get? b=some o
theorem KAt.kept{h0 h:N0}{n:Nat}{d:KD}{v:J0}(q:KAt h0 n d v)(k:qA h0 h):KAt h n d v:=q.up λb o _ e=>k b o e
def tK(prog:N4)(w:S2)(n:Nat)(hn:n<=8)(h0:N0)(V:J0->Prop):TK prog w (List KD) where
 is h ks v:=qA h0 h/\KAt h0 n (.tup ks) v/\V v
 hash ks:=hK w n (.tup ks)
 room A:=A.units+n<ac8
 pyHash hr hx h:=KAt.hash n hr (hx.2.1.kept hx.1) (h _ (ah4 _ _))
 eqB hr hx hy:=by
  obtain⟨b,h1,h2⟩:=KAt.eq n hr (hx.2.1.kept hx.1) (hy.2.1.kept hy.1);exact⟨b,by rw[h1];simp,h2⟩
 quiet _ hx h:=KAt.quiet 8 n hn (hx.2.1.kept hx.1) h
 noCls _ hx h:=KAt.noCls 8 n hn (hx.2.1.kept hx.1) h
 byV _ hx h:=KAt.byV 8 n (hx.2.1.kept hx.1) h
 ref {h x v} hx:=by
  obtain⟨_,hx,_⟩:=hx;cases n with
  |zero=>exact hx.elim
  |succ n=>obtain⟨a,_,e,_⟩:=hx;exact⟨a,e⟩
end L2
namespace L2
open PySem PySem.Spec PyProof.Rows
open Classical in
def kj{τ:Type}(xs:List τ)(x:τ):List τ:=if x∈xs then xs else xs++[x]
def iW{τ:Type}(xs:List τ):List τ:=xs.foldl kj []
section
variable{τ:Type}
theorem wR(xs:List τ)(x:τ):(kj xs x).length<=xs.length+1:=by unfold kj;split<;>simp
theorem pL:∀(xs zs:List τ),(xs.foldl kj zs).length<=zs.length+xs.length
 |[],_=>J6 _
 |x::xs,zs=>by
  have:=pL xs (kj zs x);have:=wR zs x;simp only[af4,O3];lia
theorem rY(xs:List τ):(iW xs).length<=xs.length:=by have:=pL xs [];simpa[iW]using this
theorem xq(xs:List τ)(i:Nat)(h:i<xs.length):iW (xs.take (i+1))=kj (iW (xs.take i)) xs[i]:=by
 rw[List.take_succ_eq_append_getElem h,iW,List.foldl_append];rfl
end
section
variable{prog:N4}{w:S2}{A:P5}{R:ar9->J4->Prop}{I:K4}{fp wr:List K4}{G:Array an6->Array an6->Prop}{P:Nat->J0->Prop}{St:Nat->J4->Prop}
theorem Gx{V:J0->Prop}{n:Nat}{hn:n<=8}{h0:N0}{xs:List (List KD)}(W:WalksS prog w A.in1 I fp wr G xs.length P St)(S:K4)(hSf:S∉fp)
  (hfr:∀b∈S::wr,h0.get? b=none) (hu:A.in1.units+n<ac8) (hval:∀i v (h:i<xs.length),P i v->KAt h0 n (.tup xs[i]) v/\V v) (hb:xs.length<1000) :
  ∀(k i:Nat) (s:J4),xs.length-i=k->i<=xs.length->St i s->qA h0 s.heap->kS (tK prog w n hn h0 V) s.heap S (iW (xs.take i)) ->
   (∀s',Moved (S::wr) G s s'->qA h0 s'.heap->kS (tK prog w n hn h0 V) s'.heap S (iW xs)->R (.ok (.ret .none)) s') ->
   ah7 (N9 prog w) A (.builtin "set.update.loop" ⟨[.ref S,.ref I],[]⟩) R s:=by
 have hSw:S∉wr:=λh=>hSf (W.sub _ h);have hsub:∀b∈wr,b∈S::wr:=λb hb=>O6 _ hb;intro k
 induction k with
 |zero =>
  intro i s hk hi hst hK hS hR;have hin:i=xs.length:=by lia
  subst hin;refine W3 ae7 ?_;rw[U2 X0 _];show L3 _ A.in1 (an1 (.ref I) >>= _) _ _ s;refine o0 (W.done s _ _ hst λs' hm=>?_);show L3 _ A.in1 (ret X8) _ _ s';rw[W5]at hS;have hK':qA h0 s'.heap:=λb o e=>hm.heap b o (λq=>by rw[hfr b (hsub b q)]at e;cases e) (hK b o e);exact J3 (hR s' (hm.mono hsub) hK' (hS.mono (λo e=>hm.heap S _ hSw e) λz v q=>⟨hK',q.2⟩))
 |succ k ih =>
  intro i s hk hi hst hK hS hR;have hlt:i<xs.length:=by lia
  refine W3 ae7 ?_;rw[U2 X0 _];show L3 _ A.in1 (an1 (.ref I) >>= _) _ _ s;refine o0 (W.item i s _ _ hlt hst λv s' hP hst' hm=>?_);have hx:=hval i v hlt hP;have hK':qA h0 s'.heap:=λb o e=>hm.heap b o (λq=>by rw[hfr b (hsub b q)]at e;cases e) (hK b o e);have hS':kS (tK prog w n hn h0 V) s'.heap S (iW (xs.take i)):=hS.mono (λo e=>hm.heap S _ hSw e) λz v q=>⟨hK',q.2⟩;show L3 _ A.in1 (aq5 [v] (setAdd S v) >>= _) _ _ s';refine o0 (U4 ?_);unfold setAdd;refine U4 ?_;refine o0 ((tK prog w n hn h0 V).pyHash (x:=xs[i]) hu ⟨hK',hx⟩ λtk htk=>?_);have hroom:(iW (xs.take i)).length<1000:=by have:=rY (xs.take i);rw[N2]at this;lia
  have kpt:∀h',Q9 S s'.heap h'->qA h0 h':=λh' sb b o e=>by
   rw[sb.2 b λz=>by rw[z,hfr S (.head _)]at e;cases e];exact hK' b o e
  refine Gs (s:={ s' with toks:=tk }) (κ:=tK prog w n hn h0 V) hu ⟨hK',hx⟩ hS' hroom (λh' z v sb q=>⟨kpt h' sb,q.2⟩) λb h' hsb y1 y2=>?_;have hSi:kS (tK prog w n hn h0 V) h' S (iW (xs.take (i+1))):=by
   rw[xq xs i hlt];unfold kj
   split
   ·rename_i c;exact y1 c
   ·rename_i c;exact y2 c
  refine J3 ⟨ag4 X0 _,ih (i+1) _ (by lia) hlt (W.frame _ s' _ _ hst' htk λb hb o e=>?_) (kpt h' hsb) hSi λs'' hm'' hK'' hS''=>?_⟩
  ·rw[hsb.2 b (λh:b=S=>hSf (by rw[<-h];exact hb))];exact e
  ·refine hR s'' (Moved.trans W.gtrans ((hm.mono hsub).then_heap htk λb o hb e=>?_) hm'') hK'' hS'';rw[hsb.2 b (λh:b=S=>hb (by rw[h];exact R4))];exact e
end
section
variable{prog:N4}{w:S2}{A:P5}{E:J0->J4->Prop}{s:J4}
theorem CV{V:J0->Prop}{n:Nat}{hn:n<=8}{h0 h:N0}{a:K4}(g:h.get? a=some (fK w)):kS (tK prog w n hn h0 V) h a [] :=
 ⟨_,#[],0,_,[],⟨g,⟨rfl,rfl,rfl⟩,rfl,⟨rfl,λi z hz=>by simp at hz⟩,.nil,⟨rfl,λi j _ hj=>by simp[aj9]at hj,λi hi=>by simp[aj9]at hi,rfl,⟨3,by lia,rfl⟩,by simp[aj9],λi h q=>by simp[dM]at q⟩,rfl,by simp[aj9],.inl (by simp[aj9])⟩,.refl _⟩
end
end L2
namespace L2
open PySem PySem.Spec PyProof.Rows PySem.SeqAt
mutual
def Cm:KD->KD->Prop
 |.int _,.int _=>True
 |.str _,.str _=>True
 |.tup a,.tup b=>Cms a b
 |_,_=>False
def Cms:List KD->List KD->Prop
 |a::as,b::bs=>Cm a b/\Cms as bs
 |_,_=>True
end
end L2
namespace L2
open PySem PySem.W PySem.Calls PyProof.Rows PySem.SeqAt
end L2
namespace L2
open PySem PySem.Spec PyProof.Rows PySem.Calls PySem.SeqAt
mutual
def kd:KD->D
 |.int i=>.int i
 |.str x=>.str x
 |.tup ks=>.tup (kds ks)
def kds:List KD->List D
 |[]=>[]
 |k::ks=>kd k::kds ks
end
theorem mm:∀ks,kds ks=ks.map kd
 |[]=>by simp[kds]
 |k::ks=>by simp[kds,mm ks]
mutual
theorem DG:∀{a b:KD},kd a=kd b->a=b
 |.int _,.int _,h=>by simp[kd]at h;rw[h]
 |.int _,.str _,h=>by simp[kd]at h
 |.int _,.tup _,h=>by simp[kd]at h
 |.str _,.int _,h=>by simp[kd]at h
 |.str _,.str _,h=>by simp[kd]at h;rw[h]
 |.str _,.tup _,h=>by simp[kd]at h
 |.tup _,.int _,h=>by simp[kd]at h
 |.tup _,.str _,h=>by simp[kd]at h
 |.tup a,.tup b,h=>by simp only[kd,D.tup.injEq]at h;rw[vD h]
theorem vD:∀{a b:List KD},kds a=kds b->a=b
 |[],[],_=>rfl
 |[],_::_,h=>by simp[kds]at h
 |_::_,[],h=>by simp[kds]at h
 |a::as,b::bs,h=>by
  simp only[kds,O0]at h;rw[DG h.1,vD h.2]
end
def wb(ks:List KD):D:=.tup (kds ks)
def dpK:Nat->KD->Prop
 |_,.int _=>True
 |_,.str _=>True
 |0,.tup _=>False
 |n+1,.tup ks=>∀k∈ks,dpK n k
section
variable{X:Cx}{af:List (K4×Obj)}{s:J4}{σ:St}{H:Hp}{M:DH}{K:H0}
theorem Br(I:Inv X af σ H s):∀(n:Nat) {k:KD}{v:V}{u:J0},dpK n k->Rep X.K M H (kd k) v->aL v u->KAt s.heap n k u:=by
 intro n
 induction n with
 |zero =>
  intro k v u hd r q;cases k with
  |int i=>simp only[kd,Rep]at r;subst r;exact q
  |str i=>simp only[kd,Rep]at r;subst r;exact q
  |tup _=>exact hd.elim
 |succ n ih =>
  intro k v u hd r q;cases k with
  |int i=>simp only[kd,Rep]at r;subst r;exact q
  |str i=>simp only[kd,Rep]at r;subst r;exact q
  |tup ks =>
   simp only[kd,Rep]at r;obtain⟨a,vs,rfl,t,rl⟩:=r;cases q;obtain⟨its,rv,tp,hz⟩:=I.tuple t.sq;refine⟨a,its.toArray,rfl,tp,?_,λi d u h1 h2=>?_⟩
   ·rw[J8,<-rv.length,<-rl.length,mm,u8]
   ·obtain⟨v,g,r⟩:=rl.get (i:=i) (d:=kd d) (by rw[mm,L8,h1];rfl);obtain⟨u',g',r'⟩:=rv.get g;rw[List.getElem?_toArray,g']at h2;cases h2;exact ih (hd d (M9 h1)) r r'
theorem xR(I:Inv X af σ H s){n:Nat}{ks:List (List KD)}{vs:List V}{its:List J0}(hd:∀k∈ks,dpK n (.tup k))(rl:aq X.K M H (ks.map wb) vs)(rv:ay vs its){i:Nat}{k:List KD}{u:J0}(h1:ks[i]?=some k)(h2:its[i]?=some u):KAt s.heap n (.tup k) u:=by
 obtain⟨v,g,r⟩:=rl.get (i:=i) (d:=wb k) (by rw[L8,h1];rfl);obtain⟨u',g',r'⟩:=rv.get g;rw[g']at h2;cases h2;exact Br I n (k:=.tup k) (hd k (M9 h1)) (by simp only[kd];exact r) r'
theorem evD{a:N8}{ta:TEd}{Δ:DE}{R:D->DH->Prop}{Q:J0->J4->Prop}(ha:PEd X a ta)(I:Inv X af σ H s)(sr:SR X.K M H σ Δ)(hr:HR X.K M H)(q:ta Δ M R)
  (k:∀u s1 v H1 x M1,Inv X af σ H1 s1->aL v u->R x M1->HR X.K M1 H1->Rep X.K M1 H1 x v->Ext M H M1 H1->Q u s1):L3 (N9 X.prog X.w) X.A (ad7 a X.env) Q X.xe s :=
 thn (ha af s σ H (λv H1=>∃x M1,R x M1/\HR X.K M1 H1/\Rep X.K M1 H1 x v/\Ext M H M1 H1) I ⟨Δ,M,R,sr,hr,q,λx M1 v H1 q1 e1 hr1 rv=>⟨x,M1,q1,hr1,rv,e1⟩⟩) λu s1 ⟨v,H1,I1,r1,x,M1,q1,hr1,rv,e1⟩=>k u s1 v H1 x M1 I1 r1 q1 hr1 rv e1
end
end L2
namespace L2
open PySem PySem.Spec PyProof.Rows PySem.Calls PySem.SeqAt PySem.W
open Classical in
instance decKs:DecidableEq (List KD):=λ_ _=>propDecidable _
end L2
namespace L2
open PySem PySem.Spec PyProof.Rows PySem.Calls PySem.SeqAt
end L2
namespace L2
open PySem PySem.Spec PyProof.Rows
end L2
namespace L2
open PySem PySem.Spec PyProof.Rows PySem.Calls PySem.SeqAt
end L2
namespace L2
open PySem PySem.Spec PyProof.Rows
section
variable{prog:N4}{w:S2}{A:P5}{E:J0->J4->Prop}{s:J4}
theorem ue{n:Nat}{hn8:n<=8}{l:K4}{items:Array J0}{xs:List (List KD)}{Q:J0->J4->Prop}
  (hh:A.handled=none) (hu:A.units+n+8<ac8) (hl:s.heap.IsTuple l items) (hn:items.size=xs.length) (hi:∀(i:Nat) k u,xs[i]?=some k->items[i]?=some u->KAt s.heap n (.tup k) u) (hb:xs.length<1000)
  (h:∀(h':N0) (tk:Nat),kS (tK prog w n hn8 s.heap (·∈items)) h' s.heap.objs.size (iW xs)->qA s.heap h'->Q (.ref s.heap.objs.size) { s with heap:=h',toks:=tk }) :
  L3 (N9 prog w) A (call (.type "set") [.ref l]) Q E s:=by
 obtain⟨c,tl,hmro⟩:=P4.mro;have hmade:=P4.made;have hsub:=P4.sub;refine wpAny_call (al8 ?_);show L3 _ _ (callAny (.type "set") _) _ _ _;refine J3 ⟨Code.quiet_builtin _ (by decide +kernel),W3 PySem.F.entry_type_call ?_⟩;rw[P5.under_plain (weight_type_call_type "set" [.ref l] []) rfl];have h1:=P4.notType;have h2:=P4.canCreate;have hct:=PySem.F.typeCall_set_1 (.ref l)
 repeat (any_goals (first|assumption|wp_step))
 refine ad8 (rj (.ref l) (E:=E) (Q₁:=λobj s₁=>obj=.ref s.heap.objs.size/\s₁={ s with heap:=s.heap.push (fK w) }) ⟨rfl,rfl⟩) λr s₁ hr=>?_;cases r with
 |error e=>exact hr
 |ok fl =>
  cases fl with
  |ret obj =>
   obtain⟨rfl,rfl⟩:=hr;have hS:(s.heap.push (fK w)).get? s.heap.objs.size=some (fK w):=K6 _ rfl;have hT:J4.TypeIs { s with heap:=s.heap.push (fK w) } (.ref s.heap.objs.size) "set":=⟨_,hS,rfl⟩;have hli:=P4.init.lookup;have hbi:=P4.init.bind (.ref s.heap.objs.size)
   repeat (any_goals (first|assumption|wp_step))
   refine ad8 (codeAny_call_builtin (R:=wants (λr s₂=>r=.none/\∃h' tk,s₂={ s with heap:=h',toks:=tk } /\
     kS (tK prog w n hn8 s.heap (·∈items)) h' s.heap.objs.size (iW xs)/\qA s.heap h') E) P4.init.plain PySem.F.entry_set_init (check_set_init_1 hT ?_)) λr₂ s₂ hr₂=>?_
   ·obtain⟨ol,hol,hcl,nl,hdl⟩:=hl;obtain⟨ocls,odict,odata,oslots⟩:=ol;simp only at hcl hdl;subst hcl;subst hdl;have hol':(s.heap.push (fK w)).get? l=some { cls:=.type "tuple",dict:=odict,data:=.seq items nl,slots:=oslots }:=I0 _ hol;have hsls:=PySem.F.sub_tuple_set;have hslf:=PySem.F.sub_tuple_frozenset;have hne:(al0 "tuple"==al0 "dict")=false:=by decide
    have hl1:(s.heap.push (fK w)).IsTuple l items:=⟨_,hol',rfl,nl,rfl⟩;unfold L6.«set.__init__» noKeywords L6.Frozenset.updateFrom;generalize hPI:ap2=PI
    wp_walk
    subst hPI;refine aa2 hl1 ?_;refine o0 (wpAny_runValue ?_);have hlS:l<s.heap.objs.size:=K7 hol;have hh3:A.in1.in1.in1.handled=none:=by simp[hh]
    have hneI:l≠(s.heap.push (fK w)).objs.size:=by
     rw[V1];exact L7 (V8 hlS)
    have hSf:s.heap.objs.size∉[(s.heap.push (fK w)).objs.size,l]:=by
     rw[V1];simp only[L5,K0,P0,or_false,not_or];exact⟨L7 (ae8 _),ab9 hlS⟩
    have W:=(Walks.tuple (prog:=prog) (w:=w) hh3 _ l hneI items).toS;rw[hn]at W;have frs:∀b,s.heap.objs.size<=b->s.heap.get? b=none:=λb hb=>N0.get?_none_of_le hb;refine Gx (V:=(·∈items)) (n:=n) (hn:=hn8) (h0:=s.heap) (xs:=xs) W s.heap.objs.size hSf (λb hb=>?_) (show A.units+1+1+1+n<ac8 by lia) (λi v hlt hv=>⟨hi i _ _ (J1 hlt) hv,Array.mem_of_getElem? hv⟩) hb (xs.length-0) 0 _ (by lia) (Q5 _) ?St0 ?hK0 ?hS0 ?hR
    case St0=>exact⟨⟨_,K6 _ rfl,rfl,rfl⟩,(hl1.push _)⟩
    ·rcases L5.mp hb with rfl|hb
     ·exact frs _ (J6 _)
     ·rw[K0.mp hb,V1];exact frs _ (ah8 _)
    case hK0=>exact λb o e=>I0 _ (I0 _ e)
    case hS0=>exact CV (I0 _ hS)
    case hR =>
     intro s' hm hK' hS';obtain⟨h',g',d',tk',os'⟩:=s';have eg:g'=s.gens:=hm.gens;have ed:d'=s.drawn:=hm.drawn;have eo:os'=s.os:=hm.os;subst eg;subst ed;subst eo;show L3 _ _ _ _ _ _;refine J3 ?_;show L3 _ _ (ret X8) _ _ _;exact J3 ⟨rfl,h',tk',rfl,hS',hK'⟩
   ·cases r₂ with
    |error e=>exact hr₂
    |ok fl₂ =>
     cases fl₂ with
     |ret r =>
      obtain⟨rfl,h',tk,rfl,hS',hk'⟩:=hr₂
      repeat (any_goals (first|assumption|wp_step))
      exact h _ _ hS' hk'
     |_=>exact hr₂.elim
  |_=>exact hr.elim
end
section
open PySem.Calls PySem.SeqAt
variable{X:Cx}{af:List (K4×Obj)}{s:J4}{σ:St}{H:Hp}{M:DH}{K:H0}
end
end L2
namespace L2
open PySem PySem.Spec PyProof.Rows PySem.Calls PySem.SeqAt
section
variable{X:Cx}{af:List (K4×Obj)}{s:J4}{σ:St}{H:Hp}{M:DH}{K:H0}
def dLS(ta:TEd):TEd:=λΔ M Q=>ta Δ M λx M1=>(∃ks:List (List KD),rdM M1 x=.tup (ks.map wb)/\(∀k∈ks,dpK 8 (.tup k))/\ks.length<1000/\Q (.int ((iW ks).length:Nat)) M1)∨(∃xs:List Str,rdM M1 x=.lst (xs.map .str)/\xs.length<1000/\Q (.int ((gH xs).length:Nat)) M1)
theorem GW{a:N8}{ta:TEd}{p0 p1 q0 q1:Pos}(hc:X.calm=true)(hu:X.A.units+64<ac8)(hgS:Gl X "len")(hmS:X.mg "len"=none)(hg:Gl X "set")(hm:X.mg "set"=none)(ha:QEd X a ta)
  (he0:K8 [.Call (.Name "set" p1) [a] [] q1] X.env=(false,ad7 (.Call (.Name "set" p1) [a] [] q1) X.env)::K8 [] X.env:=by rfl)
  (he1:K8 [a] X.env=(false,ad7 a X.env)::K8 [] X.env:=by rfl)
  (hp0:(ab1 q0 (K8 [] X.env)).any (·.1)=false:=by rfl) (hp1:(ab1 q1 (K8 [] X.env)).any (·.1)=false:=by rfl) :
  QEd X (.Call (.Name "len" p0) [.Call (.Name "set" p1) [a] [] q1] [] q0) (dLS ta):=by
 simp only[QEd.eq]at *
 intro af s σ H Q I ⟨Δ,M,R,sr,hr,q,k⟩;refine aa0 (fv I hgS hmS (u:=.builtin "len") (by kernel_rfl) ?_ (by decide) (by decide));refine PyProof.Rows.callWith_builtin1 ?_ he0 hp0;rw[he0];show L3 _ _ (spliced ((false,ad7 _ X.env)::ab1 q0 (K8 [] X.env))) _ _ s;refine ai7 ?_;refine aa0 (fv I hg hm (u:=.type "set") (by kernel_rfl) ?_ (by decide) (by decide));refine S6 ?_ he1 hp1;rw[he1];show L3 _ _ (spliced ((false,ad7 a X.env)::ab1 q1 (K8 [] X.env))) _ _ s;refine ai7 (evD ha I sr hr q λu s1 v H1 x M1 I1 r1 hx hr1 rv0 e1=>?_);have rv:=rv0.rd hr1;refine af9 ?_;rcases hx with⟨ks,ex,hk8,hl,q2⟩|⟨xs,ex,hl,q2⟩
 ·rw[ex]at rv;obtain⟨l,vs,rfl,sq,rl⟩:=rv;cases r1;obtain⟨its,rvs,pl,hz⟩:=I1.tuple sq;have hn:ks.length=its.length:=by rw[<-rvs.length,<-rl.length,u8]
  have hat:∀(i:Nat) k u,ks[i]?=some k->its[i]?=some u->KAt s1.heap 8 (.tup k) u:=λi k u h1 h2=>xR I1 hk8 rl rvs h1 h2;refine ue (n:=8) (hn8:=J6 _) (I1.ok.hd hc) (by lia) pl (by simp[hn]) (λi k u h1 h2=>hat i k u h1 (by simpa using h2)) hl λh' tk hS kp=>?_;refine af9 ?_;obtain⟨o,es,ep,t,zs,qs,pm⟩:=hS;have hzs:es.size=(iW ks).length:=by rw[qs.el.len,pm.length_eq]
  have I2:Inv X af σ H1 { s1 with heap:=h',toks:=tk }:=I1.kept kp;have hml:=rY ks;refine call_len_set (s:={ s1 with heap:=h',toks:=tk }) qs.get qs.ex qs.data qs.tb.fit (by lia) ?_;rw[hzs];exact⟨.int _,H1,I2.tok _,⟨_,rfl⟩,k _ _ _ _ q2 e1 hr1 (by simp only[Rep])⟩
 ·rw[ex]at rv;obtain⟨l,vs,rfl,sq,rl⟩:=rv;cases r1;obtain⟨its,rvs,pl,hz⟩:=I1.list (SqL.of sq);have hn:xs.length=its.length:=by rw[<-rvs.length,<-rl.length,u8]
  refine wB (xs:=xs) (I1.ok.hd hc) pl.isList (by simp[hn]) (λi hi=>?_) (by unfold af7;lia) λh' tk hS kp=>?_
  ·obtain⟨v,g,r⟩:=rl.get (i:=i) (d:=.str xs[i]) (by rw[L8,J1 hi];rfl);obtain⟨u,g',r'⟩:=rvs.get g;simp only[Rep]at r;subst r;obtain⟨t,rfl⟩:=r';exact⟨t,by simpa using g'⟩
  refine af9 ?_;obtain⟨o,es,ep,t,qs,pm⟩:=hS;have hzs:es.size=(gH xs).length:=by
   have:=pm.length_eq;rw[u8,L1]at this;exact this
  have I2:Inv X af σ H1 { s1 with heap:=h',toks:=tk }:=I1.kept kp;have hml:(gH xs).length<=xs.length:=by have:=kY xs [];simpa[gH]using this
  refine call_len_set (s:={ s1 with heap:=h',toks:=tk }) qs.get qs.ex qs.data qs.fit (by lia) ?_;rw[hzs];exact⟨.int _,H1,I2.tok _,⟨_,rfl⟩,k _ _ _ _ q2 e1 hr1 (by simp only[Rep])⟩
end
end L2
namespace L2
open PySem PySem.Spec PyProof.Rows PySem.Builtin PySem.Builtin.Str StrLaws
end L2
namespace L2
open PySem PySem.Spec PyProof.Rows
open AutoSeq1 (wpAny_loadPart')
theorem bV.is{P:N4}{w:S2}{H:Hp}{h:N0}{a:K4}{o:HO}(x:bV P w H h a o):∃u,h.get? a=some u:=by
 cases o with
 |lst xs=>obtain⟨_,_,_,_,e⟩:=x;exact⟨_,e⟩
 |tup xs=>obtain⟨_,_,_,ob,e,_⟩:=x;exact⟨_,e⟩
 |dK kvs=>obtain⟨_,_,_,_,o,_,_,e,_⟩:=x;exact⟨_,e⟩
 |dT kvs=>obtain⟨_,_,_,_,o,_,_,e,_⟩:=x;exact⟨_,e⟩
 |set S n=>obtain⟨o,_,_,_,e,_⟩:=x;exact⟨_,e⟩
 |ins C dx fs=>obtain⟨_,_,_,e,_⟩:=x;exact⟨_,e⟩
 |own y=>exact x
 |xd fs=>obtain⟨_,⟨_,_,_,e,_⟩,_⟩:=x;exact⟨_,e⟩
 |rng lo hi=>obtain⟨_,_,_,e⟩:=x;exact⟨_,e⟩
 |frz ob u=>obtain⟨e,_⟩:=x;exact⟨_,e⟩
 |tbl ps=>exact⟨_,x⟩
 |met f y=>exact⟨_,x⟩
 |ext φ=>exact x.2.1
end L2
namespace L2
open PySem PySem.Spec PySem.Calls PyProof.Rows PySem.W PySem.Builtin PySem.Builtin.ObjectAttr PySem.Builtin.Getset_descriptor
end L2
namespace L2
open PySem PySem.Spec PyProof.Rows
def G1(j:Nat)(E:gE):gE where
 nx:=λΔ M=>∃M3,LeM M3 M/\E.nx (Δ.set j none) M3
 bk:=λΔ M=>∃M3,LeM M3 M/\E.bk (Δ.set j none) M3
 ct:=λΔ M=>∃M3,LeM M3 M/\E.ct (Δ.set j none) M3
 rt:=λd M=>∃M3,LeM M3 M/\E.rt d M3
def Ea(K:H0)(P:K4):H0:=K.filter λp=>p.1 != P
theorem eF{P a:K4}(h:a≠P):∀K:H0,(Ea K P).lookup a=K.lookup a
 |[]=>rfl
 |(b,o)::K=>by
  have ih:=eF h K;unfold Ea at ih ⊢
  by_cases hb:b=P
  ·rw[List.filter_cons_of_neg (by simp[hb]),ih,P6,beq_eq_false_iff_ne.mpr (λe=>h (e.trans hb))]
  ·rw[List.filter_cons_of_pos (by simp[hb]),P6,P6,ih]
theorem bg.cut{K:H0}{P f:K4}{x:Str}{st:aa6}{fd:L4}(i:bg K x st f fd)(hP:K.lookup P=some (PySem.W.tabObj #[])):bg (Ea K P) x st f fd:=by
 obtain⟨a,⟨oc,od,kV,doc,pm,an,cdv,ct,osl,e,lk,hcd⟩,kp⟩:=i;have hf:f≠P:=λz=>by rw[z,hP]at lk;cases lk
 have hg:K9≠P:=λz=>by
  unfold M0 at a;rw[z,hP]at a;cases a
 refine⟨?_,⟨oc,od,kV,doc,pm,an,cdv,ct,osl,e,(eF hf K).trans lk,?_⟩,?_⟩
 ·unfold M0 at a ⊢;rw[eF hg];exact a
 ·cases cdv<;>try (exact hcd)
  rename_i c;have hc:c≠P:=λz=>by
   unfold ah1 at hcd;rw[z]at hcd;simp only[hP]at hcd;cases hcd
  unfold ah1 at hcd ⊢;simp only[eF hc];exact hcd
 ·unfold ac5;simp only[eF hf,lk]
end L2
namespace L2
open PySem PySem.Spec PySem.Calls PyProof.Rows
end L2
namespace L2
open PySem PySem.Spec PyProof.Rows
section
variable{X:Cx}{a:N8}{p p2 pos pos2:Pos}
def FF(ta:TAd):TEd:=λΔ M Q=>ta Δ M λds M1=>∃j:Int,ds=[.int j]/\0<=j/\j<=1000000/\∀l,M1 l=none->Q (.ref l) (aT M1 l (.lst (jX 0 j.toNat)))
theorem qz{ta:TAd}(cQ:X.calm=true)(hg:Gl X "list")(hm:X.mg "list"=none)(hg2:Gl X "range")(hm2:X.mg "range"=none)(ha:QAd X [a] ta)(hs:K8 [a] X.env=[(false,ad7 a X.env)]:=by rfl)
  (hs2:K8 [.Call (.Name "range" p2) [a] [] pos2] X.env=[(false,ad7 (.Call (.Name "range" p2) [a] [] pos2) X.env)]:=by rfl):QEd X (.Call (.Name "list" p) [.Call (.Name "range" p2) [a] [] pos2] [] pos) (FF ta):=by
 simp only[QEd.eq,QAd.eq]at *
 exact(jQ cQ hg hm hg2 hm2 ha hs hs2).conv λσ H Q hup=>hup.el λΔ M R sr hr q k=>⟨Δ,M,_,sr,hr,q,λds M1 vs H1 ⟨j,e,h0,h1,q2⟩ e1 hr1 rp=>by
   subst e;obtain⟨v,ev,rv1⟩:=rp.one;have ev1:v=.int j:=by simpa only[Rep]using rv1
   subst ev1;subst ev;exact⟨j,rfl,h0,h1,λl hl=>k _ _ _ _ (q2 l (hr1.fresh hl)) (e1.trans (Ext.own hl)) (hr1.own hl (nU _)) (by simp only[Rep])⟩⟩
end
end L2
namespace L2
open PySem PySem.Spec PyProof.Rows PySem.Calls PySem.SeqAt
end L2
namespace L2
open PySem PySem.Spec PyProof.Rows PySem.Calls PySem.SeqAt PySem.W
end L2
namespace L2
open PySem PySem.Spec PyProof.Rows PySem.Calls
end L2
namespace L2
open PySem PySem.Spec PyProof.Rows
def kc(w:S2)(K:H0)(mg:Str->Option J0)(x:Str)(kvs:List (Str×Str)):Prop :=
 ∃a o es ep,mg x=some (.ref a)/\K.lookup a=some o/\o.ExactDict/\o.data=.dict es ep/\(a==ac9)=false/\(kvs.map (·.1)).Nodup /\
  aa9 (λ(e:as3) (kv:Str×Str)=>(∃t,e.key=.str kv.1 t)/\e.hash=oM w (.inr kv.1)/\mg kv.2=some e.val) es.toList kvs
def fnD(mg:Str->Option J0)(nm:Str):D:=match mg nm with
 |some (.ref f)=>.ref f
 |_=>.non
def jy(kvs:List (Str×Str))(k:Str):Option Str:=(kvs.find? λkv=>kv.1==k).map (·.2)
section
variable{P:N4}{w:S2}{K:H0}{mg:Str->Option J0}{x:Str}{kvs:List (Str×Str)}
theorem zX:∀{es:List as3}{kvs:List (Str×Str)},aa9 (λ(e:as3) (kv:Str×Str)=>(∃t,e.key=.str kv.1 t)/\e.hash=oM w (.inr kv.1)/\mg kv.2=some e.val) es kvs ->
  ∃vs:List (Key×J0),Pairs (bB P w) es vs/\vs.map (·.1)=kvs.map (λkv=>ah6 kv.1)/\(∀e∈es,∃k,(bB P w).is k e.key=true/\e.hash=(bB P w).hash k)/\∀k,(ah9 vs (.inr k)).isSome=(jy kvs k).isSome/\∀nm,jy kvs k=some nm->∃u,ah9 vs (.inr k)=some u/\mg nm=some u:=by
 intro es kvs h
 induction h with
 |nil=>exact⟨[],.nil,rfl,by simp,λk=>⟨rfl,λnm e=>by simp[jy]at e⟩⟩
 |@cons e kv es kvs hq _ ih =>
  obtain⟨vs,h1,h2,h3,h4⟩:=ih;obtain⟨⟨t,e1⟩,e2,e3⟩:=hq;have hk:(bB P w).is (.inr kv.1) e.key=true:=by rw[e1];exact ki (k:=.inr kv.1) (show aL (.str kv.1) (.str kv.1 t)from⟨t,rfl⟩)
  refine⟨(.inr kv.1,e.val)::vs,.cons hk rfl h1,by simp[h2],λe' he=>?_,λk=>?_⟩
  ·rcases L5.mp he with rfl|he
   ·exact⟨_,hk,e2⟩
   ·exact h3 e' he
  ·by_cases z:kv.1=k
   ·subst z;have a:ah9 ((ah6 kv.1,e.val)::vs) (.inr kv.1)=some e.val:=by simp[ah9]
    have b:jy (kv::kvs) kv.1=some kv.2:=by simp[jy]
    rw[a,b];exact⟨rfl,λnm q=>⟨_,rfl,by cases q;exact e3⟩⟩
   ·have a:ah9 ((ah6 kv.1,e.val)::vs) (.inr k)=ah9 vs (.inr k):=by simp[ah9,z]
    have b:jy (kv::kvs) k=jy kvs k:=by simp[jy,z]
    rw[a,b];exact h4 k
theorem kc.dict(P:N4)(G:kc w K mg x kvs):∃a vs,mg x=some (.ref a)/\(a==ac9)=false/\(∀h:N0,K.In h->h.DictOf (bB P w) a vs) /\
  ∀k,(ah9 vs (.inr k)).isSome=(jy kvs k).isSome/\∀nm,jy kvs k=some nm->∃u,ah9 vs (.inr k)=some u/\mg nm=some u:=by
 obtain⟨a,o,es,ep,h1,h2,h3,h4,h5,h6,h7⟩:=G;obtain⟨vs,g1,g2,g3,g4⟩:=zX (P:=P) h7;refine⟨a,vs,h1,h5,λh hK=>⟨o,es,ep,hK _ _ h2,h3,h4,λe he=>g3 e (by simpa using he),g1,?_⟩,g4⟩;have:(vs.map λx=>x.fst)=vs.map (·.1):=rfl;rw[this,g2];have e:(kvs.map λkv=>(ah6 kv.1:Key))=(kvs.map (·.1)).map ah6:=by simp
 rw[e];exact(aj7.mpr (an8.imp (λh z=>h (by simpa using z)) h6))
end
def yr(mg:Str->Option J0)(kvs:List (Str×Str))(ti:TEd):TEd:=λΔ M R=>ti Δ M λd M1=>∃k nm f,d=.str k/\jy kvs k=some nm/\mg nm=some (.ref f)/\R (fnD mg nm) M1
def vd(kvs:List (Str×Str))(ti:TEd):TEd:=λΔ M R=>ti Δ M λd M1=>∃k,d=.str k/\R (.bl (!(jy kvs k).isSome)) M1
section
variable{X:Cx}{x:Str}{kvs:List (Str×Str)}{i e:N8}{es:List N8}{ti:TEd}{t:TAd}{pos p:Pos}
theorem Eg(hu:X.A.units+1<ac8)(hg:Gl X x)(G:kc X.w X.K X.mg x kvs)(hi:PEd X i ti)(hs:ze i)(hdb:(x==("__debug__":Str))=false:=by decide):PEd X (.Subscript (.Name x p) i pos) (yr X.mg kvs ti):=by
 obtain⟨a,vs,h1,h2,h3,h4⟩:=G.dict X.prog;intro af s σ H Q I ⟨Δ,M,R,sr,hr,q,k⟩;refine vb PySem.F.slot_dict_getitem.lookup hs (ml I hg h1 ?_ hdb);refine thn (hi af s σ H (λv H1=>∃k nm f,v=.str k/\jy kvs k=some nm/\X.mg nm=some (.ref f)/\Q (.ref f) H1) I ⟨Δ,M,_,sr,hr,q,λd M' v H' ⟨k0,nm,f,e1,e2,e3,q'⟩ e' hr' rv'=>?_⟩) λu s1 ⟨v,H1,I1,rv,k0,nm,f,e1,e2,e3,q1⟩=>?_
 ·subst e1;refine⟨k0,nm,f,by simpa[Rep]using rv',e2,e3,k _ M' _ H' q' e' hr' ?_⟩;simp[fnD,e3,Rep]
 ·subst e1;have dd:=h3 _ I1.kIn;obtain⟨u',hu',hm'⟩:=(h4 k0).2 nm e2;rw[e3]at hm';cases hm';exact⟨dd.typeIs,wpAny_getItem_of (ki (k:=.inr k0) rv) dd.mapOf hu' ⟨.ref f,H1,I1.tok _,rfl,q1⟩⟩
theorem A6(hg:Gl X x)(G:kc X.w X.K X.mg x kvs)(hi:PEd X i ti)(hdb:(x==("__debug__":Str))=false:=by decide):PC X .NotIn i (.Name x p) (up X.K (vd kvs ti)):=by
 obtain⟨a,vs,h1,h2,h3,h4⟩:=G.dict X.prog;intro af s σ H Q I ⟨Δ,M,R,sr,hr,q,k⟩;refine thn (hi af s σ H (λv H1=>∃k,v=.str k/\Q (.bl (!(jy kvs k).isSome)) H1) I ⟨Δ,M,_,sr,hr,q,λd M' v H' ⟨k0,e1,q'⟩ e' hr' rv'=>?_⟩) λu s1 ⟨v,H1,I1,rv,k0,e1,q1⟩=>?_
 ·subst e1;exact⟨k0,by simpa[Rep]using rv',k _ M' _ H' q' e' hr' (by simp[Rep])⟩
 ·subst e1;refine ml I1 hg h1 ?_ hdb;have dd:=h3 _ I1.kIn;refine wpAny_notIn_of (ki (k:=.inr k0) rv) h2 dd.mapOf ?_;rw[(h4 k0).1];exact⟨.bl _,H1,I1.tok _,rfl,q1⟩
theorem Bo(hg:Gl X x)(G:kc X.w X.K X.mg x kvs)(hi:PEd X i ti)(hdb:(x==("__debug__":Str))=false:=by decide):PTd X (.Compare i [.NotIn] [.Name x p] pos) (oA (vd kvs ti)):=(yA (A6 hg G hi hdb)).conv CA
def uu(i:Nat)(mg:Str->Option J0)(nm:Str)(n:Nat)(S:SpD)(t:TAd):TEd:=λΔ M R=>Δ[i]?=some (some (fnD mg nm))/\t Δ M λds M1=>ds.length=n/\S ds M1 R
theorem BD(i:Nat){k:Nat}{f:K4}{fd:L4}{ps:List Str}{n:Nat}{S:SpD}{nm:Str}(F:aV X.prog X.w X.K X.mg X.base CX0 k f fd ps (spD X.K n S))(hr:de k X.A)(hm:X.mg nm=some (.ref f))(hk:ac5 X.K (.ref f)=true)(hb:eY X.K fd ps [])
  (ha:PAd X (e::es) t) (hN:X.N[i]?=some x:=by rfl) (hv:Vis X.env.scope x:=by first|exact L9 rfl|exact ak7 (L9 rfl)|exact ak7 (ak7 rfl)) (hdb:(x==("__debug__":Str))=false:=by decide) (hcd:(x==("__classdict__":Str))=false:=by decide) (he:K8 (e::es) X.env=(false,ad7 e X.env)::K8 es X.env:=by rfl) (hpl:(ab1 pos (K8 es X.env)).any (·.1)=false:=by rfl) :
  PEd X (.Call (.Name x p) (e::es) [] pos) (uu i X.mg nm n S t):=by
 intro af s σ H Q I ⟨Δ,M,R,sr,hrr,⟨ei,q⟩,kq⟩;obtain⟨v,ev,rv⟩:=sr.2 i _ ei;have ev':v=.ref f:=by simpa[fnD,hm,Rep]using rv
 subst ev';refine aa0 (y8 hN hv hdb hcd af s σ H (λv' H'=>v'=.ref f/\H'=H) I ⟨_,ev,rfl,rfl⟩ |> λz=>thn z λu s0 ⟨v',H',I',r',e1,e2⟩=>?_);subst e1;subst e2;obtain rfl:u=W1 f:=r';refine PySem.W.callWith_K (h₀:=X.base) I'.ok.mod.kin hk (thn (ha pos af s0 σ H' (λvs H1=>spD X.K n S vs H1 Q λ_ _ _=>False) I' ⟨Δ,M,_,sr,hrr,q,λds M1 vs H1 ⟨hl,q1⟩ e1 hr1 rv1=>?_⟩) λus s1 hup=>hup.el λvs H1 I1 r q1=>⟨I1.kIn,?_⟩) he hpl
 ·exact⟨ds,M1,R,hl,rv1,hr1,q1,λd M' v H' q' e' hr' rv'=>kq d M' v H' q' (e1.trans e') hr' rv'⟩
 ·exact zq (dvs:=[]) (ds:=[]) F hr hb .nil Ce I1 r (by rw[ad1];exact q1)
end
section
variable{X:Cx}{x:Str}{kvs:List (Str×Str)}{i e:N8}{es:List N8}{ti:TEd}{t:TAd}{pos p:Pos}
theorem C5(hu:X.A.units+1<ac8)(hg:Gl X x)(G:kc X.w X.K X.mg x kvs)(hi:QEd X i ti)(hs:ze i)(hdb:(x==("__debug__":Str))=false:=by decide):QEd X (.Subscript (.Name x p) i pos) (yr X.mg kvs ti):=by
 rw[QEd.eq]at *
 exact Eg hu hg G hi hs hdb
theorem Ak(hg:Gl X x)(G:kc X.w X.K X.mg x kvs)(hi:QEd X i ti)(hdb:(x==("__debug__":Str))=false:=by decide):QTd X (.Compare i [.NotIn] [.Name x p] pos) (oA (vd kvs ti)):=by
 rw[QTd.eq];rw[QEd.eq]at hi;exact Bo hg G hi hdb
theorem Bs(i:Nat){j k n:Nat}{S:SpD}{nm:Str}(F:FnD X.prog X.w X.K X.mg X.base nm j n S)(hr:de k X.A)
  (ha:QAd X (e::es) t) (h:j<=k:=by decide) (hN:X.N[i]?=some x:=by rfl) (hv:Vis X.env.scope x:=by first|exact L9 rfl|exact ak7 (L9 rfl)|exact ak7 (ak7 rfl)) (hdb:(x==("__debug__":Str))=false:=by decide) (hcd:(x==("__classdict__":Str))=false:=by decide) (he:K8 (e::es) X.env=(false,ad7 e X.env)::K8 es X.env:=by rfl) (hpl:(ab1 pos (K8 es X.env)).any (·.1)=false:=by rfl) :
  QEd X (.Call (.Name x p) (e::es) [] pos) (uu i X.mg nm n S t):=by
 rw[QEd.eq];rw[QAd.eq]at ha;obtain⟨f,fd,ps,F,hmf,hkf,hbf⟩:=F.ex;exact BD i F (hr.mono h) hmf hkf hbf ha hN hv hdb hcd he hpl
end
end L2
namespace My
open PySem PySem.Spec PyProof.Rows L2
noncomputable def top(i:Nat):aa6:=PySem.Challenge.pw_wordwishes_k61_drawings_judged.main.body.getD i (.Pass ⟨0,0,0,0⟩)
abbrev gf:aa6:=top 7
abbrev dN:aa6:=top 8
abbrev cg:aa6:=top 10
abbrev gU:aa6:=top 14
abbrev gW:aa6:=top 15
abbrev eh:aa6:=top 16
abbrev di:aa6:=top 17
abbrev ik:aa6:=top 18
abbrev iu:aa6:=top 22
abbrev ie:aa6:=top 23
abbrev gd:aa6:=top 24
abbrev eC:aa6:=top 25
abbrev jM:aa6:=top 27
abbrev jt:aa6:=top 31
abbrev c7:aa6:=top 32
abbrev cT:aa6:=top 33
abbrev da:aa6:=top 34
abbrev eP:aa6:=top 63
abbrev g6:aa6:=top 64
abbrev dr:aa6:=top 65
abbrev fU:aa6:=top 66
abbrev cb:aa6:=top 67
abbrev eB:aa6:=top 68
abbrev dU:aa6:=top 69
abbrev fP:aa6:=top 70
abbrev gk:aa6:=top 71
abbrev bE:aa6:=top 76
abbrev cj:aa6:=top 77
abbrev cF:aa6:=top 78
abbrev cz:aa6:=top 79
abbrev cc:aa6:=top 80
abbrev bS:aa6:=top 81
abbrev cL:aa6:=top 112
abbrev kZ:aa6:=top 122
abbrev gN:aa6:=top 124
abbrev kL:aa6:=top 125
abbrev kX:aa6:=top 126
abbrev nN:aa6:=top 127
abbrev ic:aa6:=top 128
abbrev iy:aa6:=top 129
abbrev fC:aa6:=top 130
abbrev iF:aa6:=top 131
abbrev jz:aa6:=top 132
abbrev fj:aa6:=top 133
abbrev iK:aa6:=top 134
abbrev eX:aa6:=top 135
abbrev k4:aa6:=top 136
abbrev mZ:aa6:=top 137
abbrev jr:aa6:=top 138
abbrev cu:aa6:=top 139
abbrev eT:aa6:=top 140
abbrev kO:aa6:=top 141
abbrev fu:aa6:=top 142
abbrev jV:aa6:=top 143
abbrev nP:aa6:=top 144
abbrev zS:aa6:=top 145
abbrev qo:List Str:=["thing"]
theorem i8:aw qo ["thing"] (aj gf):=fsc
abbrev mf:List Str:=["thing","many"]
theorem fA:aw mf ["thing","many"] (aj dN):=fsc
abbrev cY:List Str:=["thing"]
theorem eK:aw cY ["thing"] (aj cg):=fsc
abbrev rE:List Str:=["thing"]
theorem j6:aw rE ["thing"] (aj gU):=fsc
abbrev tJ:List Str:=["thing"]
theorem j9:aw tJ ["thing"] (aj gW):=fsc
abbrev gh:List Str:=["thing"]
theorem jb:aw gh ["thing"] (aj eh):=fsc
noncomputable abbrev kP:List Str:=["pairs","mark","reached","at","low","high"]
theorem fc:aw kP ["pairs","mark"] (aj di):=fsc
abbrev sy:List Str:=["order","one","other"]
theorem jN:aw sy ["order","one","other"] (aj ik):=fsc
abbrev rL:List Str:=["thing"]
theorem jW:aw rL ["thing"] (aj iu):=fsc
abbrev sS:List Str:=["thing"]
theorem jY:aw sS ["thing"] (aj ie):=fsc
abbrev jo:List Str:=["thing"]
theorem lQ:aw jo ["thing"] (aj gd):=fsc
abbrev og:List Str:=["order","turn","one","other"]
theorem gx:aw og ["order","turn","one","other"] (aj eC):=fsc
abbrev ua:List Str:=["order","one","other"]
theorem lR:aw ua ["order","one","other"] (aj jM):=fsc
abbrev ur:List Str:=["thing","many"]
theorem lK:aw ur ["thing","many"] (aj jt):=fsc
abbrev cA:List Str:=["thing","many","ends"]
theorem jd:aw cA ["thing","many"] (aj c7):=fsc
abbrev bR:List Str:=["arcs"]
theorem gF:aw bR ["arcs"] (aj cT):=fsc
abbrev cR:List Str:=["order","row","arcs"]
theorem gz:aw cR ["order","row","arcs"] (aj da):=fsc
abbrev mB:List Str:=["things"]
theorem gA:aw mB ["things"] (aj eP):=fsc
abbrev tQ:List Str:=["thing"]
theorem kn:aw tQ ["thing"] (aj g6):=fsc
abbrev fq:List Str:=["thing"]
theorem gR:aw fq ["thing"] (aj dr):=fsc
abbrev qN:List Str:=["thing"]
theorem jj:aw qN ["thing"] (aj fU):=fsc
abbrev bL:List Str:=["thing"]
theorem fH:aw bL ["thing"] (aj cb):=fsc
abbrev mC:List Str:=["thing"]
theorem gD:aw mC ["thing"] (aj eB):=fsc
abbrev dY:List Str:=["lexicon"]
theorem ji:aw dY ["lexicon"] (aj dU):=fsc
abbrev qm:List Str:=["lexicon","thing"]
theorem jn:aw qm ["lexicon","thing"] (aj fP):=fsc
abbrev qQ:List Str:=["lexicon","word"]
theorem jh:aw qQ ["lexicon","word"] (aj gk):=fsc
abbrev bv:List Str:=["lexicon","words"]
theorem dE:aw bv ["lexicon","words"] (aj bE):=fsc
abbrev cZ:List Str:=["lexicon","words"]
theorem eD:aw cZ ["lexicon","words"] (aj cj):=fsc
abbrev iZ:List Str:=["thing","many"]
theorem dv:aw iZ ["thing","many"] (aj cF):=fsc
abbrev cv:List Str:=["kinds","thing"]
theorem fe:aw cv ["kinds","thing"] (aj cz):=fsc
abbrev bM:List Str:=["lexicon","words","choice","numbers","kinds"]
theorem eE:aw bM ["lexicon","words","choice"] (aj cc):=fsc
abbrev fI:List Str:=["lexicon","words","thing"]
theorem cI:aw fI ["lexicon","words","thing"] (aj bS):=fsc
abbrev jK:List Str:=["parts","paper","lexicon","words"]
theorem dP:aw jK ["parts","paper"] (aj cL):=fsc
abbrev v9:List Str:=["claim","paper","check"]
theorem mz:aw v9 ["claim","paper"] (aj kZ):=fsc
abbrev rZ:List Str:=["_law_script","_law_k","_law_size","_law_cell","_law_rest","_law_seed","_law_found","_law_j"]
theorem ku:aw rZ ["_law_script","_law_k","_law_size"] (aj gN):=fsc
abbrev xn:List Str:=["_law_numbers_here","_law_signs_here","_law_found","_law_number_here","_law_word","_law_step","_law_k"]
theorem nr:aw xn ["_law_numbers_here"] (aj kL):=fsc
abbrev xf:List Str:=["_law_numbers_here","_law_marks","_law_found","_law_k"]
theorem ng:aw xf ["_law_numbers_here","_law_marks"] (aj kX):=fsc
abbrev zB:List Str:=["_law_number_here","_law_marks"]
theorem oP:aw zB ["_law_number_here","_law_marks"] (aj nN):=fsc
abbrev ix:List Str:=["_law_numbers_here","_law_marks","_law_goal","_law_one","_law_other","_law_some"]
theorem pJ:aw ix ["_law_numbers_here","_law_marks"] (aj ic):=fsc
noncomputable abbrev rA:List Str:=["_law_script","_law_k","_law_numbers_here","_law_marks","_law_order_here","_law_words_here","_law_entries","_law_at","_law_word","_law_kinds_here","_law_turn","_law_kind_here"]
theorem jZ:aw rA ["_law_script","_law_k"] (aj iy):=fsc
abbrev fJ:List Str:=["_law_numbers_here","_law_lexicon_here","_law_most","_law_names_here"]
theorem mX:aw fJ ["_law_numbers_here","_law_lexicon_here","_law_most"] (aj fC):=fsc
abbrev rK:List Str:=["_law_order_here","_law_one","_law_found","_law_turn","_law_low","_law_high"]
theorem ka:aw rK ["_law_order_here","_law_one"] (aj iF):=fsc
abbrev uj:List Str:=["_law_order_here","_law_one","_law_other"]
theorem lD:aw uj ["_law_order_here","_law_one","_law_other"] (aj jz):=fsc
abbrev oK:List Str:=["_law_order_here","_law_row","_law_found","_law_size","_law_i","_law_j","_law_good_here","_law_k","_law_inner"]
theorem gM:aw oK ["_law_order_here","_law_row"] (aj fj):=fsc
abbrev k7:List Str:=["_law_lexicon_here","_law_words_here","_law_known"]
theorem mW:aw k7 ["_law_lexicon_here","_law_words_here"] (aj iK):=fsc
abbrev iw:List Str:=["_law_kinds_here","_law_found","_law_some","_law_longer","_law_choice"]
theorem kI:aw iw ["_law_kinds_here"] (aj eX):=fsc
abbrev wu:List Str:=["_law_kinds_here","_law_choice","_law_row","_law_k"]
theorem nA:aw wu ["_law_kinds_here","_law_choice"] (aj k4):=fsc
abbrev zY:List Str:=["_law_order_here","_law_row","_law_number_here","_law_known","_law_found","_law_waiting","_law_i","_law_j","_law_some","_law_k"]
theorem pE:aw zY ["_law_order_here","_law_row","_law_number_here"] (aj mZ):=fsc
abbrev uq:List Str:=["_law_thing","_law_size_of"]
theorem lS:aw uq ["_law_thing","_law_size_of"] (aj jr):=fsc
abbrev bI:List Str:=["_law_order_here","_law_row","_law_arcs_here","_law_arc","_law_ends","_law_i","_law_j"]
theorem kz:aw bI ["_law_order_here","_law_row","_law_arcs_here"] (aj cu):=fsc
abbrev m9:List Str:=["_law_lexicon_here","_law_words_here","_law_drawing","_law_kinds_here","_law_k"]
theorem gG:aw m9 ["_law_lexicon_here","_law_words_here","_law_drawing"] (aj eT):=fsc
abbrev wV:List Str:=["_law_claim","_law_paper","_law_due","_law_found"]
theorem mF:aw wV ["_law_claim","_law_paper","_law_due"] (aj kO):=fsc
abbrev oj:List Str:=["_law_size_of","_law_number_here","_law_left","_law_found","_law_one"]
theorem iD:aw oj ["_law_size_of","_law_number_here"] (aj fu):=fsc
abbrev mP:List Str:=["_law_drawing","_law_number_here","_law_choice","_law_arcs_here","_law_way","_law_at","_law_place","_law_odd","_law_i","_law_j","_law_other","_law_crossed","_law_rest"]
theorem pN:aw mP ["_law_drawing","_law_number_here"] (aj jV):=fsc
abbrev yJ:List Str:=["_law_lexicon_here","_law_kinds_here","_law_choices_here","_law_found","_law_choice","_law_row"]
theorem oW:aw yJ ["_law_lexicon_here","_law_kinds_here","_law_choices_here"] (aj nP):=fsc
abbrev Fw:List Str:=["_law_script","_law_lexicon_here","_law_words_here","_law_kinds_here","_law_choices_here","_law_k","_law_numbers_here","_law_choice","_law_row","_law_arcs_here","_law_drawing"]
theorem zL:aw Fw ["_law_script"] (aj zS):=fsc
structure Txt(mg:Str->Option J0):Prop where
 b_isinstance:mg "isinstance"=none
 b_int:mg "int"=none
 b_bool:mg "bool"=none
 b_tuple:mg "tuple"=none
 b_len:mg "len"=none
 b_str:mg "str"=none
 b_all:mg "all"=none
 b_sorted:mg "sorted"=none
 b_list:mg "list"=none
 b_range:mg "range"=none
 b_any:mg "any"=none
 b_set:mg "set"=none
 b_sum:mg "sum"=none
 b_zip:mg "zip"=none
 b_abs:mg "abs"=none
 b_dict:mg "dict"=none
 b_max:mg "max"=none
 g_SMALL_LETTERS:∃t,mg "SMALL_LETTERS"=some (.str "abcdefghijklmnopqrstuvwxyz" t)
 g_MOST_LETTERS:∃t,mg "MOST_LETTERS"=some (.int 8 t)
 g_MOST_PAIRS:∃t,mg "MOST_PAIRS"=some (.int 8 t)
 g_MOST_TURN:∃t,mg "MOST_TURN"=some (.int 99 t)
 g_MOST_ENTRIES:∃t,mg "MOST_ENTRIES"=some (.int 10 t)
 g_MOST_KINDS:∃t,mg "MOST_KINDS"=some (.int 4 t)
 g_MOST_SIGNS:∃t,mg "MOST_SIGNS"=some (.int 5 t)
 g_MOST_WORDS:∃t,mg "MOST_WORDS"=some (.int 8 t)
 g_MOST_SIGNS_OF_WORDS:∃t,mg "MOST_SIGNS_OF_WORDS"=some (.int 60 t)
def Ei:List (Str×Str):=[("sentence","takes_sentence"),("no sentence","takes_no_sentence"),("twofold","takes_twofold"),("comes","takes_comes"),("comes not","takes_comes_not"),("parted","takes_parted"),("means","takes_means")]
set_option hygiene false in
local macro_rules|`(tactic| walk_at"")=>`(tactic| simp only[yr,vd,uu,FF,dLS,G1,Cn,DQ,BY,CH,DO,yw,gJ,dC,Dz,xA,EW,Cj,B3,dOp,dUn,oA,FR,yf,Cz,dCB,pV,xE,Fg,B1,FG,DF,zI,FY,E5,E8,nZ,E2,xU,zf,pT,yn,Gg,Fl,zz,Cv,Cb,D7,Bl,zh,xG,vY,xX,dDT,BR,Cf,EN,HD.dKr.injEq,Cs,AV,HD.dT.injEq,HD.dK.injEq,FL,FU,DP,CD,xP,qU,yD,dLc,Bq,dLR,xS,Gf,
 AM,Dw,Ay,BV,AF,Az,AK,Bu,Di,Bi,vI,A5,z9,EB,F9,FX,Ez,F3,FC,yd,CJ,CW,DY,C6,Dn,D0,Dx,C3,qC,CN,C2,Ff,Cd,EL,E7,Dj,C8,E9,Gd,EJ,xH,yh,zQ,zk,EI,FO,Fi,EY,FV,FI,Fq,B8,EA,Ai,wG,Dp,aE,ir,
 jC,K2,ai3,List.cons_append,N5,O3,Z7,M7,List.set_cons_zero,List.set_cons_succ,W9,S0,ad3,exists_eq_left',exists_eq_left,D.int.injEq,D.bl.injEq,D.str.injEq,D.ref.injEq,D.tup.injEq,D.lst.injEq,true_and,and_true,if_true,decide_eq_true_eq,exists_and_left,Nat.zero_add,Nat.reduceAdd,Nat.reduceSub,Fo,EX,zy,ER,FZ,HD.lst.injEq,O0,or_true,true_or,and_self,↓reduceIte,Int.reduceLT,Int.reduceLE,Int.reducePow,Int.reduceNeg,Int.reduceToNat,Nat.reducePow,Nat.reduceLT,Nat.reduceLeDiff,Int.reduceAdd,Int.reduceMul,Int.reduceSub,J5,Bool.true_eq_false,if_false])
section
variable{P:N4}{w:S2}{K:H0}{mg:Str->Option J0}{base:N0}{f:K4}{fd:L4}
theorem ER:ox 10 6=True:=by simp[ox]
theorem ba{a b:TSd}{E:gE}{Δ:DE}{M:DH}(C:DE->DH->Prop)(h1:∀nx,(∀ Δ' M',C Δ' M'->nx Δ' M')->a { E with nx:=nx } Δ M)(h2:∀ Δ' M',C Δ' M'->b E Δ' M'):DO a b E Δ M:=h1 _ h2
theorem qj{xs:List D}{n:Nat}:L2.c8 xs none (some (n:Int))=xs.take n:=by
 unfold L2.c8;rw[HT.sIx_none,HT.sIx_nat,List.drop_zero,Nat.sub_zero]
 by_cases h:n<=xs.length
 ·rw[am4 h]
 ·rw[Nat.min_eq_right (by lia),W5,U3 (by lia)]
theorem jP{xs:List D}{n:Nat}:L2.c8 xs (some (n:Int)) none=xs.drop n:=by
 unfold L2.c8;rw[HT.sIx_none,HT.sIx_nat]
 by_cases h:n<=xs.length
 ·rw[am4 h,U3 (by simp)]
 ·rw[Nat.min_eq_right (by lia),ao8,List.take_zero,List.drop_of_length_le (by lia)]
theorem cn{lo:Int}{n:Nat}:(jX lo n).length=n:=by simp[jX]
def aQ(x:Str×Str):D:=.tup [.str x.1,.str x.2]
theorem dG{fF:List Str}{v:Int}(h0:0<=v)(h1:v<(fF.length:Int)):∃m∈fF,atI (fF.map D.str) v=some (.str m):=by
 obtain⟨n,rfl⟩:=ae5 h0;have hn:n<fF.length:=by lia
 exact⟨fF[n],P7 hn,bA (by simp[hn])⟩
theorem oZ{M:DH}{p q:K4}{a b:HD}(h:p≠q):aT (aT M p a) q b=aT (aT M q b) p a:=by
 funext c;unfold aT
 by_cases h1:c=q
 ·subst h1;simp[ab0 h]
 ·by_cases h2:c=p
  ·subst h2;simp[h]
  ·simp[h1,h2]
inductive cM (ord:List (Str×Str)) (a:Str):Str->Prop
 |refl:cM ord a a
 |step {b c:Str}:cM ord a b->(b,c)∈ord->cM ord a c
theorem sT{ord:List (Str×Str)}{a x:Str}{L:List Str}(h0:a∈L)(hc:∀y∈ord,y.1∈L->y.2∈L)(h:cM ord a x):x∈L:=by
 induction h with
 |refl=>exact h0
 |step _ hm ih=>exact hc _ hm ih
def fE:SpD:=λds M R=>∃(ord:List (Str×Str)) (a:Str),ds=[.tup (ord.map aQ),.str a]/\ord.length<=500 /\
 ∀L:List Str,a∈L->(∀y∈ord,y.1∈L->y.2∈L)->(∀x∈L,cM ord a x)->L.length<=ord.length+1->R (.lst (L.map .str)) M
abbrev tIn:TSd:=Dz (yf (oA (dOp eqF (gJ 4) (dOp ixD (gJ 2) (gJ 3)))) (oA (dOp (inE true) (gJ 5) (gJ 2)))) (zI (DF (gJ 2) (gJ 5))) xA
theorem iV{q:K4}{E:gE}{M:DH}(hq:M q=none)(ps:D)(a:Str)(ord:List (Str×Str))(hord:ord.length<=500)(i:Nat)(L0:List Str)(hi:i<L0.length):∀(todo done:List (Str×Str)) (x4 x5:Option D) (L:List Str),ord=done++todo->(∃t,L=L0++t)->L.Nodup->(∀x∈L,cM ord a x)->(∀x∈L,x∈a::ord.map (·.2))->(∀y∈done,y.1=L0[i]->y.2∈L) ->
  (∀(y4 y5:Option D) (L':List Str),(∃t,L'=L0++t)->L'.Nodup->(∀x∈L',cM ord a x)->(∀x∈L',x∈a::ord.map (·.2))->(∀y∈ord,y.1=L0[i]->y.2∈L')->E.nx [some ps,some (.str a),some (.ref q),some (.int i),y4,y5] (aT M q (.lst (L'.map .str)))) ->
  dh (nT (gX (gg 4) (gX (gg 5) sL)) 2) tIn E (todo.map aQ) [some ps,some (.str a),some (.ref q),some (.int i),x4,x5] (aT M q (.lst (L.map .str)))
 |[],done,x4,x5,L,ho,ht,hn,hs,hb,hd,k=>by
  simp only[ai3,dh];exact k x4 x5 L ht hn hs hb (by rw[ho,ad1];exact hd)
 |(b,c)::todo,done,x4,x5,L,ho,⟨t,ht⟩,hn,hs,hb,hd,k=>by
  have hiL:i<L.length:=by rw[ht];simp;lia
  have eL:L[i]=L0[i]:=by subst ht;simp[hi]
  have eat:atI (L.map D.str) (i:Int)=some (.str L[i]):=bA (by simp[hiL]);have cJ:L.length<=ord.length+1:=by
   have:=fB L (a::ord.map (·.2)) hn hb;simpa using this
  simp only[K2,aQ,dh,nT,gX,gg,sL,Option.bind_some];refine⟨_,rfl,?_⟩;walk_at"";refine⟨_,eat,?_⟩;walk_at"";have ho':ord=(done++[(b,c)])++todo:=by rw[ho];simp
  have hmem:(b,c)∈ord:=by rw[ho];simp
  refine bc (λh=>?_) (λh=>?_)
  ·have hbe:b=L0[i]:=by rw[<-eL];simpa using h
   refine⟨_,if_pos ⟨rfl,eR⟩,_,rfl,?_⟩;rw[dF]
   by_cases hc:c∈L
   ·simp only[hc,decide_true,Bool.xor_true,ac4,J5,if_false];exact iV hq ps a ord hord i L0 hi todo (done++[(b,c)]) _ _ L ho' ⟨t,ht⟩ hn hs hb (λy hy hy1=>by
     rcases K1.mp hy with h|h
     ·exact hd y h hy1
     ·have:y=(b,c):=by simpa using h
      subst this;exact hc) k
   ·simp only[hc,decide_false,Bool.xor_false,if_true];refine⟨by rw[u8];exact K5 (by lia:L.length<1000) (sz3 1000),?_⟩;have ea:L.map D.str++[D.str c]=(L++[c]).map D.str:=by simp
    rw[ea];refine iV hq ps a ord hord i L0 hi todo (done++[(b,c)]) _ _ (L++[c]) ho' ⟨t++[c],by rw[ht];simp⟩ ?_ (λx hx=>?_) (λx hx=>?_) (λy hy hy1=>?_) k
    ·rw[aa8];refine⟨hn,by simp,λu hu v hv=>?_⟩;have:v=c:=by simpa using hv
     subst this;rintro rfl;exact hc hu
    ·rcases K1.mp hx with h|h
     ·exact hs x h
     ·have:x=c:=by simpa using h
      subst this;exact cM.step (hs b (by rw[hbe,<-eL];exact P7 hiL)) hmem
    ·rcases K1.mp hx with h|h
     ·exact hb x h
     ·have:x=c:=by simpa using h
      subst this;exact O6 _ (N7.mpr ⟨_,hmem,rfl⟩)
    ·rcases K1.mp hy with h|h
     ·exact U0 _ (hd y h hy1)
     ·have:y=(b,c):=by simpa using h
      subst this;simp
  ·exact iV hq ps a ord hord i L0 hi todo (done++[(b,c)]) _ _ L ho' ⟨t,ht⟩ hn hs hb (λy hy hy1=>by
    rcases K1.mp hy with h'|h'
    ·exact hd y h' hy1
    ·have:y=(b,c):=by simpa using h'
     subst this;exact absurd (by rw[eL];simpa using hy1) h) k
theorem jO(F:Fun K "reached_from" "reached_from" di f fd)(T:Txt mg):aV P w K mg base CX0 1 f fd ["pairs","mark"] (spD K 2 fE):=by
 have nd:=fc.nd;refine F.okR rfl fc (λcdv A outer s H E hr=>⟨_,(ai (ax (i:=2) nd rfl (L9 rfl) (dI (aa (ae 1) ag)))
   (ai (ax (i:=3) nd rfl (L9 rfl) ah)
   (ai (mj N3 (aR kE (ae 3) (av aY rfl T.b_len (by kernel_rfl) (aa (ae 2) ag)) nbh) (ai (cE N3 rfl (aM (ae 0)) (mM rfl (cO (aZ (i:=4) nd rfl (L9 rfl)) (cO (aZ (i:=5) nd rfl (L9 rfl)) nB))) (am (bh (iX (jx (aR (gK hr.units) (ae 4) (aC aD (ae 2) (ae 3) (λ_ _=>rfl)) nbh) (iL (aR tI (ae 5) (ae 2) rfl)))) (am (dJ (gy (ae 2) (ae 5)))) aK)))
   (am (FP (i:=3) nd rfl (L9 rfl) ah DL))))
   (am (qJ (ae 2)))))),λds M R _ hS bk=>?_⟩)
 obtain⟨ord,a,rfl,ho,k⟩:=hS;refine bk ?_;clear bk;walk_at"";refine⟨sz3 1,λq hq=>?_⟩;refine⟨λm Δ M'=>∃(i:Nat) (L:List Str) (x4 x5:Option D),Δ=[some (D.tup (ord.map aQ)),some (D.str a),some (D.ref q),some (D.int i),x4,x5]/\M'=aT M q (.lst (L.map .str))/\i<=L.length/\L.Nodup/\a∈L/\(∀x∈L,cM ord a x)/\(∀x∈L,x∈a::ord.map (·.2))/\(∀y∈ord,∀j,j<i->L[j]?=some y.1->y.2∈L)/\m=ord.length+1-i,
  ⟨_,0,[a],none,none,rfl,rfl,Q5 _,by simp,by simp,λx hx=>by
   have:x=a:=by simpa using hx
   subst this;exact cM.refl,λx hx=>by
   have:x=a:=by simpa using hx
   subst this;simp,λy _ j hj=>absurd hj (by lia),rfl⟩,?_⟩
 intro m Δ M' hI;refine shr λ_ bk=>?_;obtain⟨i,L,x4,x5,rfl,rfl,hiL,hn,ha,hs,hb,hp,rfl⟩:=hI;refine bk ?_;clear bk;have cJ:L.length<=ord.length+1:=by
  have:=fB L (a::ord.map (·.2)) hn hb;simpa using this
 walk_at"";rw[u8];refine bc (λh=>?_) (λh=>?_)
 ·have hi:i<L.length:=by lia
  intro hz;refine iV hq _ a ord ho i L hi ord [] x4 x5 L rfl ⟨[],by simp⟩ hn hs hb (λy hy=>absurd hy (by simp)) (λy4 y5 L' hL' hn' hs' hb' hd'=>?_);obtain⟨t,rfl⟩:=hL';walk_at"";refine⟨ord.length+1-(i+1),by lia,i+1,L++t,y4,y5,?_,rfl,by simp;lia,hn',U0 _ ha,hs',hb',λy hy j hj hjy=>?_,rfl⟩
  ·simp
  ·by_cases hji:j=i
   ·subst hji;refine hd' y hy ?_;rw[P3 hi,J1 hi]at hjy;exact(R7 hjy).symm
   ·rw[P3 (by lia)]at hjy;exact U0 _ (hp y hy j (by lia) hjy)
 ·rw[jS hq];refine k L ha (λy hy hy1=>?_) hs cJ;obtain⟨j,hj,e⟩:=U1.mp hy1;exact hp y hy j (by lia) (by rw[J1 hj,e])
def aF(x:Str×Int):D:=.tup [.str x.1,.int x.2]
theorem fb{α:Type}{f:α->D}(hf:∀x y,f x=f y->x=y):∀{xs ys:List α},xs.map f=ys.map f->xs=ys
 |[],[],_=>rfl
 |[],_::_,h=>by simp at h
 |_::_,[],h=>by simp at h
 |x::xs,y::ys,h=>by
  simp only[K2,O0]at h;rw[hf _ _ h.1,fb hf h.2]
theorem kK:∀x y,aQ x=aQ y->x=y:=λ⟨a,b⟩ ⟨c,d⟩ h=>by simpa[aQ]using h
def vL(ord:List (Str×Str))(t:Int)(a b:Str):Prop:=if t % 2=0 then cM ord a b else cM ord b a
open Classical in
def rB(ord:List (Str×Str))(a b:Str):Bool:=decide (cM ord a b)
open Classical in
def lB(ord:List (Str×Str))(t:Int)(a b:Str):Bool:=decide (vL ord t a b)
theorem qH{ord:List (Str×Str)}{a b:Str}:rB ord a b=true↔cM ord a b:=by simp[rB]
theorem zH{ord:List (Str×Str)}{t:Int}{a b:Str}:lB ord t a b=true↔vL ord t a b:=by simp[lB]
theorem ve{ord:List (Str×Str)}{t:Int}{a b:Str}(h:t % 2=0):lB ord t a b=rB ord a b:=by rw[Q4,zH,qH,vL,if_pos h]
theorem xZ{ord:List (Str×Str)}{t:Int}{a b:Str}(h:¬ t % 2=0):lB ord t a b=rB ord b a:=by rw[Q4,zH,qH,vL,if_neg h]
def ig:SpD:=λds M R=>∃(ord:List (Str×Str)) (a b:Str),ds=[.tup (ord.map aQ),.str a,.str b]/\ord.length<=500/\R (.bl (rB ord a b)) M
def eM:SpD:=λds M R=>∃(ord:List (Str×Str)) (t:Int) (a b:Str),ds=[.tup (ord.map aQ),.int t,.str a,.str b]/\ord.length<=500/\R (.bl (lB ord t a b)) M
def fW:SpD:=λds M R=>∃(ord:List (Str×Str)) (x y:Str×Int),ds=[.tup (ord.map aQ),aF x,aF y]/\ord.length<=500/\R (.bl (x.2+1==y.2&&lB ord x.2 x.1 y.1)) M
theorem oC{ord:List (Str×Str)}{a b:Str}{M:DH}{R:D->DH->Prop}:ig [.tup (ord.map aQ),.str a,.str b] M R↔ord.length<=500/\R (.bl (rB ord a b)) M :=
 ⟨λ⟨o,c,d,e,h1,h2⟩=>by
  simp only[O0,D.tup.injEq,D.str.injEq,and_true]at e;obtain⟨e1,e2,e3⟩:=e;rw[fb kK e1,e2,e3];exact⟨h1,h2⟩,λh=>⟨ord,a,b,rfl,h⟩⟩
theorem k6{ord:List (Str×Str)}{t:Int}{a b:Str}{M:DH}{R:D->DH->Prop}:eM [.tup (ord.map aQ),.int t,.str a,.str b] M R↔ord.length<=500/\R (.bl (lB ord t a b)) M :=
 ⟨λ⟨o,u,c,d,e,h1,h2⟩=>by
  simp only[O0,D.tup.injEq,D.str.injEq,D.int.injEq,and_true]at e;obtain⟨e1,e0,e2,e3⟩:=e;rw[fb kK e1,e0,e2,e3];exact⟨h1,h2⟩,λh=>⟨ord,t,a,b,rfl,h⟩⟩
theorem qZ{ord:List (Str×Str)}{a b:Str}{t u:Int}{M:DH}{R:D->DH->Prop}:fW [.tup (ord.map aQ),.tup [.str a,.int t],.tup [.str b,.int u]] M R↔ord.length<=500/\R (.bl (t+1==u&&lB ord t a b)) M :=
 ⟨λ⟨o,⟨c,v⟩,⟨d,w⟩,e,h1,h2⟩=>by
  simp only[aF,O0,D.tup.injEq,D.str.injEq,D.int.injEq,and_true]at e;obtain⟨e1,⟨e2,e3⟩,e4,e5⟩:=e;rw[fb kK e1,e2,e3,e4,e5];exact⟨h1,h2⟩,λh=>⟨ord,(a,t),(b,u),rfl,h⟩⟩
theorem qK(F:Fun K "at_most" "at_most" ik f fd)(T:Txt mg)(ga6:FnD P w K mg base "reached_from" 1 2 fE):aV P w K mg base CX0 2 f fd ["order","one","other"] (spD K 3 ig):=by
 have nd:=jN.nd;refine F.okR rfl jN (λcdv A outer s H E hr=>⟨_,(am (aB (eO mx (ae 2) (qd ga6 hr (aa (ae 0) (aa (ae 1) ag))) rfl))),λds M R _ hS bk=>?_⟩);obtain⟨ord,a,b,rfl,ho,k⟩:=hS;refine bk ?_;clear bk;walk_at"";refine⟨ord,a,rfl,ho,λL h1 h2 h3 h4=>?_⟩;refine⟨_,if_pos ⟨rfl,eR⟩,?_⟩;rw[dF];have e:(false ^^ decide (b∈L))=rB ord a b:=by
  rw[ah3,Q4,qH,decide_eq_true_eq];exact⟨λh=>h3 b h,λh=>sT h1 h2 h⟩
 rw[e];exact k
theorem lX(F:Fun K "mark_leads" "mark_leads" eC f fd)(T:Txt mg)(gb4:FnD P w K mg base "at_most" 2 3 ig):aV P w K mg base CX0 3 f fd ["order","turn","one","other"] (spD K 4 eM):=by
 have nd:=gx.nd;refine F.okR rfl gx (λcdv A outer s H E hr=>⟨_,(ai (bh (aR (gK hr.units) (az bH (ae 1) ah) ah nbh) (am (aB (qd gb4 hr (aa (ae 0) (aa (ae 2) (aa (ae 3) ag)))))) aK)
   (am (aB (qd gb4 hr (aa (ae 0) (aa (ae 3) (aa (ae 2) ag))))))),λds M R _ hS bk=>?_⟩)
 obtain⟨ord,t,a,b,rfl,ho,k⟩:=hS;refine bk ?_;clear bk;walk_at"";simp only[oC];refine bc (λh=>?_) (λh=>?_)
 ·have h':t % 2=0:=by simpa using h
  rw[ve h']at k;exact⟨ho,k⟩
 ·have h':¬ t % 2=0:=by simpa using h
  rw[xZ h']at k;exact⟨ho,k⟩
theorem tU(F:Fun K "cancel" "cancel" jM f fd)(T:Txt mg)(gb1:FnD P w K mg base "mark_leads" 3 4 eM):aV P w K mg base CX0 4 f fd ["order","one","other"] (spD K 3 fW):=by
 have nd:=lR.nd;refine F.okR rfl lR (λcdv A outer s H E hr=>⟨_,(am (aB (bp (eO (gK hr.units) (az aI (aC aD (ae 1) ah (λ_ _=>rfl)) ah) (aC aD (ae 2) ah (λ_ _=>rfl)) nbh) (cf (qd gb1 hr (aa (ae 0) (aa (aC aD (ae 1) ah (λ_ _=>rfl)) (aa (aC aD (ae 1) ah (λ_ _=>rfl)) (aa (aC aD (ae 2) ah (λ_ _=>rfl)) ag))))))))),λds M R _ hS bk=>?_⟩);obtain⟨ord,⟨a,t⟩,⟨b,u⟩,rfl,ho,k⟩:=hS;refine bk ?_;clear bk;simp only[aF];walk_at"";simp only[k6];refine bc (λh=>?_) (λh=>?_)
 ·simp only[h,U5]at k;exact⟨ho,k⟩
 ·simp only[h,S4]at k;exact k
def iG(ord:List (Str×Str))(F:List Str):Prop:=∀p∈ord,p.1∈F->p.2∈F
def kQ(ord:List (Str×Str))(F:List Str):Nat:=(ord.filter λp=>decide (p.2∈F)).length
theorem pW{F G:List Str}(h:∀x∈F,x∈G):∀{ord:List (Str×Str)},kQ ord F<=kQ ord G
 |[]=>J6 _
 |p::ord=>by
  have ih:=pW h (ord:=ord);unfold kQ at ih ⊢
  by_cases h1:p.2∈F
  ·simp[V3,h1,h _ h1];exact ih
  ·by_cases h2:p.2∈G
   ·simp[V3,h1,h2];lia
   ·simp[V3,h1,h2];exact ih
theorem vw{F G:List Str}(h:∀x∈F,x∈G){q:Str×Str}(h1:q.2∉F)(h2:q.2∈G):∀{ord:List (Str×Str)},q∈ord->kQ ord F<kQ ord G
 |p::ord,hm=>by
  have im:=pW h (ord:=ord);rcases L5.mp hm with e|hm
  ·subst e;unfold kQ at im ⊢;simp[V3,h1,h2];lia
  ·have ih:=vw h h1 h2 hm;unfold kQ at im ih ⊢
   by_cases h3:p.2∈F
   ·simp[V3,h3,h _ h3];exact ih
   ·by_cases h4:p.2∈G
    ·simp[V3,h3,h4];lia
    ·simp[V3,h3,h4];exact ih
theorem Av{ord:List (Str×Str)}{F:List Str}:kQ ord F<=ord.length:=List.length_filter_le _ _
theorem rX{F:List Str}:∀{ord:List (Str×Str)},ord.length<=kQ ord F->∀p∈ord,p.2∈F
 |p::ord,h,q,hq=>by
  have hl:=Av (ord:=ord) (F:=F);unfold kQ at h hl
  by_cases h3:p.2∈F
  ·rcases L5.mp hq with e|hq
   ·subst e;exact h3
   ·refine rX (ord:=ord) ?_ q hq;unfold kQ;simp[V3,h3]at h;exact h
  ·simp[V3,h3]at h
   lia
theorem xy{ord:List (Str×Str)}{F:List Str}(h:iG ord F∨ord.length<=kQ ord F):iG ord F:=by
 rcases h with h|h
 ·exact h
 ·exact λp hp _=>rX h p hp
mutual
def ao:D->Bool
 |.tup ds=>bq ds
 |.lst ds=>bq ds
 |.str x=>decide (x.length<=1000000)
 |.scr _=>false
 |.ref _=>false
 |.box _ _=>false
 |_=>true
def bq:List D->Bool
 |[]=>true
 |d::ds=>ao d&&bq ds
end
theorem bb:∀{ds:List D},bq ds=true↔∀d∈ds,ao d=true
 |[]=>by simp[bq]
 |d::ds=>by simp[bq,bb (ds:=ds)]
theorem bZ{M:DH}{d:D}(h:ao d=true):rdM M d=d:=by
 cases d<;>first|rfl|(simp[ao]at h)
def dw:D->Int->Bool
 |.tup ds,n=>(ds.length:Int)==n
 |_,_=>false
def jE(x:Str):Bool:=decide (1<=x.length)&&decide (x.length<=8)&&x.cps.toList.all λc=>decide (c∈mL)
def cq:D->Bool
 |.str x=>jE x
 |_=>false
def aW:SpD:=λds M R=>∃d n,ds=[d,.int n]/\ao d=true/\R (.bl (dw d n)) M
theorem br{d:D}{n:Int}{M:DH}{R:D->DH->Prop}:aW [d,.int n] M R↔ao d=true/\R (.bl (dw d n)) M :=
 ⟨λ⟨d',n',e,h⟩=>by simp only[O0,D.int.injEq,and_true]at e;rw[e.1,e.2];exact h,λh=>⟨d,n,rfl,h⟩⟩
theorem kM(F:Fun K "is_tuple_of" "is_tuple_of" dN f fd)(T:Txt mg):aV P w K mg base CX0 1 f fd ["thing","many"] (spD K 2 aW):=by
 have nd:=fA.nd;refine F.okR rfl fA (λcdv A outer s H E hr=>⟨_,(am (aB (bp (c9 (Tn:="tuple") (by decide) rfl T.b_isinstance rfl T.b_tuple (by kernel_rfl) (ae 0)) (cf (eO (gK hr.units) (av aY rfl T.b_len (by kernel_rfl) (aa (ae 0) ag)) (ae 1) nbh))))),λds M R _ hS bk=>?_⟩);obtain⟨d,n,rfl,hd,k⟩:=hS;refine bk ?_;clear bk;walk_at"";simp only[bZ hd];cases d with
 |tup ds =>
  refine⟨true,rfl,?_⟩;walk_at"";exact k
 |scr _=>simp[ao]at hd
 |ref _=>simp[ao]at hd
 |box _ _=>simp[ao]at hd
 |_=>exact⟨false,rfl,by simp only[J5,if_false];exact k⟩
def bz:SpD:=λds M R=>∃d,ds=[d]/\ao d=true/\R (.bl (cq d)) M
theorem bP{d:D}{M:DH}{R:D->DH->Prop}:bz [d] M R↔ao d=true/\R (.bl (cq d)) M :=
 ⟨λ⟨d',e,h⟩=>by simp only[O0,and_true]at e;rw[e];exact h,λh=>⟨d,rfl,h⟩⟩
def dB:SpD:=bz
theorem dn{d:D}{M:DH}{R:D->DH->Prop}:dB [d] M R↔ao d=true/\R (.bl (cq d)) M:=bP
theorem AG:abc.cps.toList=mL:=by rw[n6,fX]
theorem gO{bs:List Bool}:oq (.lst (bs.map D.bl))=some (.bl (bs.all id)):=by
 have h1:(bs.map D.bl).all nJ=true:=by rw[V9,O4];intro _ _;rfl
 have h2:(bs.map D.bl).all kW=bs.all id:=by rw[V9];rfl
 simp only[oq,h1,h2,if_true]
theorem jA(F:Fun K "is_short_word" "is_short_word" cg f fd)(T:Txt mg):aV P w K mg base CX0 1 f fd ["thing"] (spD K 1 bz):=by
 have nd:=eK.nd;refine F.okR rfl eK (λcdv A outer s H E hr=>⟨_,(am (aB (bp (c9 (Tn:="str") (by decide) rfl T.b_isinstance rfl T.b_str (by kernel_rfl) (ae 0)) (bp (iP j3 j3 ah (av aY rfl T.b_len (by kernel_rfl) (aa (ae 0) ag)) (cP rfl T.g_MOST_LETTERS)) (cf (av (jm rfl) rfl T.b_all (by kernel_rfl) (aa (eW (ms:=[false]) (ar:=["letter"]) (aH (n0:=0) rfl (show aS (aj cg) cY _ _=true from by decide +kernel)) rfl (aM (ae 0)) (aG (i:=1) (show(cY++_).Nodup from by decide +kernel) rfl rfl) (λ_ _ _ _=>bo) (λ_ _ _ _=>(eO mx (ae 1) (zo rfl T.g_SMALL_LETTERS) rfl))) ag))))))),λds M R _ hS bk=>?_⟩);obtain⟨d,rfl,hd,k⟩:=hS;refine bk ?_;clear bk;walk_at"";simp only[bZ hd];cases d with
 |str x =>
  have hx:x.length<=1000000:=by simpa[ao]using hd
  refine⟨true,rfl,?_⟩;walk_at"";refine⟨_,if_pos (szB _ (by lia)),?_⟩;walk_at"";have hsl:x.length=x.cps.toList.length:=by show x.cps.size=_;simp
  refine bc (λh1=>bc (λh2=>?_) (λh2=>?_)) (λh1=>?_)
  ·refine⟨_,if_pos (szB _ (by lia)),λhz=>⟨hz,?_⟩⟩;refine eN (λ_=>true) (λd=>match d with|.str y=>.bl (y.cps.toList.all λc=>decide (c∈mL))|_=>.non) (λΔ=>∃x,Δ=[none,x]) _ _ _ (λd hd Δ hΔ=>?_) ⟨none,rfl⟩ ?_
   ·obtain⟨x1,rfl⟩:=hΔ;obtain⟨c,_,rfl⟩:=N7.mp (show d∈x.cps.toList.map λc=>D.str (tx [c])from hd);refine⟨_,rfl,⟨_,rfl⟩,λQ1 q=>q,λ_ Q2 q=>?_⟩;walk_at"";simp only[B8,ad3,exists_eq_left',ah3];rw[show(U9 "abcdefghijklmnopqrstuvwxyz").cps.toList=mL from AG];simpa[fX]using q
   ·rw[N5,O5.mpr (λ_ _=>rfl)];have e:(L2.gQ x).map (λd=>match d with|.str y=>D.bl (y.cps.toList.all λc=>decide (c∈mL))|_=>.non)=(x.cps.toList.map λc=>decide (c∈mL)).map D.bl:=by
     unfold L2.gQ;rw[Q7,Q7];apply ab3;intro c _;simp
    rw[e];refine⟨_,gO,?_⟩;have e2:(x.cps.toList.map λc=>decide (c∈mL)).all id=jE x:=by
     unfold jE;rw[V9,decide_eq_true (by lia:1<=x.length),decide_eq_true (by lia:x.length<=8)];rfl
    rw[e2];exact k
  ·have e2:cq (.str x)=false:=by simp only[cq,jE,decide_eq_false (by lia:¬ x.length<=8),an0,S4]
   rw[e2]at k;exact k
  ·have e2:cq (.str x)=false:=by simp only[cq,jE,decide_eq_false (by lia:¬ 1<=x.length),S4]
   rw[e2]at k;exact k
 |scr _=>simp[ao]at hd
 |ref _=>simp[ao]at hd
 |box _ _=>simp[ao]at hd
 |_=>exact⟨false,rfl,by simp only[J5,if_false];exact k⟩
theorem qX(F:Fun K "is_mark" "is_mark" gU f fd)(T:Txt mg)(G5:FnD P w K mg base "is_short_word" 1 1 bz):aV P w K mg base CX0 2 f fd ["thing"] (spD K 1 dB):=by
 have nd:=j6.nd;refine F.okR rfl j6 (λcdv A outer s H E hr=>⟨_,(am (aB (qd G5 hr (aa (ae 0) ag)))),λds M R _ hS bk=>?_⟩);obtain⟨d,rfl,hd,k⟩:=hS;refine bk ?_;clear bk;walk_at"";exact bP.mpr ⟨hd,k⟩
end
section
variable{P:N4}{w:S2}{K:H0}{mg:Str->Option J0}{base:N0}{f:K4}{fd:L4}
def gp:D->Bool
 |.int _=>true
 |_=>false
def vp:D->Bool
 |.int t=>decide (-99<=t)&&decide (t<=99)
 |_=>false
def nF:D->Bool
 |.tup [a,b]=>cq a&&vp b
 |_=>false
def wo:D->Bool
 |.tup ds=>ds.all nF
 |_=>false
def rk(f:D->Bool):SpD:=λds M R=>∃d,ds=[d]/\ao d=true/\R (.bl (f d)) M
theorem fO{f:D->Bool}{d:D}{M:DH}{R:D->DH->Prop}:rk f [d] M R↔ao d=true/\R (.bl (f d)) M :=
 ⟨λ⟨d',e,h⟩=>by simp only[O0,and_true]at e;rw[e];exact h,λh=>⟨d,rfl,h⟩⟩
def dS:SpD:=rk gp
def lL:SpD:=rk vp
def lN:SpD:=rk nF
def mT:SpD:=rk wo
theorem oz(F:Fun K "is_whole" "is_whole" gf f fd)(T:Txt mg):aV P w K mg base CX0 1 f fd ["thing"] (spD K 1 dS):=by
 have nd:=i8.nd;refine F.okR rfl i8 (λcdv A outer s H E hr=>⟨_,(am (aB (bp (c9 (Tn:="int") (by decide) rfl T.b_isinstance rfl T.b_int (by kernel_rfl) (ae 0)) (cf (ym (c9 (Tn:="bool") (by decide) rfl T.b_isinstance rfl T.b_bool (by kernel_rfl) (ae 0))))))),λds M R _ hS bk=>?_⟩);obtain⟨d,rfl,hd,k⟩:=hS;refine bk ?_;clear bk;walk_at"";simp only[bZ hd];cases d with
 |int i=>exact⟨true,rfl,by simp only[if_true];exact⟨false,rfl,k⟩⟩
 |bl b=>exact⟨true,rfl,by simp only[if_true];exact⟨true,rfl,k⟩⟩
 |scr _=>simp[ao]at hd
 |ref _=>simp[ao]at hd
 |box _ _=>simp[ao]at hd
 |_=>exact⟨false,rfl,by simp only[J5,if_false];exact k⟩
theorem rb(F:Fun K "is_turn" "is_turn" iu f fd)(T:Txt mg)(G7:FnD P w K mg base "is_whole" 1 1 dS):aV P w K mg base CX0 2 f fd ["thing"] (spD K 1 lL):=by
 have nd:=jW.nd;refine F.okR rfl jW (λcdv A outer s H E hr=>⟨_,(am (aB (bp (qd G7 hr (aa (ae 0) ag)) (cf (iP j3 j3 (l6 l7 (cP rfl T.g_MOST_TURN)) (ae 0) (cP rfl T.g_MOST_TURN)))))),λds M R _ hS bk=>?_⟩);obtain⟨d,rfl,hd,k⟩:=hS;refine bk ?_;clear bk;walk_at"";refine fO.mpr ⟨hd,?_⟩;walk_at"";simp only[bZ hd];cases d with
 |int t =>
  simp only[gp,if_true];walk_at"";simp only[vp]at k;refine bc (λh=>?_) (λh=>?_)
  ·rw[decide_eq_true h,U5]at k;exact k
  ·rw[decide_eq_false h,S4]at k;exact k
 |scr _=>simp[ao]at hd
 |ref _=>simp[ao]at hd
 |box _ _=>simp[ao]at hd
 |_=>simp only[gp,J5,if_false];exact k
theorem wC{ds:List D}(h:¬ ds.length=2):nF (.tup ds)=false:=by
 match ds,h with
 |[],_=>rfl
 |[_],_=>rfl
 |[_,_],h=>exact absurd rfl h
 |_::_::_::_,_=>rfl
theorem qW(F:Fun K "is_sign" "is_sign" ie f fd)(T:Txt mg)(G4:FnD P w K mg base "is_tuple_of" 1 2 aW)(G8:FnD P w K mg base "is_mark" 2 1 dB)(gc8:FnD P w K mg base "is_turn" 2 1 lL):aV P w K mg base CX0 3 f fd ["thing"] (spD K 1 lN):=by
 have nd:=jY.nd;refine F.okR rfl jY (λcdv A outer s H E hr=>⟨_,(am (aB (bp (qd G4 hr (aa (ae 0) (aa ah ag))) (bp (qd G8 hr (aa (aC aD (ae 0) ah (λ_ _=>rfl)) ag)) (cf (qd gc8 hr (aa (aC aD (ae 0) ah (λ_ _=>rfl)) ag))))))),λds M R _ hS bk=>?_⟩);obtain⟨d,rfl,hd,k⟩:=hS;refine bk ?_;clear bk;walk_at"";refine br.mpr ⟨hd,?_⟩;walk_at"";cases d with
 |tup ds =>
  by_cases hl:ds.length=2
  ·match ds,hl,hd,k with
   |[a,b],_,hd,k =>
    have hab:ao a=true/\ao b=true:=by simpa[ao,bq]using hd
    rw[if_pos (by rfl)];walk_at"";refine dn.mpr ⟨hab.1,?_⟩;walk_at"";simp only[nF]at k;refine bc (λh=>fO.mpr ⟨hab.2,?_⟩) (λh=>?_)
    ·rw[h,U5]at k;exact k
    ·rw[show cq a=false by simpa using h,S4]at k;exact k
  ·rw[if_neg (by simp only[dw];simp;lia)];rw[wC hl]at k;exact k
 |scr _=>simp[ao]at hd
 |ref _=>simp[ao]at hd
 |box _ _=>simp[ao]at hd
 |_=>rw[if_neg (by simp[dw])];exact k
theorem t6{f:D->Bool}{M:DH}{Q:List D->DH->Prop}{ds:List D}{te:TEd}{Δ0:DE}{n:Nat}(hte:∀d∈ds,∀x,∀Q2:D->DH->Prop,Q2 (.bl (f d)) M->te ((Δ0++[x]).set Δ0.length (some d)) M Q2)
  (h:Q ((ds.map f).map D.bl) M):cV (gg Δ0.length) sE te ds (Δ0++[none]) M [] Q:=by
 refine eN (λ_=>true) (λd=>.bl (f d)) (λΔ=>∃x,Δ=Δ0++[x]) _ _ _ (λd hd Δ hΔ=>?_) ⟨none,rfl⟩ ?_
 ·obtain⟨x,rfl⟩:=hΔ;refine⟨_,rfl,⟨some d,by simp⟩,λQ1 q=>q,λ_ Q2 q=>hte d hd x Q2 q⟩
 ·rw[N5,O5.mpr (λ_ _=>rfl)];rw[Q7]at h;exact h
theorem sI(F:Fun K "is_row" "is_row" gd f fd)(T:Txt mg)(gc7:FnD P w K mg base "is_sign" 3 1 lN):aV P w K mg base CX0 4 f fd ["thing"] (spD K 1 mT):=by
 have nd:=lQ.nd;refine F.okR rfl lQ (λcdv A outer s H E hr=>⟨_,(am (aB (bp (c9 (Tn:="tuple") (by decide) rfl T.b_isinstance rfl T.b_tuple (by kernel_rfl) (ae 0)) (cf (av (jm rfl) rfl T.b_all (by kernel_rfl) (aa (eW (ms:=[false]) (ar:=["sign"]) (aH (n0:=0) rfl (show aS (aj gd) jo _ _=true from by decide +kernel)) rfl (aM (ae 0)) (aG (i:=1) (show(jo++_).Nodup from by decide +kernel) rfl rfl) (λ_ _ _ _=>bo) (λ_ _ _ _=>(qd gc7 hr (aa (ae 1) ag)))) ag)))))),λds M R _ hS bk=>?_⟩);obtain⟨d,rfl,hd,k⟩:=hS;refine bk ?_;clear bk;walk_at"";simp only[bZ hd];cases d with
 |tup ds =>
  refine⟨true,rfl,?_⟩;walk_at"";have hds:∀d∈ds,ao d=true:=bb.mp (by simpa[ao]using hd);intro hz;refine⟨hz,t6 (f:=nF) (Δ0:=[none]) (n:=1) (λd hd' x Q2 q=>?_) ?_⟩
  ·walk_at"";exact fO.mpr ⟨hds d hd',q⟩
  ·refine⟨_,gO,?_⟩;have e:(ds.map nF).all id=wo (.tup ds):=by
    simp only[wo,V9];rfl
   rw[e];exact k
 |scr _=>simp[ao]at hd
 |ref _=>simp[ao]at hd
 |box _ _=>simp[ao]at hd
 |_=>exact⟨false,rfl,by simp only[J5,if_false];exact k⟩
def lA:D->Bool
 |.tup [a,b]=>cq a&&cq b
 |_=>false
def tG:D->Bool
 |.tup ds=>decide (ds.length<=8)&&ds.all lA
 |_=>false
def iC:SpD:=λds M R=>∃d,ds=[d]/\ao d=true/\R (.bl (lA d)) M
def gq:SpD:=λds M R=>∃d,ds=[d]/\ao d=true/\R (.bl (tG d)) M
theorem ot{d:D}{M:DH}{R:D->DH->Prop}:iC [d] M R↔ao d=true/\R (.bl (lA d)) M :=
 ⟨λ⟨d',e,h⟩=>by simp only[O0,and_true]at e;rw[e];exact h,λh=>⟨d,rfl,h⟩⟩
theorem nV{d:D}{M:DH}{R:D->DH->Prop}:gq [d] M R↔ao d=true/\R (.bl (tG d)) M :=
 ⟨λ⟨d',e,h⟩=>by simp only[O0,and_true]at e;rw[e];exact h,λh=>⟨d,rfl,h⟩⟩
theorem xc{ds:List D}(h:¬ ds.length=2):lA (.tup ds)=false:=by
 match ds,h with
 |[],_=>rfl
 |[_],_=>rfl
 |[_,_],h=>exact absurd rfl h
 |_::_::_::_,_=>rfl
theorem qL(F:Fun K "is_pair" "is_pair" gW f fd)(T:Txt mg)(G4:FnD P w K mg base "is_tuple_of" 1 2 aW)(G8:FnD P w K mg base "is_mark" 2 1 dB):aV P w K mg base CX0 3 f fd ["thing"] (spD K 1 iC):=by
 have nd:=j9.nd;refine F.okR rfl j9 (λcdv A outer s H E hr=>⟨_,(am (aB (bp (qd G4 hr (aa (ae 0) (aa ah ag))) (bp (qd G8 hr (aa (aC aD (ae 0) ah (λ_ _=>rfl)) ag)) (cf (qd G8 hr (aa (aC aD (ae 0) ah (λ_ _=>rfl)) ag))))))),λds M R _ hS bk=>?_⟩);obtain⟨d,rfl,hd,k⟩:=hS;refine bk ?_;clear bk;walk_at"";refine br.mpr ⟨hd,?_⟩;walk_at"";cases d with
 |tup ds =>
  by_cases hl:ds.length=2
  ·match ds,hl,hd,k with
   |[a,b],_,hd,k =>
    have hab:ao a=true/\ao b=true:=by simpa[ao,bq]using hd
    rw[if_pos (by rfl)];walk_at"";refine dn.mpr ⟨hab.1,?_⟩;walk_at"";simp only[lA]at k;refine bc (λh=>dn.mpr ⟨hab.2,?_⟩) (λh=>?_)
    ·rw[h,U5]at k;exact k
    ·rw[show cq a=false by simpa using h,S4]at k;exact k
  ·rw[if_neg (by simp only[dw];simp;lia)];rw[xc hl]at k;exact k
 |scr _=>simp[ao]at hd
 |ref _=>simp[ao]at hd
 |box _ _=>simp[ao]at hd
 |_=>rw[if_neg (by simp[dw])];exact k
theorem oN(F:Fun K "is_order" "is_order" eh f fd)(T:Txt mg)(gc5:FnD P w K mg base "is_pair" 3 1 iC):aV P w K mg base CX0 4 f fd ["thing"] (spD K 1 gq):=by
 have nd:=jb.nd;refine F.okR rfl jb (λcdv A outer s H E hr=>⟨_,(am (aB (bp (c9 (Tn:="tuple") (by decide) rfl T.b_isinstance rfl T.b_tuple (by kernel_rfl) (ae 0)) (bp (eO j3 (av aY rfl T.b_len (by kernel_rfl) (aa (ae 0) ag)) (cP rfl T.g_MOST_PAIRS) nbh) (cf (av (jm rfl) rfl T.b_all (by kernel_rfl) (aa (eW (ms:=[false]) (ar:=["pair"]) (aH (n0:=0) rfl (show aS (aj eh) gh _ _=true from by decide +kernel)) rfl (aM (ae 0)) (aG (i:=1) (show(gh++_).Nodup from by decide +kernel) rfl rfl) (λ_ _ _ _=>bo) (λ_ _ _ _=>(qd gc5 hr (aa (ae 1) ag)))) ag))))))),λds M R _ hS bk=>?_⟩);obtain⟨d,rfl,hd,k⟩:=hS;refine bk ?_;clear bk;walk_at"";simp only[bZ hd];cases d with
 |tup ds =>
  refine⟨true,rfl,?_⟩;walk_at"";have hds:∀d∈ds,ao d=true:=bb.mp (by simpa[ao]using hd);refine bc (λh1=>λhz=>⟨hz,?_⟩) (λh1=>?_)
  ·refine t6 (f:=lA) (Δ0:=[none]) (n:=1) (λd hd' x Q2 q=>?_) ?_
   ·walk_at"";exact ot.mpr ⟨hds d hd',q⟩
   ·refine⟨_,gO,?_⟩;have e:(ds.map lA).all id=tG (.tup ds):=by
     simp only[tG,V9,decide_eq_true (by lia:ds.length<=8),U5];rfl
    rw[e];exact k
  ·have e:tG (.tup ds)=false:=by simp only[tG,decide_eq_false (by lia:¬ ds.length<=8),S4]
   rw[e]at k;exact k
 |scr _=>simp[ao]at hd
 |ref _=>simp[ao]at hd
 |box _ _=>simp[ao]at hd
 |_=>exact⟨false,rfl,by simp only[J5,if_false];exact k⟩
theorem sY{w:Str}(h:bG w):w.length<=8:=by
 have:w.length=w.cps.toList.length:=by show w.cps.size=_;simp
 rw[this];exact h.2.1
theorem dj{w:Str}(h:bG w):jE w=true:=by
 obtain⟨h1,h2,h3⟩:=h;have e:w.length=w.cps.toList.length:=by show w.cps.size=_;simp
 unfold jE;rw[decide_eq_true (by lia:1<=w.length),decide_eq_true (by lia:w.length<=8),U5,U5,O4];intro c hc;have:=h3 c hc;unfold p6 at this;rw[decide_eq_true_eq];unfold mL;rw[List.mem_range'_1]
 lia
theorem zE{row:List (Str×Int)}(h:∀x∈row,x.1.length<=8):bq (row.map aF)=true:=by
 rw[bb];intro d hd;obtain⟨x,hx,rfl⟩:=N7.mp hd;have:=h x hx;simp only[aF,ao,bq,ag5,decide_eq_true_eq]
 lia
theorem Dq{n:Int}{row:List (Str×Int)}(hn:n<=99)(h:∀x∈row,bG x.1/\-n<=x.2/\x.2<=n):wo (.tup (row.map aF))=true:=by
 simp only[wo,V9,O4];intro x hx;obtain⟨h1,h2,h3⟩:=h x hx;simp only[Function.comp,aF,nF,cq,dj h1,vp,decide_eq_true (by lia:-99<=x.2),decide_eq_true (by lia:x.2<=99),ag7]
def jL(n:Nat)(xs:List Int):Prop:=xs.length=n/\∀x∈xs,0<=x/\x<1000000
theorem jL.snoc{n:Nat}{xs:List Int}{x:Int}(h:jL n xs)(h0:0<=x)(h1:x<1000000):jL (n+1) (xs++[x]):=by
 refine⟨by rw[J9,h.1];rfl,λy hy=>?_⟩;rcases K1.mp hy with q|q
 ·exact h.2 y q
 ·have:y=x:=by simpa using q
  subst this;exact⟨h0,h1⟩
theorem jL.at{n:Nat}{xs:List Int}(h:jL n xs)(i:Nat)(hi:i<n):∃x:Int,atI (xs.map D.int) (i:Int)=some (.int x)/\0<=x/\x<1000000:=by
 have hi':i<xs.length:=by rw[h.1];exact hi
 exact⟨xs[i],bA (by simp[hi']),h.2 _ (P7 hi')⟩
def gV:SpD:=λds M R=>∃(ns:List Int) (k n:Nat),ds=[.scr (ns.map D.int),.int k,.int n]/\n<=100/\∀xs,jL n xs->R (.lst (xs.map D.int)) M
theorem qq(F:Fun K "_law_numbers" "_law_numbers" gN f fd)(T:Txt mg):aV P w K mg base CX0 1 f fd ["_law_script","_law_k","_law_size"] (spD K 3 gV):=by
 have nd:=ku.nd;refine F.okR rfl ku (λcdv A outer s H E hr=>⟨_,(ai (ax (i:=3) nd rfl (L9 rfl) ah)
   (ai (bh (aR kE (ae 1) (av aY rfl T.b_len (by kernel_rfl) (aa (ae 0) ag)) nbh) (am (ax (i:=3) nd rfl (L9 rfl) (aC aD (ae 0) (ae 1) (λ_ _=>rfl)))) aK)
   (ai (ax (i:=4) nd rfl (L9 rfl) ah)
   (ai (bh (iX (fL (aR kE (ae 3) ah nbh) (fh (aR FQ (ae 3) (az v4 ah ah) nbh)))) (am (ax (i:=4) nd rfl (L9 rfl) (av EU rfl T.b_abs (by kernel_rfl) (aa (ae 3) ag)))) aK)
   (ai (ax (i:=5) nd rfl (L9 rfl) (az bH (az aI (ae 3) (az gb ah (ae 1))) ah))
   (ai (ax (i:=6) nd rfl (L9 rfl) (dI ag))
   (ai (cE N3 rfl (dX rfl T.b_range (aa (ae 2) ag)) (aZ (i:=7) nd rfl (L9 rfl)) (ai (ax (i:=5) nd rfl (L9 rfl) (az bH (az aI (az aI (az gb (ae 5) ah) (az gb ah (az aI (ae 7) ah))) ah) ah))
   (am (bh (aR DJ (ae 4) ah nbh) (ai (dJ (gy (ae 6) (az bH (ae 4) (az v4 ah ah))))
   (am (ax (i:=4) nd rfl (L9 rfl) (az eA (ae 4) (az v4 ah ah))))) (am (dJ (gy (ae 6) (az bH (az bH (az aI (az gb (ae 5) ah) (az eA (ae 5) ah)) ah) (az v4 ah ah)))))))))
   (am (qJ (ae 6)))))))))),λds M R _ hS bk=>?_⟩)
 obtain⟨ns,kk,n,rfl,hn,k⟩:=hS;refine bk ?_;clear bk;refine ba (λΔ' M'=>Δ'=[some (.scr (ns.map D.int)),some (.int kk),some (.int n),some (.int 0),none,none,none,none]/\M=M') (λnx k'=>?_) ?_
 ·walk_at"";exact k' _ _ ⟨rfl,rfl⟩
 rintro _ _ ⟨rfl,rfl⟩;refine ba (λΔ' M'=>(∃c:Int,Δ'=[some (.scr (ns.map D.int)),some (.int kk),some (.int n),some (.int c),none,none,none,none])/\M=M') (λnx k'=>?_) ?_
 ·walk_at"";refine bc (λh=>?_) (λh=>k' _ _ ⟨⟨_,rfl⟩,rfl⟩);have hk:kk<ns.length:=by rw[u8]at h;lia
  exact⟨_,bA (by rw[L8,J1 hk];rfl),k' _ _ ⟨⟨_,rfl⟩,rfl⟩⟩
 rintro _ _ ⟨⟨c,rfl⟩,rfl⟩;refine ba (λΔ' M'=>Δ'=[some (.scr (ns.map D.int)),some (.int kk),some (.int n),some (.int c),some (.int 0),none,none,none]/\M=M') (λnx k'=>?_) ?_
 ·walk_at"";exact k' _ _ ⟨rfl,rfl⟩
 rintro _ _ ⟨rfl,rfl⟩;refine ba (λΔ' M'=>(∃r:Int,0<=r/\Δ'=[some (.scr (ns.map D.int)),some (.int kk),some (.int n),some (.int c),some (.int r),none,none,none])/\M=M') (λnx k'=>?_) ?_
 ·walk_at"";refine bc (λh=>k' _ _ ⟨⟨_,?_,rfl⟩,rfl⟩) (λh=>bc (λh2=>k' _ _ ⟨⟨_,?_,rfl⟩,rfl⟩) (λh2=>k' _ _ ⟨⟨0,by lia,rfl⟩,rfl⟩))
  ·split<;>lia
  ·split<;>lia
 rintro _ _ ⟨⟨r,hr0,rfl⟩,rfl⟩;walk_at"";rw[V6];refine⟨sz3 0,λp hp=>⟨by lia,by lia,?_⟩⟩;refine aP (λi Δ M'=>∃(r w:Int) (acc:List Int) (x7:Option D),Δ=[some (.scr (ns.map D.int)),some (.int kk),some (.int n),some (.int c),some (.int r),some (.int w),some (.ref p),x7]/\M'=aT M p (.lst (acc.map D.int))/\jL i acc/\0<=r/\0<=w/\w<2147483587) ⟨r,_,[],none,rfl,rfl,⟨rfl,λ_ h=>by cases h⟩,hr0,by lia,by lia⟩ ?_ ?_
 ·rintro i d Δ M' X hd ⟨r,w,acc,x7,rfl,rfl,hN,r0,w0,w1⟩ k';obtain⟨hi,rfl⟩:=b7 hd;refine⟨_,rfl,?_⟩;walk_at"";have hz:acc.length<J7:=by rw[hN.1];exact K5 (by lia:i<1000) (sz3 1000)
  rw[u8];refine bc (λh=>⟨hz,k' _ _ ⟨_,_,acc++[r % 1000000],_,rfl,by rw[O1];rfl,hN.snoc (by lia) (by lia),by lia,by lia,by lia⟩⟩) (λh=>⟨hz,k' _ _ ⟨_,_,acc++[((w*41201+32452843*(0+(i:Int)+1)+11) % 2147483587*50021+(w*41201+32452843*(0+(i:Int)+1)+11) % 2147483587 / 32768) % 998244353 % 1000000],_,rfl,by rw[O1];rfl,hN.snoc (by lia) (by lia),r0,by lia,by lia⟩⟩)
 ·rintro Δ M' ⟨r,w,acc,x7,rfl,rfl,hN,r0,w0,w1⟩;walk_at"";rw[jS hp];rw[cn]at hN;exact k acc hN
theorem Gi{cs:List Nat}(h:cs.length=3):uQ (.str (tx cs)) (.int 3)=some (.str (tx (cs++cs++cs))):=by
 have hl:(tx cs).length=3:=by rw[fi,h]
 have e:Txt.mul (tx cs) 3=tx (cs++cs++cs):=by
  unfold Txt.mul;rw[if_neg (by decide),hl,if_neg (by decide)];simp[tx,M7]
 simp only[uQ];rw[if_pos (by rw[hl];decide),e]
theorem xi{cs:List Nat}{n:Nat}(h:cs.length=3)(hc:∀c∈cs,p6 c)(h1:1<=n)(h8:n<=8):bG (tx ((cs++cs++cs).take n)):=by
 unfold bG;rw[fX,N2,J9,J9,h];refine⟨by lia,by lia,λc hc'=>hc c ?_⟩;have:=aa4 hc';simpa using this
def zW(k:Nat):Str:=tx [122,97+k]
theorem ES{k:Nat}(h:k<26):ixD (.str abc) (.int k)=some (.str (tx [97+k])):=by
 rw[Cq,if_pos (by rw[n6,fi];exact sz3 _),n6,fX,bA (v:=97+k) (by unfold mL;rw[List.getElem?_range' (by lia)];simp)];rfl
theorem BO{k:Nat}(h:k<26):bG (zW k):=by
 unfold bG zW;rw[fX];refine⟨by simp,by simp,λc hc=>?_⟩;unfold p6;simp at hc
 lia
theorem Fb{k:Nat}:qf (.str (U9 "z")) (.str (tx [97+k]))=some (.str (zW k)):=by
 rw[show U9 "z"=tx [122]by decide +kernel,vI,if_pos (by rw[fi,fi];exact sz3 2),yZ];rfl
theorem FT{k:Nat}{L:List Str}(h:∀j,j<k->zW j∈L):k<=L.length:=by
 have:=fB ((O2 k).map zW) L ?_ (λx hx=>by
  obtain⟨j,hj,rfl⟩:=N7.mp hx;exact h j (P8.mp hj))
 ·simpa using this
 ·exact aj7.mpr (an8.imp (λ{a b} hab z=>hab (by
   have:=El.mp z;simp at this;exact this)) List.nodup_range)
def pk:SpD:=λds M R=>∃xs:List Int,ds=[.lst (xs.map D.int)]/\xs.length<=8/\(∀x∈xs,0<=x)/\∀ws:List Str,ws.length=xs.length->(∀w∈ws,bG w)->ws.Nodup->R (.lst (ws.map D.str)) M
theorem uT(F:Fun K "_law_names" "_law_names" kL f fd)(T:Txt mg):aV P w K mg base CX0 1 f fd ["_law_numbers_here"] (spD K 1 pk):=by
 have nd:=nr.nd;refine F.okR rfl nr (λcdv A outer s H E hr=>⟨_,(ai (ax (i:=1) nd rfl (L9 rfl) rG)
   (ai (ax (i:=2) nd rfl (L9 rfl) (dI ag))
   (ai (cE N3 rfl (aM (ae 0)) (aZ (i:=3) nd rfl (L9 rfl)) (ai (ax (i:=4) nd rfl (L9 rfl) rG)
   (ai (cE N3 rfl (aM (df (aa ah (aa ah (aa ah ag))))) (aZ (i:=5) nd rfl (L9 rfl)) (am (ax (i:=4) nd rfl (L9 rfl) (az aI (ae 4) (aC aD (ae 1) (az bH (az eA (ae 3) (ae 5)) ah) (λ_ _=>rfl))))))
   (ai (ax (i:=4) nd rfl (L9 rfl) (bu (az gb (ae 4) ah) cx (bf (az aI ah (az bH (ae 3) ah)))))
   (ai (ax (i:=6) nd rfl (L9 rfl) ah)
   (ai (mj N3 (aR mx (ae 4) (ae 2) rfl) (ai (ax (i:=4) nd rfl (L9 rfl) (az aI rG (aC aD (ae 1) (ae 6) (λ_ _=>rfl))))
   (am (ax (i:=6) nd rfl (L9 rfl) (az aI (ae 6) ah)))))
   (am (dJ (gy (ae 2) (ae 4))))))))))
   (am (qJ (ae 2)))))),λds M R _ hS bk=>?_⟩)
 obtain⟨xs,rfl,hl,hx,k⟩:=hS;refine bk ?_;clear bk;walk_at"";refine⟨sz3 0,λp hp hz=>?_⟩;refine aP (λi Δ M'=>∃(ws:List Str) (x3 x4 x5 x6:Option D),Δ=[some (.lst (xs.map D.int)),some (.str abc),some (.ref p),x3,x4,x5,x6]/\M'=aT M p (.lst (ws.map D.str))/\ws.length=i/\(∀w∈ws,bG w)/\ws.Nodup) ⟨[],none,none,none,none,rfl,rfl,rfl,(λ_ h=>by cases h),List.nodup_nil⟩ ?_ ?_
 ·rintro i d Δ M' X hd ⟨ws,x3,x4,x5,x6,rfl,rfl,hw,hW,hnd⟩ k';obtain⟨x,hx',rfl⟩:=dZ hd;have hx0:0<=x:=hx x (M9 hx');have hi:i<xs.length:=(K3.mp hx').1;refine⟨_,rfl,?_⟩;walk_at"";refine⟨sz3 3,λ_=>?_⟩;refine aP (λj Δ M'=>∃(cs:List Nat) (y5:Option D),Δ=[some (.lst (xs.map D.int)),some (.str abc),some (.ref p),some (.int x),some (.str (tx cs)),y5,x6]/\M'=aT M p (.lst (ws.map D.str))/\cs.length=j/\∀c∈cs,p6 c) ⟨[],x5,by rw[ED],rfl,rfl,λ_ h=>by cases h⟩ ?_ ?_
  ·rintro j d Δ M' X2 hd2 ⟨cs,y5,rfl,rfl,hc,hC⟩ k2;obtain⟨st,rfl,s0,s1⟩:∃st:Int,d=.int st/\0<st/\st<10000:=by
    match j,hd2 with
    |0,h=>cases h;exact⟨8,rfl,by decide,by decide⟩
    |1,h=>cases h;exact⟨208,rfl,by decide,by decide⟩
    |2,h=>cases h;exact⟨5408,rfl,by decide,by decide⟩
    |j+3,h=>cases h
   have hj:j<3:=(K3.mp hd2).1;refine⟨_,rfl,?_⟩;walk_at"";have hd:qE x st:=⟨s0,by lia⟩;simp only[hd];walk_at"";obtain⟨c,hc1,e⟩:=Eo (v:=x / st % 26) (by lia) (by lia);refine⟨_,e,?_⟩;walk_at"";refine⟨_,if_pos (by rw[fi,fi,hc];exact sz3 _ (by simp;lia)),k2 _ _ ⟨cs++[c],_,by rw[yZ],rfl,by simp[hc],λz hz=>?_⟩⟩;rcases K1.mp hz with h|h
   ·exact hC z h
   ·rw[K0.mp h];exact hc1
  ·rintro Δ M' ⟨cs,y5,rfl,rfl,hc,hC⟩;have hc3:cs.length=3:=hc;walk_at"";simp only[Gi hc3];walk_at"";have en:1+x % 8=((1+x % 8).toNat:Int):=by lia
   rw[en,t9];refine⟨_,if_pos (by rw[fi];simp;exact sz3 _ (by lia)),?_⟩;have hw0:=xi (n:=(1+x % 8).toNat) hc3 hC (by lia) (by lia);generalize tx ((cs++cs++cs).take (1+x % 8).toNat)=w0 at hw0;refine⟨λm Δ M'=>∃(q:Nat) (w:Str),Δ=[some (.lst (xs.map D.int)),some (.str abc),some (.ref p),some (.int x),some (.str w),y5,some (.int q)]/\M'=aT M p (.lst (ws.map D.str))/\bG w/\(∀j,j+1<q->zW j∈ws)/\(0<q->w=zW (q-1))/\m=20-q,⟨_,0,w0,rfl,rfl,hw0,λj h=>by lia,λh=>by lia,rfl⟩,?_⟩;rintro m Δ M' ⟨q,w,rfl,rfl,hw1,hz1,hz2,rfl⟩;walk_at"";refine⟨_,if_pos ⟨rfl,eR⟩,_,rfl,?_⟩;rw[dF,ah3];refine bc (λh=>?_) (λh=>?_)
   ·have hin:w∈ws:=by simpa using h
    have hq:q<=ws.length+1:=by
     have:=FT (k:=q) (L:=ws) (λj hj=>?_)
     ·lia
     ·by_cases e:j+1<q
      ·exact hz1 j e
      ·rw[show j=q-1 by lia,<-hz2 (by lia)];exact hin
    refine⟨_,ES (k:=q) (by lia),?_⟩;walk_at"";refine⟨_,Fb,20-(q+1),by lia,q+1,zW q,?_,BO (by lia),λj hj=>?_,λ_=>rfl,rfl⟩
    ·simp
    ·by_cases e:j+1<q
     ·exact hz1 j e
     ·rw[show j=q-1 by lia,<-hz2 (by lia)];exact hin
   ·refine⟨by rw[u8];exact K5 (by lia:ws.length<1000) (sz3 1000),k' _ _ ⟨ws++[w],_,_,_,_,rfl,by rw[O1];rfl,by simp[hw],λz hz=>?_,?_⟩⟩
    ·rcases K1.mp hz with h|h
     ·exact hW z h
     ·rw[K0.mp h];exact hw1
    ·rw[aa8];refine⟨hnd,by simp,λu hu v hv=>?_⟩;rw[K0.mp hv];rintro rfl;exact h (by simpa using hu)
 ·rintro Δ M' ⟨ws,x3,x4,x5,x6,rfl,rfl,hw,hW,hnd⟩;walk_at"";rw[jS hp];rw[u8]at hw;exact k ws hw hW hnd
def ly:SpD:=λds M R=>∃(ord:List (Str×Str)) (a:Str),ds=[.tup (ord.map aQ),.str a]/\ord.length<=500 /\
 ∀L:List Str,a∈L->iG ord L->(∀x∈L,cM ord a x)->R (.lst (L.map .str)) M
theorem qO(F:Fun K "_law_reached" "_law_reached" iF f fd)(T:Txt mg):aV P w K mg base CX0 1 f fd ["_law_order_here","_law_one"] (spD K 2 ly):=by
 have nd:=ka.nd;refine F.okR rfl ka (λcdv A outer s H E hr=>⟨_,(ai (ax (i:=2) nd rfl (L9 rfl) (dI (aa (ae 1) ag)))
   (ai (cE N3 rfl (dX rfl T.b_range (aa (av aY rfl T.b_len (by kernel_rfl) (aa (ae 0) ag)) ag)) (aZ (i:=3) nd rfl (L9 rfl)) (am (cE N3 rfl (aM (ae 0)) (mM rfl (cO (aZ (i:=4) nd rfl (L9 rfl)) (cO (aZ (i:=5) nd rfl (L9 rfl)) nB))) (am (bh (iX (jx (aR mx (ae 4) (ae 2) rfl) (iL (aR tI (ae 5) (ae 2) rfl)))) (am (dJ (gy (ae 2) (ae 5)))) aK)))))
   (am (qJ (ae 2))))),λds M R _ hS bk=>?_⟩)
 obtain⟨ord,a,rfl,ho,k⟩:=hS;refine bk ?_;clear bk;walk_at"";rw[u8];refine⟨sz3 1,λq hq=>⟨by lia,by lia,?_⟩⟩;refine aP (λi Δ M'=>∃(x3 x4 x5:Option D) (L:List Str),Δ=[some (D.tup (ord.map aQ)),some (D.str a),some (D.ref q),x3,x4,x5]/\M'=aT M q (.lst (L.map .str))/\a∈L/\L.Nodup/\(∀x∈L,cM ord a x)/\(∀x∈L,x∈a::ord.map (·.2))/\(iG ord L∨i<=kQ ord L))
  ⟨_,_,_,[a],rfl,rfl,by simp,by simp,λx hx=>by rw[K0.mp hx];exact cM.refl,λx hx=>by rw[K0.mp hx];simp,.inr (Q5 _)⟩ ?_ ?_
 ·rintro i d Δ M' X hd ⟨x3,x4,x5,L0,rfl,rfl,ha,hn,hs,hb,hC⟩ k';simp only[gg];walk_at"";intro hz;refine aP (λj Δ M'=>∃(x4 x5:Option D) (L:List Str),Δ=[some (D.tup (ord.map aQ)),some (D.str a),some (D.ref q),some d,x4,x5]/\M'=aT M q (.lst (L.map .str))/\(∀x∈L0,x∈L)/\L.Nodup/\(∀x∈L,cM ord a x)/\(∀x∈L,x∈a::ord.map (·.2))/\(∀n y,n<j->ord[n]?=some y->y.1∈L0->y.2∈L)/\(iG ord L0->L=L0))
   ⟨_,_,L0,rfl,rfl,λ_ h=>h,hn,hs,hb,λn y h=>absurd h (by lia),λ_=>rfl⟩ ?_ ?_
  ·rintro j d2 Δ M' X2 hd2 ⟨y4,y5,L,rfl,rfl,hsub,hn2,hs2,hb2,hd',hc⟩ k2;obtain⟨⟨b,c⟩,hbc,rfl⟩:=dZ hd2;have hmem:(b,c)∈ord:=M9 hbc;have cJ:L.length<=ord.length+1:=by
    have:=fB L (a::ord.map (·.2)) hn2 hb2;simpa using this
   simp only[aQ,nT,gX,gg,sL,Option.bind_some];refine⟨_,rfl,?_⟩;walk_at"";refine⟨_,if_pos ⟨rfl,eR⟩,_,rfl,?_⟩;rw[dF];simp only[ah3]
   by_cases hbL:b∈L
   ·simp only[hbL,decide_true,if_true];refine⟨_,if_pos ⟨rfl,eR⟩,_,rfl,?_⟩;rw[dF]
    by_cases hcL:c∈L
    ·simp only[hcL,decide_true,Bool.xor_true,ac4,J5,if_false];refine k2 _ _ ⟨_,_,L,rfl,rfl,hsub,hn2,hs2,hb2,λn y hnj hy hy0=>?_,hc⟩
     by_cases hnj':n<j
     ·exact hd' n y hnj' hy hy0
     ·have:n=j:=by lia
      subst this;rw[hbc]at hy;cases hy;exact hcL
    ·simp only[hcL,decide_false,Bool.xor_false,if_true];refine⟨by rw[u8];exact K5 (by lia:L.length<1000) (sz3 1000),?_⟩;have ea:L.map D.str++[D.str c]=(L++[c]).map D.str:=by simp
     rw[ea];refine k2 _ _ ⟨_,_,L++[c],rfl,rfl,λx hx=>U0 _ (hsub x hx),?_,λx hx=>?_,λx hx=>?_,λn y hnj hy hy0=>?_,λhcl=>?_⟩
     ·rw[aa8];refine⟨hn2,by simp,λu hu v hv=>?_⟩;have:v=c:=by simpa using hv
      subst this;rintro rfl;exact hcL hu
     ·rcases K1.mp hx with h|h
      ·exact hs2 x h
      ·have:x=c:=by simpa using h
       subst this;exact cM.step (hs2 b hbL) hmem
     ·rcases K1.mp hx with h|h
      ·exact hb2 x h
      ·have:x=c:=by simpa using h
       subst this;exact O6 _ (N7.mpr ⟨_,hmem,rfl⟩)
     ·by_cases hnj':n<j
      ·exact U0 _ (hd' n y hnj' hy hy0)
      ·have:n=j:=by lia
       subst this;rw[hbc]at hy;cases hy;simp
     ·have e:=hc hcl;rw[e]at hbL hcL;exact absurd (hcl _ hmem hbL) hcL
   ·simp only[hbL,decide_false,J5,if_false];refine k2 _ _ ⟨_,_,L,rfl,rfl,hsub,hn2,hs2,hb2,λn y hnj hy hy0=>?_,hc⟩
    by_cases hnj':n<j
    ·exact hd' n y hnj' hy hy0
    ·have:n=j:=by lia
     subst this;rw[hbc]at hy;cases hy;exact absurd (hsub _ hy0) hbL
  ·rintro Δ M' ⟨y4,y5,L,rfl,rfl,hsub,hn2,hs2,hb2,hd',hc⟩;refine k' _ _ ⟨_,_,_,L,rfl,rfl,hsub a ha,hn2,hs2,hb2,?_⟩
   by_cases hcl:iG ord L0
   ·rw[hc hcl];exact .inl hcl
   ·right;have hk:=hC.resolve_left hcl;have:∃p∈ord,p.1∈L0/\p.2∉L0:=W4 λhn=>hcl λp hp h1=>W4 λh2=>hn ⟨p,hp,h1,h2⟩;obtain⟨p,hp,h1,h2⟩:=this;obtain⟨n,hn',en⟩:=U1.mp hp;have hin:p.2∈L:=hd' n p (by rw[u8];exact hn') (by rw[J1 hn',en]) h1;have:=vw hsub h2 hin hp
    lia
 ·rintro Δ M' ⟨x3,x4,x5,L,rfl,rfl,ha,hn,hs,hb,hC⟩;have hC':iG ord L:=xy (by rw[cn]at hC;rcases hC with h|h;exact .inl h;right;lia);walk_at"";rw[jS hq];exact k L ha hC' hs
theorem Aq{l:List Int}{v:Int}(h0:0<=v)(h1:v<(l.length:Int)):∃t∈l,atI (l.map D.int) v=some (.int t):=by
 obtain⟨n,rfl⟩:=ae5 h0;have hn:n<l.length:=by lia
 exact⟨l[n],P7 hn,bA (by simp[hn])⟩
def pq:SpD:=λds M R=>∃(xs:List Int) (ws:List Str),ds=[.lst (xs.map D.int),.lst (ws.map D.str)]/\jL 7 xs/\ws≠[]/\ws.length<=8/\∀o:List (Str×Str),o.length<=3->(∀x∈o,x.1∈ws/\x.2∈ws)->R (.tup (o.map aQ)) M
theorem uv(F:Fun K "_law_order" "_law_order" kX f fd)(T:Txt mg):aV P w K mg base CX0 1 f fd ["_law_numbers_here","_law_marks"] (spD K 2 pq):=by
 have nd:=ng.nd;refine F.okR rfl ng (λcdv A outer s H E hr=>⟨_,(ai (ax (i:=2) nd rfl (L9 rfl) (dI ag))
   (ai (cE N3 rfl (dX rfl T.b_range (aa (az bH (aC aD (ae 0) ah (λ_ _=>rfl)) ah) ag)) (aZ (i:=3) nd rfl (L9 rfl)) (am (dJ (gy (ae 2) (aJ (aa (aC aD (ae 1) (az bH (aC aD (ae 0) (az aI ah (az gb ah (ae 3))) (λ_ _=>rfl)) (av aY rfl T.b_len (by kernel_rfl) (aa (ae 1) ag))) (λ_ _=>rfl)) (aa (aC aD (ae 1) (az bH (aC aD (ae 0) (az aI ah (az gb ah (ae 3))) (λ_ _=>rfl)) (av aY rfl T.b_len (by kernel_rfl) (aa (ae 1) ag))) (λ_ _=>rfl)) ag)))))))
   (am (lu (bC dq rfl T.b_tuple (by kernel_rfl) (aa (ae 2) ag)))))),λds M R _ hS bk=>?_⟩)
 obtain⟨xs,ws,rfl,hN,hw,hwl,k⟩:=hS;obtain⟨x0,e0,a0,a1⟩:=hN.at 0 (by lia);refine bk ?_;clear bk;have hwp:=S5.mpr hw;walk_at"";refine⟨sz3 0,λp hp=>⟨_,e0,?_⟩⟩;walk_at"";refine⟨by lia,by lia,?_⟩;refine aP (λi Δ M'=>∃(o:List (Str×Str)) (x3:Option D),Δ=[some (.lst (xs.map D.int)),some (.lst (ws.map D.str)),some (.ref p),x3]/\M'=aT M p (.lst (o.map aQ))/\o.length=i/\∀x∈o,x.1∈ws/\x.2∈ws) ⟨[],none,rfl,rfl,rfl,λ_ h=>by cases h⟩ ?_ ?_
 ·rintro i d Δ M' X hd ⟨o,x3,rfl,rfl,ho,hO⟩ k';obtain⟨hi,rfl⟩:=b7 hd;refine⟨_,rfl,?_⟩;walk_at"";obtain⟨x1,e1,b0,b1⟩:=hN.at (1+2*i) (by lia);obtain⟨x2,e2,c0,c1⟩:=hN.at (2+2*i) (by lia);rw[show(1:Int)+2*(0+(i:Int))=((1+2*i:Nat):Int)by lia,show(2:Int)+2*(0+(i:Int))=((2+2*i:Nat):Int)by lia];refine⟨_,e1,?_⟩;have hp1:(0:Int)<((ws.map D.str).length:Int):=by rw[u8];lia
  walk_at"";simp only[hp1];walk_at"";rw[u8];obtain⟨m1,hm1,f1⟩:=dG (fF:=ws) (v:=x1 % ws.length) (T7 _ (by lia)) (S1 _ (by lia));obtain⟨m2,hm2,f2⟩:=dG (fF:=ws) (v:=x2 % ws.length) (T7 _ (by lia)) (S1 _ (by lia));refine⟨_,f1,_,e2,?_⟩;walk_at"";refine⟨_,if_pos (by lia),_,f2,?_⟩;refine⟨sz3 2,by rw[u8];exact K5 (by lia:o.length<1000) (sz3 1000),k' _ _ ⟨o++[(m1,m2)],_,rfl,by rw[O1];rfl,by simp[ho],λz hz=>?_⟩⟩;rcases K1.mp hz with h|h
  ·exact hO z h
  ·rw[K0.mp h];exact⟨hm1,hm2⟩
 ·rintro Δ M' ⟨o,x3,rfl,rfl,ho,hO⟩;walk_at"";rw[cn]at ho;exact⟨_,mv hp,k o (by lia) hO⟩
def nI:SpD:=λds M R=>∃(n:Int) (ws:List Str),ds=[.int n,.lst (ws.map D.str)]/\0<=n/\ws≠[]/\ws.length<=8/\∀s:Str×Int,s.1∈ws->-2<=s.2->s.2<=2->R (aF s) M
theorem xt(F:Fun K "_law_sign" "_law_sign" nN f fd)(T:Txt mg):aV P w K mg base CX0 1 f fd ["_law_number_here","_law_marks"] (spD K 2 nI):=by
 have nd:=oP.nd;refine F.okR rfl oP (λcdv A outer s H E hr=>⟨_,(am (aB (aJ (aa (aC aD (ae 1) (az bH (ae 0) (av aY rfl T.b_len (by kernel_rfl) (aa (ae 1) ag))) (λ_ _=>rfl)) (aa (aC aD (df (aa ah (aa ah (aa (l6 l7 ah) (aa ah (aa ah (aa (l6 l7 ah) (aa ah (aa (l6 l7 ah) ag))))))))) (az bH (az eA (ae 0) ah) ah) (λ_ _=>rfl)) ag))))),λds M R _ hS bk=>?_⟩);obtain⟨n,ws,rfl,hn,hw,hwl,k⟩:=hS;refine bk ?_;clear bk;have hwp:=S5.mpr hw;have hp1:(0:Int)<((ws.map D.str).length:Int):=by rw[u8];lia
 walk_at"";simp only[hp1];walk_at"";rw[u8];obtain⟨m1,hm1,f1⟩:=dG (fF:=ws) (v:=n % ws.length) (T7 _ (by lia)) (S1 _ (by lia));obtain⟨u,hu,f2⟩:=Aq (l:=[0,1,-1,0,1,-1,2,-2]) (v:=n / 7 % 8) (by lia) (by simp;lia);refine⟨_,f1,sz3 8,_,f2,sz3 2,k (m1,u) hm1 ?_ ?_⟩
 ·simp at hu;simp only;lia
 ·simp at hu;simp only;lia
def fS:SpD:=λds M R=>∃(ord:List (Str×Str)) (x y:Str×Int),ds=[.tup (ord.map aQ),aF x,aF y]/\ord.length<=500/\R (.bl (x.2+1==y.2&&lB ord x.2 x.1 y.1)) M
theorem tH{ord:List (Str×Str)}{a b:Str}{L:List Str}(h1:a∈L)(h2:iG ord L)(h3:∀x∈L,cM ord a x):(false ^^ decide (b∈L))=rB ord a b:=by
 rw[ah3,Q4,qH,decide_eq_true_eq];exact⟨λh=>h3 b h,λh=>sT h1 h2 h⟩
theorem tV(F:Fun K "_law_cancel" "_law_cancel" jz f fd)(T:Txt mg)(gb5:FnD P w K mg base "_law_reached" 1 2 ly):aV P w K mg base CX0 2 f fd ["_law_order_here","_law_one","_law_other"] (spD K 3 fS):=by
 have nd:=lD.nd;refine F.okR rfl lD (λcdv A outer s H E hr=>⟨_,(ai (bh (aR (mJ hr.units) (aC aD (ae 2) ah (λ_ _=>rfl)) (az aI (aC aD (ae 1) ah (λ_ _=>rfl)) ah) nbh) (am (aB eQ)) aK)
   (ai (bh (aR (gK hr.units) (az bH (aC aD (ae 1) ah (λ_ _=>rfl)) ah) ah nbh) (am (aB (eO mx (aC aD (ae 2) ah (λ_ _=>rfl)) (qd gb5 hr (aa (ae 0) (aa (aC aD (ae 1) ah (λ_ _=>rfl)) ag))) rfl))) aK)
   (am (aB (eO mx (aC aD (ae 1) ah (λ_ _=>rfl)) (qd gb5 hr (aa (ae 0) (aa (aC aD (ae 2) ah (λ_ _=>rfl)) ag))) rfl))))),λds M R _ hS bk=>?_⟩)
 obtain⟨ord,⟨a,t⟩,⟨b,u⟩,rfl,ho,k⟩:=hS;refine bk ?_;clear bk;simp only[aF];walk_at"";refine bc (λh=>?_) (λh=>?_)
 ·have h':(t+1==u)=false:=by simp at h ⊢;lia
  simp only[h',S4]at k;exact k
 ·have h':(t+1==u)=true:=by simp at h ⊢;lia
  simp only[h',U5]at k;refine bc (λh2=>?_) (λh2=>?_)
  ·rw[ve (by simpa using h2)]at k;refine⟨ord,a,rfl,ho,λL g1 g2 g3=>?_⟩;walk_at"";refine⟨_,if_pos ⟨rfl,eR⟩,?_⟩;rw[dF,tH g1 g2 g3];exact k
  ·rw[xZ (by simpa using h2)]at k;refine⟨ord,b,rfl,ho,λL g1 g2 g3=>?_⟩;walk_at"";refine⟨_,if_pos ⟨rfl,eR⟩,?_⟩;rw[dF,tH g1 g2 g3];exact k
theorem bw{α:Type}{g:GD}{tc:TTd}{te:TEd}{M:DH}{Q:List D->DH->Prop}(enc:α->D)(b:α->Bool)(y:α->D)(Ok:DE->Prop):∀(xs:List α) (Δ:DE) (acc:List D),
  (∀x∈xs,∀ Δ,Ok Δ->∃ Δ',g (enc x) Δ=some Δ'/\Ok Δ'/\(∀Q1:Bool->DH->Prop,Q1 (b x) M->tc Δ' M Q1)/\(b x=true->∀Q2:D->DH->Prop,Q2 (y x) M->te Δ' M Q2))->Ok Δ ->
  Q (acc++(xs.filter b).map y) M->cV g tc te (xs.map enc) Δ M acc Q
 |[],Δ,acc,_,_,q=>by simpa[cV]using q
 |x::xs,Δ,acc,h,hΔ,q=>by
  rw[K2];simp only[cV];obtain⟨Δ',e,hΔ',h1,h2⟩:=h x (.head _) Δ hΔ;refine⟨Δ',e,h1 _ ?_⟩;have ih:=λacc' q'=>bw (Q:=Q) enc b y Ok xs Δ' acc' (λz hz=>h z (.tail _ hz)) hΔ' q';cases hb:b x with
  |true =>
   simp only[if_true];refine h2 hb _ (ih _ ?_);rw[List.filter_cons_of_pos hb]at q;simpa using q
  |false =>
   simp only[J5,if_false];refine ih _ ?_;rw[List.filter_cons_of_neg (by simp[hb])]at q;exact q
theorem mw{α:Type}[DecidableEq α](f:α->D)(hf:∀x y,eqD (f x) (f y)=decide (x=y)):∀{a b:List α},cX (a.map f) (b.map f)=decide (a=b)
 |[],[]=>by simp[cX]
 |[],_::_=>by simp[cX]
 |_::_,[]=>by simp[cX]
 |x::a,y::b=>by
  rw[K2,K2,cX,mw f hf (a:=a) (b:=b),hf];simp
theorem dA{α:Type}(f:α->D)(hf:∀x,dLe (f x) 59=true){a:List α}:cm (a.map f) 59=true:=by
 rw[nL];intro d hd;obtain⟨x,_,rfl⟩:=N7.mp hd;exact hf x
theorem uX{α:Type}[DecidableEq α](f:α->D)(hf:∀x y,eqD (f x) (f y)=decide (x=y))(hl:∀x,dLe (f x) 59=true){a b:List α}:eqF (.lst (a.map f)) (.lst (b.map f))=some (.bl (decide (a=b))):=by
 have h1:dLe (.lst (a.map f)) 60=true:=dA f hl;have h2:dLe (.lst (b.map f)) 60=true:=dA f hl;simp only[eqF,h1,h2,and_self,if_true,eqD,mw f hf]
theorem mr{α:Type}[DecidableEq α](f:α->D)(hf:∀x y,eqD (f x) (f y)=decide (x=y))(hl:∀x,dLe (f x) 59=true){a b:List α}:neF (.lst (a.map f)) (.lst (b.map f))=some (.bl (!decide (a=b))):=by
 have h1:dLe (.lst (a.map f)) 60=true:=dA f hl;have h2:dLe (.lst (b.map f)) 60=true:=dA f hl;simp only[neF,h1,h2,and_self,if_true,eqD,mw f hf]
theorem xo{τ:Type}:∀{xs:List τ},xs.Nodup->iW xs=xs:=by
 intro xs hn;have key:∀(xs zs:List τ),(zs++xs).Nodup->xs.foldl kj zs=zs++xs:=by
  intro xs
  induction xs with
  |nil=>intro zs _;simp
  |cons x xs ih =>
   intro zs h;have hx:x∉zs:=λz=>by
    rw[aa8]at h;exact h.2.2 x z x (.head _) rfl
   rw[af4,show kj zs x=zs++[x]from if_neg hx,ih _ (by simpa using h)];simp
 have:=key xs [] (by simpa using hn);simpa[iW]using this
theorem uI{α:Type}(l:List α):oq (.lst (l.map λ_=>D.bl true))=some (.bl true):=by
 have h1:(l.map λ_=>D.bl true).all nJ=true:=by
  rw[O4];intro d hd;obtain⟨_,_,rfl⟩:=N7.mp hd;rfl
 have h2:(l.map λ_=>D.bl true).all kW=true:=by
  rw[O4];intro d hd;obtain⟨_,_,rfl⟩:=N7.mp hd;rfl
 simp only[oq,h1,h2,if_true]
abbrev Row:=List (Str×Int)
def aO(r:Row):D:=.tup (r.map aF)
def aU(ks:List Row):D:=.tup (ks.map aO)
def iY(e:Str×List Row):D:=.tup [.str e.1,aU e.2]
def bJ(ord:List (Str×Str))(au:Str)(es:List (Str×List Row)):D:=.tup [.tup (ord.map aQ),.str au,.tup (es.map iY)]
def rJ(r:Row):Prop:=r.length<=5/\∀x∈r,bG x.1/\-99<=x.2/\x.2<=99
def mi(ks:List Row):Prop:=1<=ks.length/\ks.length<=4/\ks.Nodup/\∀r∈ks,rJ r
def mY(es:List (Str×List Row)):Prop:=1<=es.length/\es.length<=10/\(es.map (·.1)).Nodup/\∀e∈es,bG e.1/\mi e.2
def kR(r:Row):List KD:=r.map λx=>.tup [.str x.1,.int x.2]
theorem AY(r:Row):wb (kR r)=aO r:=by
 unfold wb kR aO;rw[mm,Q7];rfl
theorem DR{a b:Row}(h:kR a=kR b):a=b:=by
 unfold kR at h;refine(List.map_inj_right ?_).mp h;rintro⟨x1,x2⟩ ⟨y1,y2⟩ e;simp only[KD.tup.injEq,O0,KD.str.injEq,KD.int.injEq,and_true]at e;rw[e.1,e.2]
theorem Fh(r:Row):dpK 8 (.tup (kR r)):=by
 intro k hk;obtain⟨x,_,rfl⟩:=N7.mp hk;intro z hz;simp only[L5,P0,or_false]at hz;rcases hz with rfl|rfl<;>simp[dpK]
theorem zC(ks:List Row):ks.map aO=(ks.map kR).map wb:=by
 rw[Q7];exact ab3 λr _=>(AY r).symm
theorem FM{ks:List Row}(h:ks.Nodup):(ks.map kR).Nodup:=by
 rw[List.nodup_iff_pairwise_ne,aj7];exact(List.nodup_iff_pairwise_ne.mp h).imp λh e=>h (DR e)
theorem wN:∀{xs:List Str},xs.Nodup->gH xs=xs:=by
 intro xs hn;have key:∀(xs zs:List Str),(zs++xs).Nodup->xs.foldl lE zs=zs++xs:=by
  intro xs
  induction xs with
  |nil=>intro zs _;simp
  |cons x xs ih =>
   intro zs h;have hx:x∉zs:=λz=>by
    rw[aa8]at h;exact h.2.2 x z x (.head _) rfl
   rw[af4,show lE zs x=zs++[x]from if_neg hx,ih _ (by simpa using h)];simp
 have:=key xs [] (by simpa using hn);simpa[gH]using this
theorem Dh:∀x y:Str×Int,eqD (aF x) (aF y)=decide (x=y):=λ⟨a,b⟩ ⟨c,d⟩=>by
 rw[Q4];simp[aF,eqD,cX]
theorem zM:∀x y:Row,eqD (aO x) (aO y)=decide (x=y):=λx y=>by
 simp only[aO,eqD];exact mw aF Dh
theorem rz(x:Row):dLe (aO x) 59=true:=by
 show cm (x.map aF) 58=true;rw[nL];intro d hd;obtain⟨y,_,rfl⟩:=N7.mp hd;rfl
def eS:SpD:=λds M R=>(∃ks:List Row,ds=[aU ks]/\ks.Nodup/\ks.length<=4/\R (.bl true) M)∨∃ws:List Str,ds=[.lst (ws.map .str)]/\ws.Nodup/\ws.length<=10/\R (.bl true) M
theorem oY{r:Row}(h:rJ r):ao (aO r)=true:=by
 show bq (r.map aF)=true;exact zE λx hx=>sY (h.2 x hx).1
theorem mR{ks:List Row}(h:∀r∈ks,rJ r):ao (aU ks)=true:=by
 show bq (ks.map aO)=true;rw[bb];intro d hd;obtain⟨r,hr,rfl⟩:=N7.mp hd;exact oY (h r hr)
theorem cy{w:Str}(h:bG w):ao (.str w)=true:=by
 have:=sY h;simp only[ao,decide_eq_true_eq];lia
theorem xT{e:Str×List Row}(h:bG e.1)(h2:mi e.2):ao (iY e)=true:=by
 show bq [.str e.1,aU e.2]=true;simp[bq,cy h,mR h2.2.2.2]
theorem lV(F:Fun K "are_unlike" "are_unlike" eP f fd)(T:Txt mg):aV P w K mg base CX0 1 f fd ["things"] (spD K 1 eS):=by
 have nd:=gA.nd;refine F.okR rfl gA (λcdv A outer s H E hr=>⟨_,(am (aB (eO (gK hr.units) (GW rfl hr.units rfl T.b_len rfl T.b_set (ae 0)) (av aY rfl T.b_len (by kernel_rfl) (aa (ae 0) ag)) nbh))),λds M R _ hS bk=>?_⟩);refine bk ?_;clear bk;rcases hS with⟨ks,rfl,hn,hl,k⟩|⟨ws,rfl,hn,hl,k⟩
 ·simp only[aU];walk_at"";refine .inl ⟨ks.map kR,zC ks,λk hk=>?_,by rw[u8];lia,?_⟩
  ·obtain⟨r,_,rfl⟩:=N7.mp hk;exact Fh r
  ·rw[xo (FM hn)];rw[u8,u8,beq_self_eq_true];exact k
 ·walk_at"";refine .inr ⟨ws,rfl,by lia,?_⟩;rw[wN hn];rw[u8,beq_self_eq_true];exact k
def lG:SpD:=λds M R=>∃r:Row,ds=[aO r]/\rJ r/\R (.bl true) M
theorem qM(F:Fun K "is_kind" "is_kind" g6 f fd)(T:Txt mg)(gd1:FnD P w K mg base "is_row" 4 1 mT):aV P w K mg base CX0 5 f fd ["thing"] (spD K 1 lG):=by
 have nd:=kn.nd;refine F.okR rfl kn (λcdv A outer s H E hr=>⟨_,(am (aB (bp (qd gd1 hr (aa (ae 0) ag)) (cf (eO j3 (av aY rfl T.b_len (by kernel_rfl) (aa (ae 0) ag)) (cP rfl T.g_MOST_SIGNS) nbh))))),λds M R _ hS bk=>?_⟩);obtain⟨r,rfl,hr,k⟩:=hS;refine bk ?_;clear bk;walk_at"";refine fO.mpr ⟨oY hr,?_⟩;rw[show wo (aO r)=true from Dq (n:=99) (by lia) hr.2];simp only[aO];walk_at"";rw[u8,show decide ((r.length:Int)<=5)=true by have:=hr.1;simp;lia];exact k
def jg:SpD:=λds M R=>∃ks:List Row,ds=[aU ks]/\mi ks/\R (.bl true) M
theorem nH(F:Fun K "are_kinds" "are_kinds" dr f fd)(T:Txt mg)(Y3:FnD P w K mg base "are_unlike" 1 1 eS)(gc3:FnD P w K mg base "is_kind" 5 1 lG):aV P w K mg base CX0 6 f fd ["thing"] (spD K 1 jg):=by
 have nd:=gR.nd;refine F.okR rfl gR (λcdv A outer s H E hr=>⟨_,(am (aB (bp (c9 (Tn:="tuple") (by decide) rfl T.b_isinstance rfl T.b_tuple (by kernel_rfl) (ae 0)) (bp (iP j3 j3 ah (av aY rfl T.b_len (by kernel_rfl) (aa (ae 0) ag)) (cP rfl T.g_MOST_KINDS)) (bp (av (jm rfl) rfl T.b_all (by kernel_rfl) (aa (eW (ms:=[false]) (ar:=["kind"]) (aH (n0:=0) rfl (show aS (aj dr) fq _ _=true from by decide +kernel)) rfl (aM (ae 0)) (aG (i:=1) (show(fq++_).Nodup from by decide +kernel) rfl rfl) (λ_ _ _ _=>bo) (λ_ _ _ _=>(qd gc3 hr (aa (ae 1) ag)))) ag)) (cf (qd Y3 hr (aa (ae 0) ag)))))))),λds M R _ hS bk=>?_⟩);obtain⟨ks,rfl,hk,k⟩:=hS;have h1:=hk.1;have h4:=hk.2.1;refine bk ?_;clear bk;simp only[aU];walk_at"";refine⟨true,rfl,?_⟩;rw[if_pos rfl,u8,if_pos (by lia),if_pos (by lia)];refine λhz=>⟨hz,bw aO (λ_=>true) (λ_=>D.bl true) (λΔ=>∃x,Δ=[none,x]) ks _ _ (λr hr Δ hΔ=>?_) ⟨none,rfl⟩ ?_⟩
 ·obtain⟨x,rfl⟩:=hΔ;refine⟨_,rfl,⟨_,rfl⟩,λQ1 q=>q,λ_ Q2 q=>?_⟩;walk_at"";exact⟨r,rfl,hk.2.2.2 r hr,q⟩
 ·rw[N5,O5.mpr (λ_ _=>rfl)];refine⟨_,uI ks,_,rfl,?_⟩;rw[if_pos rfl];exact .inl ⟨ks,rfl,hk.2.2.1,h4,k⟩
def kB:SpD:=λds M R=>∃e:Str×List Row,ds=[iY e]/\bG e.1/\mi e.2/\R (.bl true) M
theorem oB(F:Fun K "is_entry" "is_entry" fU f fd)(T:Txt mg)(G4:FnD P w K mg base "is_tuple_of" 1 2 aW)(G5:FnD P w K mg base "is_short_word" 1 1 bz)(gb6:FnD P w K mg base "are_kinds" 6 1 jg):aV P w K mg base CX0 7 f fd ["thing"] (spD K 1 kB):=by
 have nd:=jj.nd;refine F.okR rfl jj (λcdv A outer s H E hr=>⟨_,(am (aB (bp (qd G4 hr (aa (ae 0) (aa ah ag))) (bp (qd G5 hr (aa (aC aD (ae 0) ah (λ_ _=>rfl)) ag)) (cf (qd gb6 hr (aa (aC aD (ae 0) ah (λ_ _=>rfl)) ag))))))),λds M R _ hS bk=>?_⟩);obtain⟨e,rfl,hw,hk,k⟩:=hS;refine bk ?_;clear bk;walk_at"";refine br.mpr ⟨xT hw hk,true,rfl,?_⟩;rw[if_pos rfl];refine⟨.str e.1,rfl,bP.mpr ⟨cy hw,true,?_,?_⟩⟩
 ·rw[show cq (.str e.1)=true from dj hw]
 ·rw[if_pos rfl];exact⟨aU e.2,rfl,e.2,rfl,hk,k⟩
def gB:SpD:=λds M R=>∃es:List (Str×List Row),ds=[.tup (es.map iY)]/\mY es/\R (.bl true) M
theorem lg(F:Fun K "are_entries" "are_entries" cb f fd)(T:Txt mg)(Y3:FnD P w K mg base "are_unlike" 1 1 eS)(gc0:FnD P w K mg base "is_entry" 7 1 kB):aV P w K mg base CX0 8 f fd ["thing"] (spD K 1 gB):=by
 have nd:=fH.nd;refine F.okR rfl fH (λcdv A outer s H E hr=>⟨_,(am (aB (bp (c9 (Tn:="tuple") (by decide) rfl T.b_isinstance rfl T.b_tuple (by kernel_rfl) (ae 0)) (bp (iP j3 j3 ah (av aY rfl T.b_len (by kernel_rfl) (aa (ae 0) ag)) (cP rfl T.g_MOST_ENTRIES)) (bp (av (jm rfl) rfl T.b_all (by kernel_rfl) (aa (eW (ms:=[false]) (ar:=["entry"]) (aH (n0:=0) rfl (show aS (aj cb) bL _ _=true from by decide +kernel)) rfl (aM (ae 0)) (aG (i:=1) (show(bL++_).Nodup from by decide +kernel) rfl rfl) (λ_ _ _ _=>bo) (λ_ _ _ _=>(qd gc0 hr (aa (ae 1) ag)))) ag)) (cf (qd Y3 hr (aa (eW (ms:=[false]) (ar:=["word","kinds"]) (aH (n0:=0) rfl (show aS (aj cb) bL _ _=true from by decide +kernel)) rfl (aM (ae 0)) (ip (n:=2) rfl (bQ (aG (i:=1) (show(bL++_).Nodup from by decide +kernel) rfl rfl) (bQ (aG (i:=2) (show(bL++_).Nodup from by decide +kernel) rfl rfl) gZ))) (λ_ _ _ _=>bo) (λ_ _ _ _=>(ae 1))) ag)))))))),λds M R _ hS bk=>?_⟩);obtain⟨es,rfl,he,k⟩:=hS;have h1:=he.1;have h4:=he.2.1;refine bk ?_;clear bk;walk_at"";refine⟨true,rfl,?_⟩;rw[if_pos rfl,u8,if_pos (by lia),if_pos (by lia)];refine λhz=>⟨hz,bw iY (λ_=>true) (λ_=>D.bl true) (λΔ=>∃x,Δ=[none,x]) es _ _ (λe hm Δ hΔ=>?_) ⟨none,rfl⟩ ?_⟩
 ·obtain⟨x,rfl⟩:=hΔ;refine⟨_,rfl,⟨_,rfl⟩,λQ1 q=>q,λ_ Q2 q=>?_⟩;walk_at"";exact⟨e,rfl,(he.2.2.2 e hm).1,(he.2.2.2 e hm).2,q⟩
 ·rw[N5,O5.mpr (λ_ _=>rfl)];refine⟨_,uI es,_,rfl,?_⟩;rw[if_pos rfl];refine λhz2=>⟨hz2,bw iY (λ_=>true) (λe=>D.str e.1) (λΔ=>∃x y,Δ=[none,x,y]) es _ _ (λe hm Δ hΔ=>?_) ⟨none,none,rfl⟩ ?_⟩
  ·obtain⟨x,y,rfl⟩:=hΔ;refine⟨_,rfl,⟨_,_,rfl⟩,λQ1 q=>q,λ_ Q2 q=>?_⟩;walk_at"";exact q
  ·rw[N5,O5.mpr (λ_ _=>rfl)];refine .inr ⟨es.map (·.1),by rw[Q7];rfl,he.2.2.1,by rw[u8];exact h4,k⟩
noncomputable def kin(ak:List (Str×List Row))(w:Str):List Row:=(ak.lookup w).getD []
def vM(o:List (Str×Str)):Prop:=o.length<=8/\∀x∈o,bG x.1/\bG x.2
theorem tF{o:List (Str×Str)}(h:vM o):ao (.tup (o.map aQ))=true:=by
 simp only[ao];rw[bb];intro d hd;obtain⟨x,hx,rfl⟩:=N7.mp hd;have h1:=cy (h.2 x hx).1;have h2:=cy (h.2 x hx).2;simp only[ao]at h1 h2;simp only[aQ,ao,bq,h1,h2,ag5]
theorem AU{o:List (Str×Str)}(h:vM o):tG (.tup (o.map aQ))=true:=by
 simp only[tG,u8,decide_eq_true h.1,U5];rw[V9,O4];intro x hx;simp only[Function.comp,aQ,lA,cq,dj (h.2 x hx).1,dj (h.2 x hx).2,ag7]
theorem xv{es:List (Str×List Row)}(h:mY es):ao (.tup (es.map iY))=true:=by
 simp only[ao];rw[bb];intro d hd;obtain⟨x,hx,rfl⟩:=N7.mp hd;obtain⟨h1,h2⟩:=h.2.2.2 x hx;have a:=cy h1;have b:=mR h2.2.2.2;simp only[iY,ao,bq,ag5,N1];exact⟨by simpa only[ao]using a,b⟩
def ja(ord:List (Str×Str))(au:Str)(ak:List (Str×List Row)):Prop:=vM ord/\bG au/\mY ak/\ak.length<=8
theorem rn{ord:List (Str×Str)}{au:Str}{ak:List (Str×List Row)}(h:ja ord au ak):ao (bJ ord au ak)=true:=by
 have a:=tF h.1;have b:=cy h.2.1;have c:=xv h.2.2.1;simp only[ao]at a b c;simp only[bJ,ao,bq,a,b,c,ag7]
def iI:SpD:=λds M R=>∃(ord:List (Str×Str)) (au:Str) (ak:List (Str×List Row)),ds=[bJ ord au ak]/\ja ord au ak/\R (.bl true) M
theorem lU(F:Fun K "is_lexicon" "is_lexicon" eB f fd)(T:Txt mg)(G4:FnD P w K mg base "is_tuple_of" 1 2 aW)(gb9:FnD P w K mg base "is_order" 4 1 gq)(G8:FnD P w K mg base "is_mark" 2 1 dB)(ga9:FnD P w K mg base "are_entries" 8 1 gB):aV P w K mg base CX0 9 f fd ["thing"] (spD K 1 iI):=by
 have nd:=gD.nd;refine F.okR rfl gD (λcdv A outer s H E hr=>⟨_,(am (aB (bp (qd G4 hr (aa (ae 0) (aa ah ag))) (bp (qd gb9 hr (aa (aC aD (ae 0) ah (λ_ _=>rfl)) ag)) (bp (qd G8 hr (aa (aC aD (ae 0) ah (λ_ _=>rfl)) ag)) (cf (qd ga9 hr (aa (aC aD (ae 0) ah (λ_ _=>rfl)) ag)))))))),λds M R _ hS bk=>?_⟩);obtain⟨ord,au,ak,rfl,h,k⟩:=hS;refine bk ?_;clear bk;walk_at"";refine br.mpr ⟨rn h,?_⟩;rw[show dw (bJ ord au ak) 3=true from rfl];simp only[bJ];walk_at"";refine nV.mpr ⟨tF h.1,?_⟩;rw[AU h.1];walk_at"";refine dn.mpr ⟨cy h.2.1,?_⟩;rw[show cq (.str au)=true from dj h.2.1];walk_at"";exact⟨ak,rfl,h.2.2.1,k⟩
def fQ:SpD:=λds M R=>∃(ord:List (Str×Str)) (au:Str) (ak:List (Str×List Row)),ds=[bJ ord au ak]/\ak.length<=8/\R (.lst (ak.map λe=>D.str e.1)) M
theorem ou(F:Fun K "words_of" "words_of" dU f fd)(T:Txt mg):aV P w K mg base CX0 1 f fd ["lexicon"] (spD K 1 fQ):=by
 have nd:=ji.nd;refine F.okR rfl ji (λcdv A outer s H E hr=>⟨_,(am (aB (eW (ms:=[false]) (ar:=["word","kinds"]) (aH (n0:=0) rfl (show aS (aj dU) dY _ _=true from by decide +kernel)) rfl (aM (aC aD (ae 0) ah (λ_ _=>rfl))) (ip (n:=2) rfl (bQ (aG (i:=1) (show(dY++_).Nodup from by decide +kernel) rfl rfl) (bQ (aG (i:=2) (show(dY++_).Nodup from by decide +kernel) rfl rfl) gZ))) (λ_ _ _ _=>bo) (λ_ _ _ _=>(ae 1))))),λds M R _ hS bk=>?_⟩);obtain⟨ord,au,ak,rfl,hl,k⟩:=hS;refine bk ?_;clear bk;simp only[bJ];walk_at"";refine λhz=>⟨hz,?_⟩;refine bw iY (λ_=>true) (λe=>D.str e.1) (λΔ=>∃x y,Δ=[none,x,y]) ak _ _ (λe he Δ hΔ=>?_) ⟨none,none,rfl⟩ ?_
 ·obtain⟨x,y,rfl⟩:=hΔ;refine⟨_,rfl,⟨_,_,rfl⟩,λQ1 q=>q,λ_ Q2 q=>?_⟩;walk_at"";exact q
 ·rw[N5,O5.mpr (λ_ _=>rfl)];exact k
theorem BI{w:Str}{ak:List (Str×List Row)}:((ak.map λe=>D.str e.1).any λd=>eqD d (.str w))=decide (w∈ak.map (·.1)):=by
 rw[Q4,ao9,V2,decide_eq_true_eq,N7];constructor
 ·rintro⟨e,he,h⟩;exact⟨e,he,by simpa[eqD]using h⟩
 ·rintro⟨e,he,h⟩;exact⟨e,he,by simp[eqD,h]⟩
theorem xu{ak:List (Str×List Row)}:(ak.map λe=>D.str e.1).all bD=true:=by rw[V9,O4];intro _ _;rfl
def fR:SpD:=λds M R=>∃(ord:List (Str×Str)) (au:Str) (ak:List (Str×List Row)) (w:Str),ds=[bJ ord au ak,.str w]/\ak.length<=8/\bG w/\R (.bl (decide (w∈ak.map (·.1)))) M
theorem oO(F:Fun K "has_word" "has_word" fP f fd)(T:Txt mg)(G5:FnD P w K mg base "is_short_word" 1 1 bz)(ga2:FnD P w K mg base "words_of" 1 1 fQ):aV P w K mg base CX0 2 f fd ["lexicon","thing"] (spD K 2 fR):=by
 have nd:=jn.nd;refine F.okR rfl jn (λcdv A outer s H E hr=>⟨_,(am (aB (bp (qd G5 hr (aa (ae 1) ag)) (cf (eO mx (ae 1) (qd ga2 hr (aa (ae 0) ag)) rfl))))),λds M R _ hS bk=>?_⟩);obtain⟨ord,au,ak,w,rfl,hl,ok,k⟩:=hS;refine bk ?_;clear bk;walk_at"";refine bP.mpr ⟨cy ok,?_⟩;rw[show cq (.str w)=true from dj ok];walk_at"";refine⟨ord,au,ak,rfl,hl,?_⟩;walk_at"";refine⟨_,if_pos ⟨rfl,xu⟩,?_⟩;rw[BI,ah3];exact k
theorem xQ{w:Str}:∀{ak:List (Str×List Row)},ak.length<2 ^ 62->w∈ak.map (·.1)->∃j e,uW (ak.map λe=>D.str e.1) (.str w)=some j/\ak[j]?=some e/\e.2=kin ak w:=by
 intro ak hl hw;have hd:cm (ak.map λe=>D.str e.1) 59=true:=dA _ λ_=>rfl;have h1:dLe (.str w) 59=true:=rfl;unfold uW;rw[if_pos ⟨h1,hd,by rw[u8];exact hl⟩];clear hd h1 hl
 induction ak with
 |nil=>cases hw
 |cons e l ih =>
  obtain⟨a,ks⟩:=e;rw[K2,List.findIdx?_cons]
  by_cases h:a=w
  ·subst h;exact⟨0,_,by simp[eqD],rfl,by simp[kin]⟩
  ·have hne:eqD (.str a) (.str w)=false:=by simp[eqD,h]
   have hw':w∈l.map (·.1):=by
    rw[K2]at hw;rcases L5.mp hw with q|q
    ·exact absurd q.symm h
    ·exact q
   obtain⟨j,e,q1,q2,q3⟩:=ih hw';refine⟨j+1,e,?_,by rw[S0];exact q2,?_⟩
   ·simp only[hne,J5,if_false];rw[q1];rfl
   ·rw[q3];unfold kin;rw[P6];have:(w==a)=false:=by simpa using λq:w=a=>h q.symm
    rw[this]
def fZ:SpD:=λds M R=>∃(ord:List (Str×Str)) (au:Str) (ak:List (Str×List Row)) (w:Str),ds=[bJ ord au ak,.str w]/\ak.length<=8/\w∈ak.map (·.1)/\bG w/\R (aU (kin ak w)) M
theorem oH(F:Fun K "kinds_of" "kinds_of" gk f fd)(T:Txt mg)(ga1:FnD P w K mg base "has_word" 2 2 fR)(ga2:FnD P w K mg base "words_of" 1 1 fQ):aV P w K mg base CX0 3 f fd ["lexicon","word"] (spD K 2 fZ):=by
 have nd:=jh.nd;refine F.okR rfl jh (λcdv A outer s H E hr=>⟨_,(ai (bh (bW (bF (qd ga1 hr (aa (ae 0) (aa (ae 1) ag))))) (am Ax) aK)
   (am (aB (aC aD (aC aD (aC aD (ae 0) ah (λ_ _=>rfl)) (DN hr.units (qd ga2 hr (aa (ae 0) ag)) (ae 1)) (λ_ _=>rfl)) ah (λ_ _=>rfl))))),λds M R _ hS bk=>?_⟩)
 obtain⟨ord,au,ak,w,rfl,hl,hw,ok,k⟩:=hS;refine bk ?_;clear bk;walk_at"";refine⟨ord,au,ak,w,rfl,hl,ok,_,rfl,?_⟩;simp only[bJ];rw[decide_eq_true hw,if_neg (by simp)];walk_at"";refine⟨ord,au,ak,rfl,hl,⟨_,rfl⟩,_,rfl,?_⟩;obtain⟨j,e,q1,q2,q3⟩:=xQ (Nat.lt_of_le_of_lt hl (by decide)) hw;refine⟨j,q1,?_⟩;refine⟨_,bA (by rw[L8,q2];rfl),?_⟩;simp only[iY];walk_at"";rw[q3];exact k
def plB:D->Int->Bool
 |.int i,n=>decide (0<=i)&&decide (i<n)
 |_,_=>false
theorem j8{d:D}{n:Int}:plB d n=true↔∃i:Nat,d=.int i/\(i:Int)<n:=by
 constructor
 ·intro h;cases d with
  |int i =>
   simp only[plB,N1,decide_eq_true_eq]at h;exact⟨i.toNat,by rw[Int.toNat_of_nonneg h.1],by lia⟩
  |_=>simp[plB]at h
 ·rintro⟨i,rfl,h⟩;simp only[plB,N1,decide_eq_true_eq]
  lia
def cG:SpD:=λds M R=>∃(d:D) (m:Int),ds=[d,.int m]/\ao d=true/\R (.bl (plB d m)) M
theorem gT(F:Fun K "is_number_below" "is_number_below" cF f fd)(T:Txt mg)(G7:FnD P w K mg base "is_whole" 1 1 dS):aV P w K mg base CX0 2 f fd ["thing","many"] (spD K 2 cG):=by
 have nd:=dv.nd;refine F.okR rfl dv (λcdv A outer s H E hr=>⟨_,(am (aB (bp (qd G7 hr (aa (ae 0) ag)) (cf (iP j3 kE ah (ae 0) (ae 1)))))),λds M R _ hS bk=>?_⟩);obtain⟨d,m,rfl,hd,k⟩:=hS;refine bk ?_;clear bk;walk_at"";refine fO.mpr ⟨hd,?_⟩;walk_at"";simp only[bZ hd];cases d with
 |int t =>
  simp only[gp,if_true];walk_at"";simp only[plB]at k;refine bc (λh=>?_) (λh=>?_)
  ·rw[decide_eq_true h,U5]at k;exact k
  ·rw[decide_eq_false h,S4]at k;exact k
 |scr _=>simp[ao]at hd
 |ref _=>simp[ao]at hd
 |box _ _=>simp[ao]at hd
 |_=>simp only[gp,J5,if_false];exact k
def kit(ak:List (Str×List Row))(ws:List Str):List (List Row):=ws.map (kin ak)
def wsh(au:Str):List Row:=[[(au,1)]]
def dO(ks:List (List Row)):D:=.lst (ks.map aU)
def l5(ak:List (Str×List Row))(ws:List Str):Prop:=ws.length<=8/\∀w∈ws,w∈ak.map (·.1)
theorem l5.word{ak:List (Str×List Row)}{ws:List Str}(h:l5 ak ws)(he:mY ak){w:Str}(hw:w∈ws):bG w:=by
 obtain⟨e,h1,rfl⟩:=N7.mp (h.2 w hw);exact(he.2.2.2 e h1).1
def cU:SpD:=λds M R=>∃(ord:List (Str×Str)) (au:Str) (ak:List (Str×List Row)) (ws:List Str),ds=[bJ ord au ak,.tup (ws.map D.str)]/\ja ord au ak/\l5 ak ws/\R (dO (kit ak ws++[wsh au])) M
theorem jB(F:Fun K "kinds_in_turn" "kinds_in_turn" cj f fd)(T:Txt mg)(ga0:FnD P w K mg base "kinds_of" 3 2 fZ):aV P w K mg base CX0 4 f fd ["lexicon","words"] (spD K 2 cU):=by
 have nd:=eD.nd;refine F.okR rfl eD (λcdv A outer s H E hr=>⟨_,(am (aB (az aI (eW (ms:=[true,false]) (ar:=["word"]) (aH rfl (show aS (aj cj) cZ _ _=true from by decide +kernel)) rfl (aM (ae 1)) (aG (i:=2) (show(cZ++_).Nodup from by decide +kernel) rfl rfl) (λ_ _ _ _=>bo) (λ_ _ _ _=>(qd ga0 hr (aa (ae 0) (aa (ae 2) ag))))) (df (aa (aJ (aa (aJ (aa (aJ (aa (aC aD (ae 0) ah (λ_ _=>rfl)) (aa ah ag))) ag)) ag)) ag))))),λds M R _ hS bk=>?_⟩);obtain⟨ord,au,ak,ws,rfl,h,hw,k⟩:=hS;have hl:=hw.1;refine bk ?_;clear bk;walk_at"";refine λhz=>⟨hz,?_⟩;refine bw D.str (λ_=>true) (λw=>aU (kin ak w)) (λΔ=>∃y,Δ=[some (bJ ord au ak),none,y]) ws _ _ (λw hm Δ hΔ=>?_) ⟨none,rfl⟩ ?_
 ·obtain⟨y,rfl⟩:=hΔ;refine⟨_,rfl,⟨_,rfl⟩,λQ1 q=>q,λ_ Q2 q=>?_⟩;walk_at"";exact⟨ord,au,ak,w,rfl,h.2.2.2,hw.2 w hm,hw.word h.2.2.1 hm,q⟩
 ·rw[N5,O5.mpr (λ_ _=>rfl)];simp only[bJ];walk_at"";unfold dO kit at k;rw[O1,Q7]at k;exact⟨sz3 2,sz3 1,sz3 1,sz3 1,_,if_pos (by rw[u8];exact sz3 _ (by lia)),k⟩
theorem cC{α:Type}{g:GD}{B:BKd}{M:DH}(enc:α->D)(out:α->List D)(Ok:DE->Prop):∀(xs:List α) (Δ:DE) (acc:List D) (Q:List D->DE->DH->Prop),
  (∀x∈xs,∀ Δ,Ok Δ->∃ Δ',g (enc x) Δ=some Δ'/\∀(acc:List D) (Q2:List D->DE->DH->Prop),acc.length+(out x).length<=J7->(∀ Δ'',Ok Δ''->Q2 (acc++out x) Δ'' M)->B Δ' M acc Q2)->Ok Δ ->
  acc.length+(xs.flatMap out).length<=J7->(∀ Δ',Ok Δ'->Q (acc++xs.flatMap out) Δ' M)->iJ g sE B (xs.map enc) Δ M acc Q
 |[],Δ,acc,Q,_,ok,_,q=>by
  simp only[ai3,iJ];have:=q Δ ok
  rwa [List.flatMap_nil,ad1]at this
 |x::xs,Δ,acc,Q,h,ok,hz,q=>by
  rw[Z1,J9]at hz;rw[K2];simp only[iJ,sE,if_true];obtain⟨Δ',e,h1⟩:=h x (.head _) Δ ok;refine⟨Δ',e,h1 acc _ (by lia) λΔ'' ok'=>⟨by rw[J9];lia,?_⟩⟩;refine cC enc out Ok xs Δ'' _ Q (λz hz=>h z (.tail _ hz)) ok' (by rw[J9];lia) λΔ3 ok3=>?_;have:=q Δ3 ok3
  rwa [Z1,<-aj4]at this
theorem eG{α β:Type}{f:α->β}:∀l:List α,(l.flatMap λa=>[f a])=l.map f
 |[]=>rfl
 |a::l=>by rw[Z1,eG l];rfl
theorem n9{α:Type}{f:α->D}:∀{ds:List D}{ks:List α},i4 ds (ks.map f)=(ds.zip ks).map λp=>D.tup [p.1,f p.2]
 |[],ks=>by simp[i4]
 |d::ds,[]=>by simp[i4]
 |d::ds,k::ks=>by simp[i4,n9 (ds:=ds) (ks:=ks)]
def dR:SpD:=λds M R=>∃(ord:List (Str×Str)) (au:Str) (ak:List (Str×List Row)) (ws:List Str),ds=[bJ ord au ak,.tup (ws.map D.str)]/\ja ord au ak/\l5 ak ws/\((kit ak ws).flatMap λk=>k.map T6).sum<=60/\((kit ak ws).flatMap λk=>k.map T6).length<=100/\R (.bl true) M
theorem hJ(F:Fun K "are_words_taken" "are_words_taken" bE f fd)(T:Txt mg)(gb3:FnD P w K mg base "is_lexicon" 9 1 iI)(ga1:FnD P w K mg base "has_word" 2 2 fR)(ga0:FnD P w K mg base "kinds_of" 3 2 fZ):aV P w K mg base CX0 10 f fd ["lexicon","words"] (spD K 2 dR):=by
 have nd:=dE.nd;refine F.okR rfl dE (λcdv A outer s H E hr=>⟨_,(ai (bh (iX (fL (bW (bF (qd gb3 hr (aa (ae 0) ag)))) (fL (bW (bF (c9 (Tn:="tuple") (by decide) rfl T.b_isinstance rfl T.b_tuple (by kernel_rfl) (ae 1)))) (fh (aR DJ (av aY rfl T.b_len (by kernel_rfl) (aa (ae 1) ag)) (cP rfl T.g_MOST_WORDS) nbh))))) (am (aB eQ)) aK)
   (ai (bh (bW (bF (av (jm rfl) rfl T.b_all (by kernel_rfl) (aa (eW (ms:=[true,false]) (ar:=["word"]) (aH rfl (show aS (aj bE) bv _ _=true from by decide +kernel)) rfl (aM (ae 1)) (aG (i:=2) (show(bv++_).Nodup from by decide +kernel) rfl rfl) (λ_ _ _ _=>bo) (λ_ _ _ _=>(qd ga1 hr (aa (ae 0) (aa (ae 2) ag))))) ag)))) (am (aB eQ)) aK)
   (am (aB (eO j3 (av (EE rfl) rfl T.b_sum (by kernel_rfl) (aa (zm (ms:=[true,false]) (ar:=["word","kind"]) (aH rfl (show aS (aj bE) bv _ _=true from by decide +kernel)) rfl (aM (ae 1)) (aG (i:=2) (show(bv++_).Nodup from by decide +kernel) rfl rfl) (λ_ _ _ _=>bo) (λ_ _ _ _=>(aM (qd ga0 hr (aa (ae 0) (aa (ae 2) ag))))) (aG (i:=3) (show(bv++_).Nodup from by decide +kernel) rfl rfl) (λ_ _ _ _=>bo) (λ_ _ _ _=>(av aY rfl T.b_len (by kernel_rfl) (aa (ae 3) ag)))) ag)) (cP rfl T.g_MOST_SIGNS_OF_WORDS) nbh))))),λds M R _ hS bk=>?_⟩)
 obtain⟨ord,au,ak,ws,rfl,h,hw,hs,hsl,k⟩:=hS;have hl:=hw.1;refine bk ?_;clear bk;walk_at"";refine⟨ord,au,ak,rfl,h,_,rfl,?_⟩;rw[if_neg (by decide)];refine⟨true,rfl,?_⟩;rw[if_neg (by decide),if_neg (by rw[u8];lia)];refine λhz=>⟨hz,?_⟩;refine bw D.str (λ_=>true) (λ_=>.bl true) (λΔ=>∃y,Δ=[some (bJ ord au ak),none,y]) ws _ _ (λw hm Δ hΔ=>?_) ⟨none,rfl⟩ ?_
 ·obtain⟨y,rfl⟩:=hΔ;refine⟨_,rfl,⟨_,rfl⟩,λQ1 q=>q,λ_ Q2 q=>?_⟩;walk_at"";refine⟨ord,au,ak,w,rfl,h.2.2.2,hw.word h.2.2.1 hm,?_⟩;rw[decide_eq_true (hw.2 w hm)];exact q
 rw[N5,O5.mpr (λ_ _=>rfl)];refine⟨_,uI ws,_,rfl,?_⟩;rw[if_neg (by decide)];refine λ_=>?_;have ef:(ws.flatMap λw=>(kin ak w).map λr=>D.int (r.length:Int))=(((kit ak ws).flatMap λk=>k.map T6).map λ(n:Nat)=>(n:Int)).map D.int:=by
  unfold kit;simp only[List.flatMap_map,List.map_flatMap,Q7];rfl
 have es:∀l:List Nat,(l.map λ(n:Nat)=>(n:Int)).sum=(l.sum:Nat):=λl=>by
  induction l with
  |nil=>rfl
  |cons a l ih=>rw[K2,List.sum_cons,List.sum_cons,ih];simp
 refine cC D.str (λw=>(kin ak w).map λr=>D.int (r.length:Int)) (λΔ=>∃a b,Δ=[some (bJ ord au ak),none,a,b]) ws _ _ _ ?_ ⟨_,_,rfl⟩ (by rw[ef,u8,u8];exact sz3 _ (by simp only[Z7];lia)) ?_
 ·rintro w hm Δ ⟨a,b,rfl⟩;refine⟨_,rfl,λacc Q2 hz q2=>?_⟩;simp only[k9,pT,nZ,pV,gJ,xE];refine⟨_,rfl,_,rfl,rfl,ord,au,ak,w,rfl,h.2.2.2,hw.2 w hm,hw.word h.2.2.1 hm,_,rfl,λ_=>?_⟩;refine cC aO (λr=>[D.int (r.length:Int)]) (λΔ=>∃b,Δ=[some (bJ ord au ak),none,some (.str w),b]) (kin ak w) _ _ _ ?_ ⟨_,rfl⟩ (by rw[eG];exact hz) (by rintro Δ' ⟨b,rfl⟩;rw[eG];exact q2 _ ⟨_,_,rfl⟩);rintro r hr Δ ⟨b,rfl⟩;refine⟨_,rfl,λacc2 Q3 hz3 q3=>?_⟩;simp only[k8,dCB,pV,gJ,xE];refine⟨_,rfl,.int (r.length:Int),by simp[aO,ma,rdM,rF],q3 _ ⟨_,rfl⟩⟩
 rintro Δ' -
 rw[ef,N5];refine⟨_,C1,_,rfl,?_⟩;rw[es,decide_eq_true (by lia)];exact k
def wH(ks:List (List Row)):D->Bool
 |.tup ds=>decide (ds.length=ks.length)&&(ds.zip ks).all λp=>plB p.1 (p.2.length:Int)
 |_=>false
def fw:SpD:=λds M R=>∃(ks:List (List Row)) (d:D),ds=[dO ks,d]/\ao d=true/\ks.length<=10/\R (.bl (wH ks d)) M
theorem kC(F:Fun K "is_choice_of" "is_choice_of" cz f fd)(T:Txt mg)(G4:FnD P w K mg base "is_tuple_of" 1 2 aW)(ga4:FnD P w K mg base "is_number_below" 2 2 cG):aV P w K mg base CX0 3 f fd ["kinds","thing"] (spD K 2 fw):=by
 have nd:=fe.nd;refine F.okR rfl fe (λcdv A outer s H E hr=>⟨_,(am (aB (bp (qd G4 hr (aa (ae 1) (aa (av aY rfl T.b_len (by kernel_rfl) (aa (ae 0) ag)) ag))) (cf (av (jm rfl) rfl T.b_all (by kernel_rfl) (aa (eW (ms:=[false,false]) (ar:=["number","rows"]) (aH (n0:=0) rfl (show aS (aj cz) cv _ _=true from by decide +kernel)) rfl (yi rfl T.b_zip (aa (ae 1) (aa (ae 0) ag))) (ip (n:=2) rfl (bQ (aG (i:=2) (show(cv++_).Nodup from by decide +kernel) rfl rfl) (bQ (aG (i:=3) (show(cv++_).Nodup from by decide +kernel) rfl rfl) gZ))) (λ_ _ _ _=>bo) (λ_ _ _ _=>(qd ga4 hr (aa (ae 2) (aa (av aY rfl T.b_len (by kernel_rfl) (aa (ae 3) ag)) ag))))) ag)))))),λds M R _ hS bk=>?_⟩);obtain⟨ks,d,rfl,hd,hk,k⟩:=hS;refine bk ?_;clear bk;simp only[dO];walk_at"";refine br.mpr ⟨hd,?_⟩;walk_at"";cases d with
 |tup ds =>
  simp only[wH]at k;rw[u8]
  by_cases cJ:ds.length=ks.length
  ·rw[if_pos (by simp[dw,cJ])];refine⟨_,_,⟨rfl,rfl⟩,_,_,_,rfl,_,rfl,?_⟩;rw[n9];have hgd:∀d∈ds,ao d=true:=bb.mp (by simpa[ao]using hd);refine⟨by rw[u8,List.length_zip];exact sz3 _ (by lia),?_⟩;refine bw (λp:D×List Row=>D.tup [p.1,aU p.2]) (λ_=>true) (λp=>.bl (plB p.1 (p.2.length:Int))) (λΔ=>∃y z,Δ=[none,none,y,z]) (ds.zip ks) _ _ (λp hm Δ hΔ=>?_) ⟨none,none,rfl⟩ ?_
   ·obtain⟨y,z,rfl⟩:=hΔ;refine⟨_,rfl,⟨_,_,rfl⟩,λQ1 q=>q,λ_ Q2 q=>?_⟩;simp only[aU];walk_at"";rw[u8];exact⟨_,_,rfl,hgd _ (al3 hm).1,q⟩
   ·rw[N5,O5.mpr (λ_ _=>rfl)];have e:(ds.zip ks).map (λp=>D.bl (plB p.1 (p.2.length:Int)))=((ds.zip ks).map λp=>plB p.1 (p.2.length:Int)).map D.bl:=by rw[Q7];rfl
    rw[e];refine⟨_,gO,?_⟩;rw[decide_eq_true cJ,U5]at k;rw[V9];exact k
  ·rw[if_neg (by simp only[dw];simp;lia)];rw[decide_eq_false cJ,S4]at k;exact k
 |scr _=>simp[ao]at hd
 |ref _=>simp[ao]at hd
 |box _ _=>simp[ao]at hd
 |_=>rw[if_neg (by simp[dw])];exact k
def cH(ks:List (List Row))(cs:List Nat):Row:=(cs.zip ks).flatMap λp=>p.2.getD p.1 []
def bt(k:Nat):D:=.int (k:Int)
def Cho(ks:List (List Row))(cs:List Nat):Prop:=cs.length=ks.length/\∀p∈cs.zip ks,p.1<p.2.length
def eZ:SpD:=λds M R=>∃(ord:List (Str×Str)) (au:Str) (ak:List (Str×List Row)) (ws:List Str) (cs:List Nat),ds=[bJ ord au ak,.tup (ws.map D.str),.tup (cs.map bt)]/\ja ord au ak/\l5 ak ws/\Cho (kit ak ws) cs/\(cH (kit ak ws) cs).length<=100/\R (aO (cH (kit ak ws) cs++[(au,1)])) M
theorem jD(F:Fun K "row_of_choice" "row_of_choice" cc f fd)(T:Txt mg)(Y0:FnD P w K mg base "kinds_in_turn" 4 2 cU):aV P w K mg base CX0 5 f fd ["lexicon","words","choice"] (spD K 3 eZ):=by
 have nd:=eE.nd;refine F.okR rfl eE (λcdv A outer s H E hr=>⟨_,(ai (ax (i:=3) nd rfl (L9 rfl) (az aI (ae 2) (aJ (aa ah ag))))
   (ai (ax (i:=4) nd rfl (L9 rfl) (qd Y0 hr (aa (ae 0) (aa (ae 1) ag))))
   (am (aB (bC dq rfl T.b_tuple (by kernel_rfl) (aa (zm (ms:=[false,false,false,false,false]) (ar:=["number","rows","sign"]) (aH (n0:=0) rfl (show aS (aj cc) bM _ _=true from by decide +kernel)) rfl (yi rfl T.b_zip (aa (ae 3) (aa (ae 4) ag))) (ip (n:=2) rfl (bQ (aG (i:=5) (show(bM++_).Nodup from by decide +kernel) rfl rfl) (bQ (aG (i:=6) (show(bM++_).Nodup from by decide +kernel) rfl rfl) gZ))) (λ_ _ _ _=>bo) (λ_ _ _ _=>(aM (aC aD (ae 6) (ae 5) (λ_ _=>rfl)))) (aG (i:=7) (show(bM++_).Nodup from by decide +kernel) rfl rfl) (λ_ _ _ _=>bo) (λ_ _ _ _=>(ae 7))) ag)))))),λds M R _ hS bk=>?_⟩)
 obtain⟨ord,au,ak,ws,cs,rfl,h,hw,hc,hrl,k⟩:=hS;refine bk ?_;clear bk;have hlk:(kit ak ws).length<=8:=by unfold kit;rw[u8];exact hw.1
 have hcl:=hc.1;walk_at"";refine⟨sz3 1,_,if_pos (by rw[u8];exact sz3 _ (by lia)),ord,au,ak,ws,rfl,h,hw,_,_,⟨rfl,rfl⟩,_,_,_,rfl,_,rfl,?_⟩;rw[n9];have ez:(cs.map bt++[D.int 0]).zip (kit ak ws++[wsh au])=((cs++[0]).zip (kit ak ws++[wsh au])).map λ(p:Nat×List Row)=>(bt p.1,p.2):=by
  rw[show cs.map bt++[D.int 0]=(cs++[0]).map bt by simp[bt],List.zip_map_left];rfl
 rw[ez,Q7];have ef:(((cs++[0]).zip (kit ak ws++[wsh au])).flatMap λ(p:Nat×List Row)=>(p.2.getD p.1 []).map aF)=(cH (kit ak ws) cs++[(au,1)]).map aF:=by
  rw[am5 hcl,List.flatMap_append,O1];congr 1;unfold cH;rw[List.map_flatMap]
 refine cC _ (λp:Nat×List Row=>(p.2.getD p.1 []).map aF) (λΔ=>∃a b c,Δ=[none,none,none,none,none,a,b,c]) _ _ _ _ ?_ ⟨_,_,_,rfl⟩ (by rw[ef,u8,J9];exact sz3 _ (by simp;lia)) (by rintro Δ' -;rw[ef,N5];exact k);rintro p hp Δ ⟨a,b,c,rfl⟩;have hpl:p.1<p.2.length:=by
  rw[am5 hcl]at hp;rcases K1.mp hp with q|q
  ·exact hc.2 p q
  ·obtain rfl:p=(0,wsh au):=by simpa using q
   simp[wsh]
 have eg:p.2[p.1]?=some (p.2.getD p.1 []):=by rw[J1 hpl,N6,J1 hpl];rfl
 refine⟨_,rfl,λacc Q2 hz q2=>?_⟩;simp only[k9,pT,gJ,dOp];refine⟨_,rfl,_,rfl,aO (p.2.getD p.1 []),bA (xs:=p.2.map aO) (by rw[L8,eg];rfl),_,rfl,λ_=>?_⟩;refine cC aF (λs=>[aF s]) (λΔ=>∃c,Δ=[none,none,none,none,none,some (bt p.1),some (aU p.2),c]) (p.2.getD p.1 []) _ _ _ ?_ ⟨_,rfl⟩ (by rw[eG];exact hz) (by rintro Δ' ⟨c,rfl⟩;rw[eG];exact q2 _ ⟨_,_,_,rfl⟩);rintro s hs Δ ⟨c,rfl⟩;refine⟨_,rfl,λacc2 Q3 hz3 q3=>?_⟩;simp only[k8,gJ];exact⟨_,rfl,q3 _ ⟨_,rfl⟩⟩
def stD(s:Nat×Nat):D:=.tup [.int (s.1:Int),.int (s.2:Int)]
def gL(n:Int):D->Bool
 |.tup [.int a,.int b]=>decide (0<=a)&&(decide (a<b)&&decide (b<n))
 |_=>false
def nc:SpD:=λds M R=>∃d n,ds=[d,.int n]/\ao d=true/\R (.bl (gL n d)) M
theorem rC(F:Fun K "is_arc" "is_arc" jt f fd)(T:Txt mg)(G4:FnD P w K mg base "is_tuple_of" 1 2 aW)(G7:FnD P w K mg base "is_whole" 1 1 dS):aV P w K mg base CX0 2 f fd ["thing","many"] (spD K 2 nc):=by
 have nd:=lK.nd;refine F.okR rfl lK (λcdv A outer s H E hr=>⟨_,(am (aB (bp (qd G4 hr (aa (ae 0) (aa ah ag))) (bp (qd G7 hr (aa (aC aD (ae 0) ah (λ_ _=>rfl)) ag)) (bp (qd G7 hr (aa (aC aD (ae 0) ah (λ_ _=>rfl)) ag)) (cf (m8 j3 kE kE ah (aC aD (ae 0) ah (λ_ _=>rfl)) (aC aD (ae 0) ah (λ_ _=>rfl)) (ae 1)))))))),λds M R _ hS bk=>?_⟩);obtain⟨d,n,rfl,hd,k⟩:=hS;refine bk ?_;clear bk;walk_at"";refine⟨d,2,rfl,hd,_,rfl,?_⟩;obtain⟨x,y,rfl⟩|h:(∃x y,d=.tup [x,y])∨dw d 2=false:=by
  cases d with
  |tup ds =>
   match ds with
   |[x,y]=>exact .inl ⟨x,y,rfl⟩
   |[]=>exact .inr rfl
   |[_]=>exact .inr rfl
   |_::_::_::r=>exact .inr (by simp[dw];lia)
  |_=>exact .inr rfl
 ·have hg:ao x=true/\ao y=true:=by simpa[ao,bq]using hd
  rw[if_pos (show dw (D.tup [x,y]) 2=true from rfl)];refine⟨x,rfl,x,rfl,hg.1,_,rfl,bc (λwx=>?_) (λwx=>?_)⟩
  ·obtain⟨a,rfl⟩:∃a,x=.int a:=by cases x<;>first|exact⟨_,rfl⟩|(simp[gp]at wx)
   refine⟨y,rfl,y,rfl,hg.2,_,rfl,bc (λwy=>?_) (λwy=>?_)⟩
   ·obtain⟨b,rfl⟩:∃b,y=.int b:=by cases y<;>first|exact⟨_,rfl⟩|(simp[gp]at wy)
    refine⟨_,rfl,_,rfl,bc (λh0=>⟨_,rfl,_,rfl,bc (λh1=>⟨_,rfl,?_⟩) (λh1=>?_)⟩) (λh0=>?_)⟩
    ·simp only[gL,h0,h1,U5]at k;exact k
    ·simp only[gL,h0,eq_false_of_ne_true h1,S4,an0]at k;exact k
    ·simp only[gL,eq_false_of_ne_true h0,S4]at k;exact k
   ·have:gL n (.tup [.int a,y])=false:=by cases y<;>first|rfl|(simp[gp]at wy)
    rw[this]at k;exact k
  ·have:gL n (.tup [x,y])=false:=by cases x<;>first|rfl|(simp[gp]at wx)
   rw[this]at k;exact k
 ·have:gL n d=false:=by
   unfold gL
   split
   ·cases h
   ·rfl
  rw[this]at k;rw[if_neg (by simp[h])];exact k
def bK(a b:Nat×Nat):Bool:=decide (a.1<b.1/\b.1<a.2/\a.2<b.2)
def iE:SpD:=λds M R=>∃arcs:List (Nat×Nat),ds=[.tup (arcs.map stD)]/\arcs.length<=30/\R (.bl (arcs.any λa=>arcs.any λb=>bK a b)) M
theorem lZ(F:Fun K "some_cross" "some_cross" cT f fd)(T:Txt mg):aV P w K mg base CX0 1 f fd ["arcs"] (spD K 1 iE):=by
 have nd:=gF.nd;refine F.okR rfl gF (λcdv A outer s H E hr=>⟨_,(am (aB (av (Ca rfl) rfl T.b_any (by kernel_rfl) (aa (zm (ms:=[true]) (ar:=["left","right","first","last"]) (aH rfl (show aS (aj cT) bR _ _=true from by decide +kernel)) rfl (aM (ae 0)) (ip (n:=2) rfl (bQ (aG (i:=1) (show(bR++_).Nodup from by decide +kernel) rfl rfl) (bQ (aG (i:=2) (show(bR++_).Nodup from by decide +kernel) rfl rfl) gZ))) (λ_ _ _ _=>bo) (λ_ _ _ _=>(aM (ae 0))) (ip (n:=2) rfl (bQ (aG (i:=3) (show(bR++_).Nodup from by decide +kernel) rfl rfl) (bQ (aG (i:=4) (show(bR++_).Nodup from by decide +kernel) rfl rfl) gZ))) (λ_ _ _ _=>bo) (λ_ _ _ _=>(m8 kE kE kE (ae 1) (ae 3) (ae 2) (ae 4)))) ag)))),λds M R _ hS bk=>?_⟩);obtain⟨arcs,rfl,hl,k⟩:=hS;refine bk ?_;clear bk;walk_at"";intro hz;have hfl:∀l:List (Nat×Nat),(l.flatMap λ_=>arcs).length=l.length*arcs.length:=λl=>by
  induction l with
  |nil=>simp
  |cons x l ih=>rw[Z1,J9,ih,O3,Nat.succ_mul];lia
 refine cC stD (λa=>arcs.map λb=>D.bl (bK a b)) (λΔ=>∃x1 x2 x3 x4,Δ=[some (D.tup (arcs.map stD)),x1,x2,x3,x4]) arcs _ _ _ ?_ ⟨_,_,_,_,rfl⟩ ?_ ?_
 ·rintro a ha Δ ⟨x1,x2,x3,x4,rfl⟩;refine⟨_,rfl,λacc Q2 hz q2=>?_⟩;simp only[k9,pT,gJ];refine⟨_,rfl,_,rfl,λ_=>?_⟩;refine cC stD (λb=>[D.bl (bK a b)]) (λΔ=>∃x3 x4,Δ=[some (D.tup (arcs.map stD)),some (D.int a.1),some (D.int a.2),x3,x4]) arcs _ _ _ ?_ ⟨_,_,rfl⟩ (by rw[eG];exact hz) (by rintro Δ' ⟨x3,x4,rfl⟩;rw[eG];exact q2 _ ⟨_,_,_,_,rfl⟩);rintro b hb Δ ⟨x3,x4,rfl⟩;refine⟨_,rfl,λacc2 Q3 hz3 q3=>?_⟩;have q:=q3 [some (D.tup (arcs.map stD)),some (D.int a.1),some (D.int a.2),some (D.int b.1),some (D.int b.2)] ⟨_,_,rfl⟩;simp only[k8];walk_at"";refine bc (λh1=>bc (λh2=>?_) (λh2=>?_)) (λh1=>?_)
  ·have:bK a b=decide ((a.2:Int)<(b.2:Int)):=decide_eq_decide.mpr ⟨λh=>by lia,λh=>by lia⟩;rw[this]at q;exact q
  ·have:bK a b=false:=decide_eq_false λh=>h2 (by lia);rw[this]at q;exact q
  ·have:bK a b=false:=decide_eq_false λh=>h1 (by lia);rw[this]at q;exact q
 ·have e2:(arcs.flatMap λa=>arcs.map λb=>D.bl (bK a b)).length=(arcs.flatMap λ_=>arcs).length:=by
   rw[ai0,ai0];simp
  rw[e2,hfl];have:arcs.length*arcs.length<=30*30:=Nat.mul_le_mul hl hl;exact sz3 _ (by simp only[Z7];lia)
 rintro Δ' -
 ·rw[N5];refine⟨_,?_,k⟩;have h1:(arcs.flatMap λx=>arcs.map λb=>D.bl (bK x b)).all nJ=true:=by
   rw[O4];intro d hd;obtain⟨x,_,h⟩:=List.mem_flatMap.mp hd;obtain⟨b,_,rfl⟩:=N7.mp h;rfl
  have h2:∀l:List (Nat×Nat),(l.flatMap λx=>arcs.map λb=>D.bl (bK x b)).any kW=l.any λa=>arcs.any λb=>bK a b:=λl=>by
   induction l with
   |nil=>rfl
   |cons x l ih=>rw[Z1,List.any_append,ih,Z4,ao9];rfl
  simp only[yW,h1,h2,if_true]
theorem DK{a b:List Int}:eqF (.lst (a.map D.int)) (.lst (b.map D.int))=some (.bl (decide (a=b))):=uX D.int (λx y=>by rw[Q4];simp[eqD]) (λ_=>rfl)
theorem As{a b:List (Int×Int)}:eqF (.lst (a.map pD)) (.lst (b.map pD))=some (.bl (decide (a=b))):=uX pD (λx y=>by rw[Q4];obtain⟨a,b⟩:=x;obtain⟨c,d⟩:=y;simp[pD,eqD,cX]) (λ_=>rfl)
def stI(s:Nat×Nat):Int×Int:=((s.1:Int),(s.2:Int))
theorem mn{l:List (Nat×Nat)}:l.map stD=(l.map stI).map pD:=by rw[Q7];rfl
theorem vT{n:Nat}:∀{ds:List D},ds.all (gL n)=true->∃arcs:List (Nat×Nat),ds=arcs.map stD/\∀a∈arcs,a.1<a.2/\a.2<n
 |[],_=>⟨[],rfl,λa ha=>by simp at ha⟩
 |d::ds,h=>by
  rw[ac1,N1]at h;obtain⟨arcs,e,h2⟩:=vT (ds:=ds) h.2;have h1:=h.1;unfold gL at h1
  split at h1
  ·rename_i a b;simp only[N1,decide_eq_true_eq]at h1;refine⟨(a.toNat,b.toNat)::arcs,?_,λx hx=>?_⟩
   ·rw[K2,e];congr 1;simp only[stD];rw[show((a.toNat:Nat):Int)=a by lia,show((b.toNat:Nat):Int)=b by lia]
   ·rcases L5.mp hx with rfl|hx
    ·simp only;lia
    ·exact h2 x hx
  ·cases h1
theorem xF{n:Nat}{arcs:List (Nat×Nat)}(h:∀a∈arcs,a.1<a.2/\a.2<n):(arcs.map stD).all (gL n)=true:=by
 rw[O4];intro d hd;obtain⟨a,ha,rfl⟩:=N7.mp hd;have:=h a ha;simp only[gL,stD,N1,decide_eq_true_eq];lia
def kF:SpD:=λds M R=>∃(d:D) (n:Nat),ds=[d,.int n]/\ao d=true/\n<=60/\(∀ds,d=.tup ds->ds.length<=30) /\
 (∀arcs:List (Nat×Nat),d=.tup (arcs.map stD)->(∀a∈arcs,a.1<a.2/\a.2<n)->R (.bl (decide (ff (arcs.flatMap λa=>[(a.1:Int),(a.2:Int)])=(O2 n).map (λ(k:Nat)=>(0:Int)+(k:Int)))&&decide (dH (arcs.map stI)=arcs.map stI))) M) /\
 ((¬ ∃arcs:List (Nat×Nat),d=.tup (arcs.map stD)/\∀a∈arcs,a.1<a.2/\a.2<n)->R (.bl false) M)
theorem oi(F:Fun K "are_arcs" "are_arcs" c7 f fd)(T:Txt mg)(gc9:FnD P w K mg base "is_arc" 2 2 nc):aV P w K mg base CX0 3 f fd ["thing","many"] (spD K 2 kF):=by
 have nd:=jd.nd;refine F.okR rfl jd (λcdv A outer s H E hr=>⟨_,(ai (bh (iX (fL (bW (bF (c9 (Tn:="tuple") (by decide) rfl T.b_isinstance rfl T.b_tuple (by kernel_rfl) (ae 0)))) (fh (bW (bF (av (jm rfl) rfl T.b_all (by kernel_rfl) (aa (eW (ms:=[false,true,false]) (ar:=["arc"]) (aH rfl (show aS (aj c7) cA _ _=true from by decide +kernel)) rfl (aM (ae 0)) (aG (i:=3) (show(cA++_).Nodup from by decide +kernel) rfl rfl) (λ_ _ _ _=>bo) (λ_ _ _ _=>(qd gc9 hr (aa (ae 3) (aa (ae 1) ag))))) ag))))))) (am (aB eQ)) aK)
   (ai (yC (i:=2) nd rfl rfl rfl (ms:=[false,false,false]) (ar:=["arc","end"]) (aH rfl (show aS (aj c7) cA _ _=true from by decide +kernel)) rfl (aM (ae 0)) (aG (i:=3) (show(cA++_).Nodup from by decide +kernel) rfl rfl) (λ_ _ _ _=>bo) (λ_ _ _ _=>(aM (ae 3))) (aG (i:=4) (show(cA++_).Nodup from by decide +kernel) rfl rfl) (λ_ _ _ _=>bo) (λ_ _ _ _=>(ae 4)))
   (am (aB (bp (eO (gK hr.units) (av fV rfl T.b_sorted (by kernel_rfl) (aa (ae 2) ag)) (lI rfl rfl T.b_list rfl T.b_range (aa (ae 1) ag)) nbh) (cf (eO (gK hr.units) (av fV rfl T.b_sorted (by kernel_rfl) (aa (ae 0) ag)) (bC nY rfl T.b_list (by kernel_rfl) (aa (ae 0) ag)) nbh))))))),λds M R _ hS bk=>?_⟩)
 obtain⟨d,n,rfl,hd,hn,hl30,k1,k2⟩:=hS;refine bk ?_;clear bk;walk_at"";cases d with
 |tup ds =>
  have hdl:=hl30 ds rfl;have hgd:∀d∈ds,ao d=true:=bb.mp (by simpa[ao]using hd);refine⟨true,rfl,?_⟩;rw[if_neg (by simp)];refine⟨ds,rfl,λhz=>⟨hz,?_⟩⟩;refine eN (λ_=>true) (λd=>D.bl (gL n d)) (λΔ=>∃x,Δ=[none,some (D.int n),none,x]) _ _ _ (λd hd Δ hΔ=>?_) ⟨none,rfl⟩ ?_
  ·obtain⟨x,rfl⟩:=hΔ;refine⟨_,rfl,⟨_,rfl⟩,λQ1 q=>q,λ_ Q2 q=>?_⟩;walk_at"";exact⟨d,n,rfl,hgd d hd,q⟩
  rw[O5.mpr (λ_ _=>rfl),N5];have eall:oq (.lst (ds.map λd=>D.bl (gL n d)))=some (.bl (ds.all (gL n))):=by
   have h1:(ds.map λd=>D.bl (gL n d)).all nJ=true:=by rw[V9,O4];intro _ _;rfl
   have h2:(ds.map λd=>D.bl (gL n d)).all kW=ds.all (gL n):=by rw[V9];rfl
   simp only[oq,h1,h2,if_true]
  refine⟨_,eall,_,rfl,bc (λh=>?_) (λh=>?_)⟩
  ·refine k2 ?_;rintro⟨arcs,e,ha⟩;have e':ds=arcs.map stD:=by simpa using e
   rw[e',xF ha]at h;simp at h
  ·obtain⟨arcs,rfl,ha⟩:=vT (by simpa using h);rw[u8]at hdl;have k3:=k1 arcs rfl ha;refine⟨_,rfl,λhz2=>?_⟩;have hfl:∀l:List (Nat×Nat),(l.flatMap λa=>[(a.1:Int),(a.2:Int)]).length=2*l.length:=λl=>by
    induction l with
    |nil=>rfl
    |cons x l ih=>rw[Z1,J9,ih];simp;lia
   refine cC stD (λa=>[D.int (a.1:Int),D.int (a.2:Int)]) (λΔ=>∃x1 x2,Δ=[none,none,none,x1,x2]) arcs _ _ _ ?_ ⟨_,_,rfl⟩ ?_ ?_
   ·rintro a ha Δ ⟨x1,x2,rfl⟩;refine⟨_,rfl,λacc Q2 hz q2=>?_⟩;simp only[k9,pT,gJ];refine⟨_,rfl,_,rfl,λ_=>?_⟩;refine cC D.int (λi=>[D.int i]) (λΔ=>∃x2,Δ=[none,none,none,some (stD a),x2]) [(a.1:Int),(a.2:Int)] _ _ _ ?_ ⟨_,rfl⟩ hz (by rintro Δ' ⟨x2,rfl⟩;exact q2 _ ⟨_,_,rfl⟩);rintro i hi Δ ⟨x2,rfl⟩;refine⟨_,rfl,λacc2 Q3 hz3 q3=>?_⟩;simp only[k8,gJ];exact⟨_,rfl,q3 _ ⟨_,rfl⟩⟩
   ·have e2:(arcs.flatMap λa=>[D.int (a.1:Int),D.int (a.2:Int)]).length=(arcs.flatMap λa=>[(a.1:Int),(a.2:Int)]).length:=by
     rw[ai0,ai0];simp
    rw[e2,hfl];exact sz3 _ (by simp only[Z7];lia)
   ·rintro Δ' -
    rw[N5];have ef:(arcs.flatMap λa=>[D.int (a.1:Int),D.int (a.2:Int)])=(arcs.flatMap λa=>[(a.1:Int),(a.2:Int)]).map D.int:=by rw[List.map_flatMap];rfl
    have er:jX 0 ((n:Int)).toNat=((O2 n).map λ(k:Nat)=>(0:Int)+(k:Int)).map D.int:=by rw[V6,Q7];rfl
    rw[ef,er];refine⟨_,vC (by rw[hfl];lia),by lia,by lia,_,DK,_,rfl,bc (λh1=>?_) (λh1=>?_)⟩
    ·rw[h1,U5]at k3;rw[mn];refine⟨_,vH (by rw[u8];lia),_,rfl,_,As,k3⟩
    ·rw[eq_false_of_ne_true h1,S4]at k3;exact k3
 |scr _=>simp[ao]at hd
 |ref _=>simp[ao]at hd
 |box _ _=>simp[ao]at hd
 |_ =>
  refine⟨false,rfl,?_⟩;rw[if_pos (show(!false)=true from rfl)];exact k2 (by rintro⟨arcs,e,_⟩;cases e)
def cB(ord:List (Str×Str))(x y:Str×Int):Bool:=x.2+1==y.2&&lB ord x.2 x.1 y.1
theorem sX{ord:List (Str×Str)}{x y:Str×Int}{M:DH}{R:D->DH->Prop}:fW [.tup (ord.map aQ),aF x,aF y] M R↔ord.length<=500/\R (.bl (cB ord x y)) M:=qZ (a:=x.1) (b:=y.1) (t:=x.2) (u:=y.2)
def sg(row:List (Str×Int))(i:Nat):Str×Int:=row.getD i ("",0)
theorem lC{row:List (Str×Int)}{i:Nat}(h:i<row.length):atI (row.map aF) (i:Int)=some (aF (sg row i)):=by
 refine bA ?_;rw[L8,J1 h];simp[sg,h]
def wf(arcs:List (Nat×Nat)):List Int:=arcs.flatMap λa=>[(a.1:Int),(a.2:Int)]
def zZ(n:Nat):List Int:=(O2 n).map λ(k:Nat)=>(0:Int)+(k:Int)
def Drw(o:List (Str×Str))(row:List (Str×Int))(arcs:List (Nat×Nat)):Prop :=
 (∀a∈arcs,a.1<a.2/\a.2<row.length)/\(ff (wf arcs)=zZ row.length/\dH (arcs.map stI)=arcs.map stI)/\(∀a∈arcs,cB o (sg row a.1) (sg row a.2)=true)/\¬ (arcs.any λa=>arcs.any λb=>bK a b)=true
theorem vA:∀x y,stD x=stD y->x=y:=λ⟨a,b⟩ ⟨c,d⟩ h=>by
 simp only[stD,D.tup.injEq,O0,D.int.injEq,and_true]at h;exact Prod.ext (by simp only;lia) (by simp only;lia)
def gS:SpD:=λds M R=>∃(ord:List (Str×Str)) (row:List (Str×Int)) (d:D),ds=[.tup (ord.map aQ),.tup (row.map aF),d]/\ord.length<=500/\row.length<=24/\ao d=true/\(∀ds,d=.tup ds->ds.length<=30) /\
 (∀arcs:List (Nat×Nat),d=.tup (arcs.map stD)->Drw ord row arcs->R (.bl true) M)/\((¬ ∃arcs:List (Nat×Nat),d=.tup (arcs.map stD)/\Drw ord row arcs)->R (.bl false) M)
theorem mh(F:Fun K "is_drawing" "is_drawing" da f fd)(T:Txt mg)(gb8:FnD P w K mg base "are_arcs" 3 2 kF)(gb2:FnD P w K mg base "some_cross" 1 1 iE)(gd0:FnD P w K mg base "cancel" 4 3 fW):aV P w K mg base CX0 5 f fd ["order","row","arcs"] (spD K 3 gS):=by
 have nd:=gz.nd;refine F.okR rfl gz (λcdv A outer s H E hr=>⟨_,(am (aB (bp (qd gb8 hr (aa (ae 2) (aa (av aY rfl T.b_len (by kernel_rfl) (aa (ae 1) ag)) ag))) (bp (av (jm rfl) rfl T.b_all (by kernel_rfl) (aa (eW (ms:=[true,true,false]) (ar:=["left","right"]) (aH rfl (show aS (aj da) cR _ _=true from by decide +kernel)) rfl (aM (ae 2)) (ip (n:=2) rfl (bQ (aG (i:=3) (show(cR++_).Nodup from by decide +kernel) rfl rfl) (bQ (aG (i:=4) (show(cR++_).Nodup from by decide +kernel) rfl rfl) gZ))) (λ_ _ _ _=>bo) (λ_ _ _ _=>(qd gd0 hr (aa (ae 0) (aa (aC aD (ae 1) (ae 3) (λ_ _=>rfl)) (aa (aC aD (ae 1) (ae 4) (λ_ _=>rfl)) ag)))))) ag)) (cf (ym (qd gb2 hr (aa (ae 2) ag)))))))),λds M R _ hS bk=>?_⟩);obtain⟨ord,row,d,rfl,ho,hl,hd,h30,k1,k2⟩:=hS;refine bk ?_;clear bk;walk_at"";rw[u8];refine⟨d,row.length,rfl,hd,by lia,h30,λarcs e ha=>?_,λhno=>?_⟩
 ·subst e;have hdr:Drw ord row arcs↔(ff (wf arcs)=zZ row.length/\dH (arcs.map stI)=arcs.map stI)/\(∀a∈arcs,cB ord (sg row a.1) (sg row a.2)=true)/\¬ (arcs.any λa=>arcs.any λb=>bK a b)=true:=⟨λh=>h.2,λh=>⟨ha,h⟩⟩;have h30':arcs.length<=30:=by simpa using h30 _ rfl
  have fin:∀b:Bool,(b=true↔Drw ord row arcs)->R (.bl b) M:=λb h=>by
   cases b with
   |true=>exact k1 arcs rfl (h.mp rfl)
   |false =>
    refine k2 λ⟨arcs',e,h'⟩=>?_;have e':arcs.map stD=arcs'.map stD:=by simpa using e
    rw[<-fb vA e']at h';exact absurd (h.mpr h') (by simp)
  refine⟨_,rfl,bc (λh1=>?_) (λh1=>?_)⟩
  ·rw[N1,decide_eq_true_eq,decide_eq_true_eq]at h1;refine⟨_,rfl,λhz=>⟨hz,?_⟩⟩;refine bw stD (λ_=>true) (λa=>D.bl (cB ord (sg row a.1) (sg row a.2))) (λΔ=>∃x y,Δ=[some (D.tup (am8 aQ ord)),some (D.tup (am8 aF row)),none,x,y]) arcs _ _ (λa m Δ hΔ=>?_) ⟨none,none,rfl⟩ ?_
   ·obtain⟨x,y,rfl⟩:=hΔ;have:=ha a m;refine⟨_,rfl,⟨_,_,rfl⟩,λQ1 q=>q,λ_ Q2 q=>?_⟩;walk_at"";refine⟨_,lC (by lia),_,lC (by lia),?_⟩;exact sX.mpr ⟨ho,q⟩
   ·rw[N5,O5.mpr (λ_ _=>rfl)];have eall:oq (.lst (arcs.map λa=>D.bl (cB ord (sg row a.1) (sg row a.2))))=some (.bl (arcs.all λa=>cB ord (sg row a.1) (sg row a.2))):=by
     have g1:(arcs.map λa=>D.bl (cB ord (sg row a.1) (sg row a.2))).all nJ=true:=by rw[V9,O4];intro _ _;rfl
     have g2:(arcs.map λa=>D.bl (cB ord (sg row a.1) (sg row a.2))).all kW=arcs.all λa=>cB ord (sg row a.1) (sg row a.2):=by rw[V9];rfl
     simp only[oq,g1,g2,if_true]
    refine⟨_,eall,_,rfl,bc (λh2=>?_) (λh2=>?_)⟩
    ·refine⟨arcs,rfl,h30',_,rfl,fin _ ?_⟩;rw[hdr];rw[O4]at h2;refine⟨λh=>⟨h1,h2,?_⟩,λh=>?_⟩
     ·rw[ad5]at h;rw[h];simp
     ·rw[ad5];exact eq_false_of_ne_true h.2.2
    ·refine fin false ⟨λh=>(nomatch h),λh=>absurd (O4.mpr (hdr.mp h).2.1) h2⟩
  ·refine fin false ⟨λh=>(nomatch h),λh=>absurd ?_ h1⟩;rw[N1,decide_eq_true_eq,decide_eq_true_eq];exact(hdr.mp h).1
 ·refine⟨_,rfl,?_⟩;rw[if_neg (by simp)];exact k2 λ⟨arcs,e,h⟩=>hno ⟨arcs,e,h.1⟩
theorem qu{r:List D}(h:r.length=2):∃a b,r=[a,b]:=by
 match r,h with
 |[a,b],_=>exact⟨a,b,rfl⟩
theorem sN{xs:List D}{x:D}:L2.c8 (xs++[x]) none (some (-1))=xs:=by
 unfold L2.c8;rw[HT.sIx_none,List.drop_zero,Nat.sub_zero];have e:HT.sIx (xs++[x]).length (xs++[x]).length (some (-1))=xs.length:=by
  simp[HT.sIx];lia
 rw[e,List.take_left'];rfl
theorem jR:∀{ds:List D}{ks:List (List Row)},(ds.length=ks.length/\((ds.zip ks).all λp=>plB p.1 (p.2.length:Int))=true)↔∃cs:List Nat,ds=cs.map bt/\Cho ks cs
 |[],[]=>⟨λ_=>⟨[],rfl,rfl,λp h=>by cases h⟩,λ_=>⟨rfl,rfl⟩⟩
 | [],k :: ks => ⟨λh => by simp at h,λ⟨cs,h,hc⟩ => by
   obtain rfl:cs=[]:=by simpa using h.symm
   have:=hc.1;simp at this⟩
 | d :: ds,[] => ⟨λh => by simp at h,λ⟨cs,h,hc⟩ => by
   have h1:=hc.1;obtain rfl:cs=[]:=List.eq_nil_of_length_eq_zero h1;simp at h⟩
 |d::ds,k::ks=>by
  have ih:=jR (ds:=ds) (ks:=ks);rw[W0,ac1,N1,j8,O3,O3];constructor
  ·rintro⟨h1,⟨i,rfl,hi⟩,h3⟩;obtain⟨cs,rfl,hc⟩:=ih.mp ⟨by lia,h3⟩;refine⟨i::cs,rfl,by simp[hc.1],λp hp=>?_⟩;rw[W0]at hp;rcases L5.mp hp with rfl|hp
   ·have hi':(i:Int)<(k.length:Int):=hi;show i<k.length
    lia
   ·exact hc.2 p hp
  ·rintro⟨cs,h,hc⟩;cases cs with
   |nil=>simp at h
   |cons c cs =>
    simp only[K2,O0]at h;obtain⟨rfl,rfl⟩:=h;have h1:=hc.1;simp only[O3,u8]at h1 ⊢;refine⟨by lia,⟨c,rfl,?_⟩,(ih.mpr ⟨cs,rfl,by lia,λp hp=>hc.2 p (by rw[W0];exact .tail _ hp)⟩).2⟩;have:=hc.2 (c,k) (by rw[W0];exact .head _);simp only at this;lia
theorem tT{d:D}{ks:List (List Row)}:wH ks d=true↔∃cs:List Nat,d=.tup (cs.map bt)/\Cho ks cs:=by
 cases d with
 |tup ds =>
  simp only[wH,N1,decide_eq_true_eq];rw[jR];simp
 |_=>simp[wH]
def tR(d:D):Prop:=ao d=true/\∀a ds,d=.tup [a,.tup ds]->ds.length<=30
def Bg(o:List (Str×Str))(ks:List (List Row))(au:Str)(d:D):Prop:=∃(cs:List Nat) (arcs:List (Nat×Nat)),d=.tup [.tup (cs.map bt),.tup (arcs.map stD)]/\Cho ks cs/\Drw o (cH ks cs++[(au,1)]) arcs
open Classical in
def dwB(o:List (Str×Str))(ks:List (List Row))(au:Str)(d:D):Bool:=decide (Bg o ks au d)
theorem FN{o:List (Str×Str)}{ks:List (List Row)}{au:Str}{d:D}(h:Bg o ks au d):dwB o ks au d=true:=by simp[dwB,h]
theorem AR{o:List (Str×Str)}{ks:List (List Row)}{au:Str}{d:D}(h:¬ Bg o ks au d):dwB o ks au d=false:=by simp[dwB,h]
def r8(ks:List (List Row)):Prop:=ks.length<=4/\∀k∈ks,∀r∈k,r.length<=5
theorem et{ks:List (List Row)}:∀{cs:List Nat},(∀k∈ks,∀r∈k,r.length<=5)->(cH ks cs).length<=5*ks.length:=by
 induction ks with
 |nil=>intro cs h;simp[cH]
 |cons k ks ih =>
  intro cs h;cases cs with
  |nil=>simp[cH]
  |cons c cs =>
   have:=ih (cs:=cs) (λk' hk=>h k' (.tail _ hk));have h2:(k.getD c []).length<=5:=by
    rw[N6];cases q:k[c]? with
    |none=>simp
    |some r=>exact h k (.head _) r (M9 q)
   simp only[cH,W0,Z1,J9,O3]at this ⊢
   lia
def cN:SpD:=λds M R=>∃(ord:List (Str×Str)) (au:Str) (ak:List (Str×List Row)) (ws:List Str) (d:D),ds=[bJ ord au ak,.tup (ws.map D.str),d]/\ja ord au ak/\l5 ak ws/\r8 (kit ak ws)/\tR d/\R (.bl (dwB ord (kit ak ws) au d)) M
theorem fm(F:Fun K "is_drawing_of_words" "is_drawing_of_words" bS f fd)(T:Txt mg)(Y1:FnD P w K mg base "is_drawing" 5 3 gS)(ga5:FnD P w K mg base "row_of_choice" 5 3 eZ)(G4:FnD P w K mg base "is_tuple_of" 1 2 aW)(ga7:FnD P w K mg base "is_choice_of" 3 2 fw)(Y0:FnD P w K mg base "kinds_in_turn" 4 2 cU):aV P w K mg base CX0 6 f fd ["lexicon","words","thing"] (spD K 3 cN):=by
 have nd:=cI.nd;refine F.okR rfl cI (λcdv A outer s H E hr=>⟨_,(ai (bh (iX (fL (bW (bF (qd G4 hr (aa (ae 2) (aa ah ag))))) (fh (bW (bF (qd ga7 hr (aa (bu (qd Y0 hr (aa (ae 0) (aa (ae 1) ag))) cx (bf (l6 l7 ah))) (aa (aC aD (ae 2) ah (λ_ _=>rfl)) ag)))))))) (am (aB eQ)) aK)
   (am (aB (qd Y1 hr (aa (aC aD (ae 0) ah (λ_ _=>rfl)) (aa (qd ga5 hr (aa (ae 0) (aa (ae 1) (aa (aC aD (ae 2) ah (λ_ _=>rfl)) ag)))) (aa (aC aD (ae 2) ah (λ_ _=>rfl)) ag))))))),λds M R _ hS bk=>?_⟩)
 obtain⟨ord,au,ak,ws,d,rfl,h,hw,hk,hd,k⟩:=hS;have ho:=h.1.1;refine bk ?_;clear bk;walk_at"";refine br.mpr ⟨hd.1,_,rfl,?_⟩
 by_cases ht:dw d 2=true
 ·rw[if_neg (by rw[ht];decide)];obtain⟨a,b,rfl⟩:∃a b,d=.tup [a,b]:=by
   cases d with
   |tup ds =>
    obtain⟨a,b,rfl⟩:=qu (r:=ds) (by simp[dw]at ht;lia);exact⟨a,b,rfl⟩
   |_=>simp[dw]at ht
  have hab:ao a=true/\ao b=true:=by simpa[ao,bq]using hd.1
  refine⟨ord,au,ak,ws,rfl,h,hw,?_⟩;have hkl:=hk.1;refine⟨dO (kit ak ws),?_,a,rfl,kit ak ws,a,rfl,hab.1,by lia,_,rfl,?_⟩
  ·show slE (.lst ((kit ak ws++[wsh au]).map aU)) none (some (-1))=_;rw[Cd,O1];exact congrArg (λl=>some (D.lst l)) sN
  by_cases hc:wH (kit ak ws) a=true
  ·rw[if_neg (by rw[hc];decide)];obtain⟨cs,rfl,hcs⟩:=tT.mp hc;have hrl:=et (ks:=kit ak ws) (cs:=cs) hk.2;refine⟨.tup (ord.map aQ),rfl,_,rfl,ord,au,ak,ws,cs,rfl,h,hw,hcs,by lia,b,rfl,ord,_,b,rfl,by lia,by simp;lia,hab.2,λds e=>hd.2 _ ds (by rw[e]),λarcs e hdr=>?_,λhno=>?_⟩
   ·subst e;rw[FN ⟨cs,arcs,rfl,hcs,hdr⟩]at k;exact k
   ·rw[AR (by
     rintro⟨cs',arcs,e,_,hdr⟩;simp only[D.tup.injEq,O0,and_true]at e;obtain⟨e1,e2⟩:=e;have ec:cs=cs':=fb (λx y h=>by have:=D.int.inj h;lia) e1;subst ec;exact hno ⟨arcs,e2,hdr⟩)]at k
    exact k
  ·rw[if_pos (by simpa using hc)];rw[AR (by
    rintro⟨cs',arcs,e,hcs,hdr⟩;simp only[D.tup.injEq,O0,and_true]at e;exact hc (tT.mpr ⟨cs',e.1,hcs⟩))]at k
   exact k
 ·rw[if_pos (by simpa using ht)];rw[AR (by rintro⟨cs,arcs,rfl,_⟩;exact ht rfl)]at k;exact k
def eJ:SpD:=λds M R=>∃(ord:List (Str×Str)) (au:Str) (ak:List (Str×List Row)) (ws:List Str) (d:D),ds=[.tup [bJ ord au ak,.tup (ws.map D.str)],d]/\ja ord au ak/\l5 ak ws/\r8 (kit ak ws)/\((kit ak ws).flatMap λk=>k.map T6).sum<=60/\((kit ak ws).flatMap λk=>k.map T6).length<=100/\tR d/\R (.bl (dwB ord (kit ak ws) au d)) M
theorem BA{ak:List (Str×List Row)}{ws:List Str}(hw:l5 ak ws)(he:mY ak):ao (.tup (ws.map D.str))=true:=by
 simp only[ao];rw[bb];intro d hd;obtain⟨x,hx,rfl⟩:=N7.mp hd;exact cy (hw.word he hx)
theorem i6(F:Fun K "takes_sentence" "takes_sentence" cL f fd)(T:Txt mg)(G4:FnD P w K mg base "is_tuple_of" 1 2 aW)(ga3:FnD P w K mg base "are_words_taken" 10 2 dR)(Y4:FnD P w K mg base "is_drawing_of_words" 6 3 cN):aV P w K mg base CX0 11 f fd ["parts","paper"] (spD K 2 eJ):=by
 have nd:=dP.nd;refine F.okR rfl dP (λcdv A outer s H E hr=>⟨_,(ai (bh (bW (bF (qd G4 hr (aa (ae 0) (aa ah ag))))) (am (aB eQ)) aK)
   (ai (vt (ae 0) (mM rfl (cO (aZ (i:=2) nd rfl (L9 rfl)) (cO (aZ (i:=3) nd rfl (L9 rfl)) nB))))
   (am (aB (bp (qd ga3 hr (aa (ae 2) (aa (ae 3) ag))) (cf (qd Y4 hr (aa (ae 2) (aa (ae 3) (aa (ae 1) ag)))))))))),λds M R _ hS bk=>?_⟩)
 obtain⟨ord,au,ak,ws,d,rfl,h,hw,hk,hs,hsl,hd,k⟩:=hS;refine bk ?_;clear bk;walk_at"";refine br.mpr ⟨?_,?_⟩
 ·have a:=rn h;have b:=BA hw h.2.2.1;simp only[ao,bq,ag5,N1];exact⟨a,by simpa only[ao]using b⟩
 ·rw[show dw (.tup [bJ ord au ak,.tup (ws.map D.str)]) 2=true from rfl];walk_at"";refine⟨_,rfl,?_⟩;walk_at"";refine⟨ord,au,ak,ws,rfl,h,hw,hs,hsl,?_⟩;walk_at"";exact⟨ord,au,ak,ws,d,rfl,h,hw,hk,hd,k⟩
def pU:SpD:=λds M R=>∃(ord:List (Str×Str)) (au:Str) (ak:List (Str×List Row)) (ws:List Str) (d:D),ds=[.tup [.str "sentence",bJ ord au ak,.tup (ws.map D.str)],d]/\ja ord au ak/\l5 ak ws/\r8 (kit ak ws)/\((kit ak ws).flatMap λk=>k.map T6).sum<=60/\((kit ak ws).flatMap λk=>k.map T6).length<=100/\tR d/\R (.bl (dwB ord (kit ak ws) au d)) M
theorem uV(F:Fun K "holds" "holds" kZ f fd)(T:Txt mg)(GF:kc w K mg "CHECKS" Ei)(Y7:FnD P w K mg base "takes_sentence" 11 2 eJ):aV P w K mg base CX0 12 f fd ["claim","paper"] (spD K 2 pU):=by
 have nd:=mz.nd;refine F.okR rfl mz (λcdv A outer s H E hr=>⟨_,(ai (bh (iX (fL (bW (bF (c9 (Tn:="tuple") (by decide) rfl T.b_isinstance rfl T.b_tuple (by kernel_rfl) (ae 0)))) (fh (aR (gK hr.units) (av aY rfl T.b_len (by kernel_rfl) (aa (ae 0) ag)) ah nbh)))) (am (aB eQ)) aK)
   (ai (bh (iX (fL (bW (bF (c9 (Tn:="str") (by decide) rfl T.b_isinstance rfl T.b_str (by kernel_rfl) (aC aD (ae 0) ah (λ_ _=>rfl))))) (fh (Ak rfl GF (aC aD (ae 0) ah (λ_ _=>rfl)))))) (am (aB eQ)) aK)
   (ai (ax (i:=2) nd rfl (L9 rfl) (C5 hr.units1 rfl GF (aC aD (ae 0) ah (λ_ _=>rfl)) (λ_ _=>rfl)))
   (am (aB (Bs 2 Y7 hr (aa (bu (ae 0) (bf ah) cx) (aa (ae 1) ag)))))))),λds M R _ hS bk=>?_⟩)
 obtain⟨ord,au,ak,ws,d,rfl,h,hw,hk,hs,hsl,hd,k⟩:=hS;refine bk ?_;clear bk;walk_at"";refine⟨true,rfl,?_⟩;rw[if_neg (by decide),if_neg (by decide)];refine⟨true,rfl,?_⟩;have e:jy Ei (U9 "sentence")=some "takes_sentence":=by decide +kernel
 rw[if_neg (by decide),e];obtain⟨f1,_,_,_,hm,_⟩:=Y7.ex;refine⟨_,rfl,f1,hm,rfl,ord,au,ak,ws,d,?_,h,hw,hk,hs,hsl,hd,k⟩;rw[show L2.c8 [D.str (U9 "sentence"),bJ ord au ak,D.tup (ws.map D.str)] (some 1) none=_ from jP (n:=1)];rfl
def pY:SpD:=λds M R=>∃(ord:List (Str×Str)) (au:Str) (ak:List (Str×List Row)) (ws:List Str) (d:D),ds=[.tup [.str "sentence",bJ ord au ak,.tup (ws.map D.str)],d,.bl (dwB ord (kit ak ws) au d)]/\ja ord au ak/\l5 ak ws/\r8 (kit ak ws)/\((kit ak ws).flatMap λk=>k.map T6).sum<=60/\((kit ak ws).flatMap λk=>k.map T6).length<=100/\tR d/\R (.bl true) M
theorem uo(F:Fun K "_law_taken" "_law_taken" kO f fd)(T:Txt mg)(gd4:FnD P w K mg base "holds" 12 2 pU):aV P w K mg base CX0 13 f fd ["_law_claim","_law_paper","_law_due"] (spD K 3 pY):=by
 have nd:=mF.nd;refine F.okR rfl mF (λcdv A outer s H E hr=>⟨_,(ai (ax (i:=3) nd rfl (L9 rfl) (qd gd4 hr (aa (ae 0) (aa (ae 1) ag))))
   (am (aB (bp (c9 (Tn:="bool") (by decide) rfl T.b_isinstance rfl T.b_bool (by kernel_rfl) (ae 3)) (cf (eO (gK hr.units) (ae 3) (ae 2) nbh)))))),λds M R _ hS bk=>?_⟩)
 obtain⟨ord,au,ak,ws,d,rfl,h,hw,hk,hs,hsl,hd,k⟩:=hS;refine bk ?_;clear bk;walk_at"";refine⟨ord,au,ak,ws,d,rfl,h,hw,hk,hs,hsl,hd,?_⟩;walk_at"";simp only[beq_self_eq_true];exact k
def ui(ws:List Str)(r:Row):Prop:=r.length<=4/\∀x∈r,x.1∈ws/\-2<=x.2/\x.2<=2
theorem jL.cut{n:Nat}{xs:List Int}(h:jL n xs)(a b:Nat)(hab:a<=b)(hb:b<=n):∃ys:List Int,L2.c8 (xs.map D.int) (some (a:Int)) (some (b:Int))=ys.map D.int/\jL (b-a) ys:=by
 refine⟨(xs.drop a).take (b-a),?_,?_,λx hx=>h.2 x (List.mem_of_mem_drop (aa4 hx))⟩
 ·unfold L2.c8;rw[HT.sIx_nat,HT.sIx_nat,u8,h.1,am4 hb,am4 (by lia:a<=n),<-List.map_drop,<-List.map_take]
 ·rw[N2,X1,h.1];lia
theorem gc{l:List D}{v:Int}(h0:0<=v)(h1:v<(l.length:Int)):∃d∈l,atI l v=some d:=by
 obtain⟨n,rfl⟩:=ae5 h0;have hn:n<l.length:=by lia
 exact⟨l[n],P7 hn,bA (by simp[hn])⟩
theorem vX{ws:List Str}{ys:List Int}{M:DH}{Q:List D->DH->Prop}(hw:ws≠[])(hwl:ws.length<=8)(hy:∀y∈ys,0<=y)(h:∀r:Row,r.length=ys.length->(∀x∈r,x.1∈ws/\-2<=x.2/\x.2<=2)->Q (r.map aF) M):
  cV (gg 6) sE (nZ 2 nI (pV (gJ 6) (pV (gJ 1) xE))) (ys.map D.int) [none,some (.lst (ws.map D.str)),none,none,none,none,none] M [] Q:=by
 refine nv (λj acc Δ M'=>∃(z:Option D) (row:Row),Δ=[none,some (.lst (ws.map D.str)),none,none,none,none,z]/\M=M'/\acc=row.map aF/\row.length=j/\∀x∈row,x.1∈ws/\-2<=x.2/\x.2<=2) ⟨none,[],rfl,rfl,rfl,rfl,(λ_ h=>by cases h)⟩ ?_ ?_
 ·rintro j d acc Δ M' X2 hd2 ⟨z,row,rfl,rfl,rfl,hnl,hro⟩ k2;obtain⟨x,hx',rfl⟩:=dZ hd2;refine⟨_,rfl,?_⟩;simp only[sE];walk_at"";refine⟨x,ws,rfl,hy x (M9 hx'),hw,hwl,λs h1 h2 h3=>k2 _ _ _ ⟨_,row++[s],rfl,rfl,by simp,by simp[hnl],λy hy'=>?_⟩⟩;rcases K1.mp hy' with h|h
  ·exact hro y h
  ·rw[K0.mp h];exact⟨h1,h2,h3⟩
 ·rintro acc Δ M' ⟨z,row,rfl,rfl,rfl,hnl,hro⟩;rw[u8]at hnl;exact h row hnl hro
def sh:SpD:=λds M R=>∃(xs:List Int) (ws:List Str),ds=[.lst (xs.map D.int),.lst (ws.map D.str)]/\jL 5 xs/\ws≠[]/\ws.length<=8/\∀r,ui ws r->R (aO r) M
theorem wm(F:Fun K "_law_kind" "_law_kind" ic f fd)(T:Txt mg)(G9:FnD P w K mg base "_law_sign" 1 2 nI):aV P w K mg base CX0 2 f fd ["_law_numbers_here","_law_marks"] (spD K 2 sh):=by
 have nd:=pJ.nd;refine F.okR rfl pJ (λcdv A outer s H E hr=>⟨_,(ai (ax (i:=2) nd rfl (L9 rfl) (aJ (aa (aC aD (ae 1) ah (λ_ _=>rfl)) (aa ah ag))))
   (ai (ax (i:=3) nd rfl (L9 rfl) (aC aD (ae 1) (az bH (aC aD (ae 0) ah (λ_ _=>rfl)) (av aY rfl T.b_len (by kernel_rfl) (aa (ae 1) ag))) (λ_ _=>rfl)))
   (ai (ax (i:=4) nd rfl (L9 rfl) (aC aD (ae 1) (az bH (aC aD (ae 0) ah (λ_ _=>rfl)) (av aY rfl T.b_len (by kernel_rfl) (aa (ae 1) ag))) (λ_ _=>rfl)))
   (ai (ax (i:=5) nd rfl (L9 rfl) (df (aa (aJ (aa (aJ (aa (ae 3) (aa ah ag))) ag)) (aa (aJ (aa (aJ (aa (ae 3) (aa ah ag))) (aa (ae 2) ag))) (aa (aJ (aa (ae 2) (aa (aJ (aa (ae 3) (aa (l6 l7 ah) ag))) ag))) (aa (aJ (aa (aJ (aa (ae 3) (aa ah ag))) (aa (ae 2) (aa (aJ (aa (ae 4) (aa (l6 l7 ah) ag))) ag)))) (aa (aJ (aa (aJ (aa (ae 3) (aa ah ag))) (aa (aJ (aa (ae 4) (aa (l6 l7 ah) ag))) ag))) ag)))))))
   (ai (ax (i:=5) nd rfl (L9 rfl) (az aI (ae 5) (df (aa (bC dq rfl T.b_tuple (by kernel_rfl) (aa (eW (ms:=[false,true,false,false,false,false]) (ar:=["_law_number_here"]) (aH rfl (show aS (aj ic) ix _ _=true from by decide +kernel)) rfl (aM (bu (ae 0) (bf ah) (bf (az aI ah (az bH (aC aD (ae 0) ah (λ_ _=>rfl)) ah))))) (aG (i:=6) (show(ix++_).Nodup from by decide +kernel) rfl rfl) (λ_ _ _ _=>bo) (λ_ _ _ _=>(qd G9 hr (aa (ae 6) (aa (ae 1) ag))))) ag)) ag))))
   (ai (ax (i:=5) nd rfl (L9 rfl) (az aI (ae 5) (df (aa (bC dq rfl T.b_tuple (by kernel_rfl) (aa (eW (ms:=[false,true,false,false,false,false]) (ar:=["_law_number_here"]) (aH rfl (show aS (aj ic) ix _ _=true from by decide +kernel)) rfl (aM (bu (ae 0) (bf ah) (bf ah))) (aG (i:=6) (show(ix++_).Nodup from by decide +kernel) rfl rfl) (λ_ _ _ _=>bo) (λ_ _ _ _=>(qd G9 hr (aa (ae 6) (aa (ae 1) ag))))) ag)) (aa (aJ ag) ag)))))
   (am (aB (aC aD (ae 5) (az bH (aC aD (ae 0) ah (λ_ _=>rfl)) ah) (λ_ _=>rfl)))))))))),λds M R _ hS bk=>?_⟩)
 obtain⟨xs,ws,rfl,hN,hw,hwl,k⟩:=hS;refine bk ?_;clear bk;have hwp:=S5.mpr hw;obtain⟨x0,e0,a0,a1⟩:=hN.at 0 (by lia);obtain⟨x1,e1,b0,b1⟩:=hN.at 1 (by lia);obtain⟨x2,e2,c0,c1⟩:=hN.at 2 (by lia);obtain⟨x4,e4,d0,d1⟩:=hN.at 4 (by lia);obtain⟨g,hg,f0⟩:=dG (fF:=ws) (v:=0) (by lia) (by lia);obtain⟨m1,hm1,f1⟩:=dG (fF:=ws) (v:=x1 % ws.length) (T7 _ (by lia)) (S1 _ (by lia));obtain⟨m2,hm2,f2⟩:=dG (fF:=ws) (v:=x2 % ws.length) (T7 _ (by lia)) (S1 _ (by lia));refine ba (λΔ' M'=>Δ'=[some (.lst (xs.map D.int)),some (.lst (ws.map D.str)),some (aF (g,0)),none,none,none]/\M=M') (λnx k'=>?_) ?_
 ·walk_at"";exact⟨_,f0,sz3 2,k' _ _ ⟨rfl,rfl⟩⟩
 rintro _ _ ⟨rfl,rfl⟩;refine ba (λΔ' M'=>Δ'=[some (.lst (xs.map D.int)),some (.lst (ws.map D.str)),some (aF (g,0)),some (.str m1),none,none]/\M=M') (λnx k'=>?_) ?_
 ·walk_at"";rw[u8];exact⟨_,e1,_,if_pos (by lia),_,f1,k' _ _ ⟨rfl,rfl⟩⟩
 rintro _ _ ⟨rfl,rfl⟩;refine ba (λΔ' M'=>Δ'=[some (.lst (xs.map D.int)),some (.lst (ws.map D.str)),some (aF (g,0)),some (.str m1),some (.str m2),none]/\M=M') (λnx k'=>?_) ?_
 ·walk_at"";rw[u8];exact⟨_,e2,_,if_pos (by lia),_,f2,k' _ _ ⟨rfl,rfl⟩⟩
 rintro _ _ ⟨rfl,rfl⟩;refine ba (λΔ' M'=>(∃rs:List Row,Δ'=[some (.lst (xs.map D.int)),some (.lst (ws.map D.str)),some (aF (g,0)),some (.str m1),some (.str m2),some (.lst (rs.map aO))]/\rs.length=5/\∀r∈rs,ui ws r)/\M=M') (λnx k'=>?_) ?_
 ·walk_at"";refine⟨sz3 2,sz3 1,sz3 2,sz3 2,sz3 2,sz3 2,sz3 2,sz3 2,sz3 3,sz3 2,sz3 2,sz3 2,sz3 5,k' _ _ ⟨⟨[[(m1,0)],[(m1,1),(g,0)],[(g,0),(m1,-1)],[(m1,1),(g,0),(m2,-1)],[(m1,0),(m2,-1)]],rfl,rfl,λr hr=>?_⟩,rfl⟩⟩;have hs:∀(t:Int),-2<=t->t<=2->∀m,m∈ws->(m,t).1∈ws/\-2<=(m,t).2/\(m,t).2<=2:=λt h1 h2 m hm=>⟨hm,h1,h2⟩;simp only[L5,P0,or_false]at hr;rcases hr with rfl|rfl|rfl|rfl|rfl<;>refine⟨by simp,λx hx=>?_⟩<;>simp only[L5,P0,or_false]at hx
  ·rw[hx];exact hs _ (by decide) (by decide) _ hm1
  ·rcases hx with rfl|rfl
   ·exact hs _ (by decide) (by decide) _ hm1
   ·exact hs _ (by decide) (by decide) _ hg
  ·rcases hx with rfl|rfl
   ·exact hs _ (by decide) (by decide) _ hg
   ·exact hs _ (by decide) (by decide) _ hm1
  ·rcases hx with rfl|rfl|rfl
   ·exact hs _ (by decide) (by decide) _ hm1
   ·exact hs _ (by decide) (by decide) _ hg
   ·exact hs _ (by decide) (by decide) _ hm2
  ·rcases hx with rfl|rfl
   ·exact hs _ (by decide) (by decide) _ hm1
   ·exact hs _ (by decide) (by decide) _ hm2
 rintro _ _ ⟨⟨rs,rfl,hr1,hr2⟩,rfl⟩;refine ba (λΔ' M'=>(∃rs:List Row,Δ'=[some (.lst (xs.map D.int)),some (.lst (ws.map D.str)),some (aF (g,0)),some (.str m1),some (.str m2),some (.lst (rs.map aO))]/\rs.length=6/\∀r∈rs,ui ws r)/\M=M') (λnx k'=>?_) ?_
 ·walk_at"";refine⟨_,e4,?_⟩;walk_at"";obtain⟨ys,ey,hy⟩:=hN.cut 1 (2+(x4 % 3).toNat) (by lia) (by lia);rw[show 2+x4 % 3=((2+(x4 % 3).toNat:Nat):Int)by lia,show L2.c8 (xs.map D.int) (some 1) (some ((2+(x4 % 3).toNat:Nat):Int))=ys.map D.int from ey];refine λhz=>⟨hz,vX hw hwl (λy h=>(hy.2 y h).1) λr h1 h2=>?_⟩;refine⟨sz3 1,_,if_pos (by rw[u8,hr1];exact sz3 6),k' _ _ ⟨⟨rs++[r],by simp[aO],by simp[hr1],λs hs=>?_⟩,rfl⟩⟩;rcases K1.mp hs with h|h
  ·exact hr2 s h
  ·rw[K0.mp h];exact⟨by rw[h1,hy.1];lia,h2⟩
 rintro _ _ ⟨⟨rs,rfl,hr1,hr2⟩,rfl⟩;refine ba (λΔ' M'=>(∃rs:List Row,Δ'=[some (.lst (xs.map D.int)),some (.lst (ws.map D.str)),some (aF (g,0)),some (.str m1),some (.str m2),some (.lst (rs.map aO))]/\rs.length=8/\∀r∈rs,ui ws r)/\M=M') (λnx k'=>?_) ?_
 ·walk_at"";obtain⟨ys,ey,hy⟩:=hN.cut 1 5 (by lia) (by lia);rw[show L2.c8 (xs.map D.int) (some 1) (some 5)=ys.map D.int from ey];refine λhz=>⟨hz,vX hw hwl (λy h=>(hy.2 y h).1) λr h1 h2=>?_⟩;refine⟨sz3 0,sz3 2,_,if_pos (by rw[u8,hr1];exact sz3 8),k' _ _ ⟨⟨rs++[r,[]],by simp[aO],by simp[hr1],λs hs=>?_⟩,rfl⟩⟩;rcases K1.mp hs with h|h
  ·exact hr2 s h
  ·simp only[L5,P0,or_false]at h;rcases h with rfl|rfl
   ·exact⟨by rw[h1,hy.1];lia,h2⟩
   ·exact⟨by simp,λ_ h=>by cases h⟩
 rintro _ _ ⟨⟨rs,rfl,hr1,hr2⟩,rfl⟩;walk_at"";refine⟨_,e0,?_⟩;walk_at"";obtain⟨d,hd,e⟩:=gc (l:=rs.map aO) (v:=x0 % 8) (by lia) (by rw[u8,hr1];lia);obtain⟨r,hr,rfl⟩:=N7.mp hd;exact⟨_,e,k r (hr2 r hr)⟩
def tY(ord:List (Str×Str))(au:Str)(ak:List (Str×List Row)):Prop:=ja ord au ak/\ak.length<=4/\∀e∈ak,e.2.length<=2/\∀r∈e.2,r.length<=4
def lF:SpD:=λds M R=>∃(ns:List Int) (j:Nat),ds=[.scr (ns.map D.int),.int j]/\∀ord au ak,tY ord au ak->R (bJ ord au ak) M
theorem zJ{ks:List Row}{r:Row}:((ks.map aO).any λd=>eqD d (aO r))=decide (r∈ks):=by
 rw[Q4,ao9,V2,decide_eq_true_eq];constructor
 ·rintro⟨e,he,h⟩;have:e=r:=by simpa[zM]using h
  rw[<-this];exact he
 ·intro h;exact⟨r,h,by simp[zM]⟩
theorem Ao{ws:List Str}(hW:∀w∈ws,bG w){r:Row}(h:ui ws r):rJ r:=⟨by have:=h.1;lia,λx hx=>⟨hW _ (h.2 x hx).1,by have:=(h.2 x hx).2;lia,by have:=(h.2 x hx).2;lia⟩⟩
theorem qk(F:Fun K "_law_lexicon" "_law_lexicon" iy f fd)(T:Txt mg)(Y8:FnD P w K mg base "_law_numbers" 1 3 gV)(gc1:FnD P w K mg base "_law_names" 1 1 pk)(gd3:FnD P w K mg base "_law_order" 1 2 pq)(Y9:FnD P w K mg base "_law_kind" 2 2 sh):aV P w K mg base CX0 3 f fd ["_law_script","_law_k"] (spD K 2 lF):=by
 have nd:=jZ.nd;refine F.okR rfl jZ (λcdv A outer s H E hr=>⟨_,(ai (ax (i:=2) nd rfl (L9 rfl) (qd Y8 hr (aa (ae 0) (aa (ae 1) (aa ah ag)))))
   (ai (ax (i:=3) nd rfl (L9 rfl) (qd gc1 hr (aa (bu (ae 2) cx (bf (az aI ah (az bH (aC aD (ae 2) ah (λ_ _=>rfl)) ah)))) ag)))
   (ai (ax (i:=4) nd rfl (L9 rfl) (qd gd3 hr (aa (bu (ae 2) (bf ah) (bf ah)) (aa (ae 3) ag))))
   (ai (ax (i:=5) nd rfl (L9 rfl) (qd gc1 hr (aa (bu (ae 2) (bf ah) (bf (az aI ah (az bH (aC aD (ae 2) ah (λ_ _=>rfl)) ah)))) ag)))
   (ai (ax (i:=6) nd rfl (L9 rfl) (dI ag))
   (ai (ax (i:=7) nd rfl (L9 rfl) ah)
   (ai (cE N3 rfl (aM (ae 5)) (aZ (i:=8) nd rfl (L9 rfl)) (ai (ax (i:=9) nd rfl (L9 rfl) (dI ag))
   (ai (cE N3 rfl (dX rfl T.b_range (aa (az aI ah (az bH (aC aD (ae 2) (ae 7) (λ_ _=>rfl)) ah)) ag)) (aZ (i:=10) nd rfl (L9 rfl)) (ai (ax (i:=11) nd rfl (L9 rfl) (qd Y9 hr (aa (bu (ae 2) (bf (az aI (az aI (ae 7) ah) (az gb ah (ae 10)))) (bf (az aI (az aI (ae 7) ah) (az gb ah (ae 10))))) (aa (ae 3) ag))))
   (am (bh (aR (zA hr.units) (ae 11) (ae 9) rfl) (am (dJ (gy (ae 9) (ae 11)))) aK))))
   (ai (dJ (gy (ae 6) (aJ (aa (ae 8) (aa (bC dq rfl T.b_tuple (by kernel_rfl) (aa (ae 9) ag)) ag)))))
   (am (ax (i:=7) nd rfl (L9 rfl) (az aI (ae 7) ah)))))))
   (am (lu (aJ (aa (ae 4) (aa (aC aD (ae 3) ah (λ_ _=>rfl)) (aa (bC dq rfl T.b_tuple (by kernel_rfl) (aa (ae 6) ag)) ag))))))))))))),λds M R _ hS bk=>?_⟩)
 obtain⟨ns,j,rfl,k⟩:=hS;refine bk ?_;clear bk;refine ba (λΔ' M'=>(∃xs,jL 64 xs/\Δ'=[some (.scr (ns.map D.int)),some (.int j),some (.lst (xs.map D.int)),none,none,none,none,none,none,none,none,none])/\M=M') (λnx k'=>?_) ?_
 ·walk_at"";exact⟨ns,j,64,rfl,by lia,λxs hx=>k' _ _ ⟨⟨xs,hx,rfl⟩,rfl⟩⟩
 rintro _ _ ⟨⟨xs,hx,rfl⟩,rfl⟩;refine ba (λΔ' M'=>(∃ws:List Str,ws≠[]/\ws.length<=8/\(∀w∈ws,bG w)/\Δ'=[some (.scr (ns.map D.int)),some (.int j),some (.lst (xs.map D.int)),some (.lst (ws.map D.str)),none,none,none,none,none,none,none,none])/\M=M') (λnx k'=>?_) ?_
 ·obtain⟨x4,e4,b0,b1⟩:=hx.at 4 (by lia);walk_at"";refine⟨_,e4,?_⟩;walk_at"";rw[show 1+x4 % 4=(((1+x4 % 4).toNat:Nat):Int)by lia,qj,<-List.map_take];refine⟨_,rfl,by simp;lia,λx hx'=>(hx.2 x (aa4 hx')).1,λws hw hW _=>k' _ _ ⟨⟨ws,?_,?_,hW,rfl⟩,rfl⟩⟩
  ·rintro rfl;rw[N2,hx.1]at hw;simp at hw;lia
  ·rw[hw];simp;lia
 rintro _ _ ⟨⟨ws,hw,hwl,hW,rfl⟩,rfl⟩;have hwp:=S5.mpr hw;refine ba (λΔ' M'=>(∃o:List (Str×Str),vM o/\Δ'=[some (.scr (ns.map D.int)),some (.int j),some (.lst (xs.map D.int)),some (.lst (ws.map D.str)),some (.tup (o.map aQ)),none,none,none,none,none,none,none])/\M=M') (λnx k'=>?_) ?_
 ·walk_at"";obtain⟨ys,ey,hy⟩:=hx.cut 5 12 (by lia) (by lia);refine⟨ys,ws,by rw[show L2.c8 (xs.map D.int) (some 5) (some 12)=ys.map D.int from ey],hy,hw,hwl,λo h1 h2=>k' _ _ ⟨⟨o,⟨by lia,λx hx=>⟨hW _ (h2 x hx).1,hW _ (h2 x hx).2⟩⟩,rfl⟩,rfl⟩⟩
 rintro _ _ ⟨⟨o,ho,rfl⟩,rfl⟩;refine ba (λΔ' M'=>(∃vs:List Str,1<=vs.length/\vs.length<=4/\(∀w∈vs,bG w)/\vs.Nodup/\Δ'=[some (.scr (ns.map D.int)),some (.int j),some (.lst (xs.map D.int)),some (.lst (ws.map D.str)),some (.tup (o.map aQ)),some (.lst (vs.map D.str)),none,none,none,none,none,none])/\M=M') (λnx k'=>?_) ?_
 ·obtain⟨x12,e12,b0,b1⟩:=hx.at 12 (by lia);walk_at"";refine⟨_,e12,?_⟩;walk_at"";obtain⟨ys,ey,hy⟩:=hx.cut 13 (14+(x12 % 4).toNat) (by lia) (by lia);rw[show 14+x12 % 4=((14+(x12 % 4).toNat:Nat):Int)by lia,show L2.c8 (xs.map D.int) (some 13) (some ((14+(x12 % 4).toNat:Nat):Int))=ys.map D.int from ey];exact⟨ys,rfl,by rw[hy.1];lia,λx h=>(hy.2 x h).1,λvs hv hV hn=>k' _ _ ⟨⟨vs,by rw[hv,hy.1];lia,by rw[hv,hy.1];lia,hV,hn,rfl⟩,rfl⟩⟩
 rintro _ _ ⟨⟨vs,hv1,hv4,hV,hvn,rfl⟩,rfl⟩;walk_at"";refine⟨sz3 0,λp hp hz=>?_⟩;refine aP (λi Δ M'=>∃(ak:List (Str×List Row)) (x8 x9 x10 x11:Option D),Δ=[some (.scr (ns.map D.int)),some (.int j),some (.lst (xs.map D.int)),some (.lst (ws.map D.str)),some (.tup (o.map aQ)),some (.lst (vs.map D.str)),some (.ref p),some (.int (18+11*(i:Int))),x8,x9,x10,x11]/\M' p=some (.lst (ak.map iY))/\LeM M M'/\ak.map (·.1)=vs.take i/\∀e∈ak,(1<=e.2.length/\e.2.length<=2)/\e.2.Nodup/\∀r∈e.2,ui ws r) ⟨[],none,none,none,none,rfl,aE,mv hp,rfl,(λ_ h=>by cases h)⟩ ?_ ?_
 ·rintro i d Δ M' X hd ⟨ak,x8,x9,x10,x11,rfl,hMp,hle,hnm,hE⟩ k';obtain⟨v,hv,rfl⟩:=dZ hd;have hi:i<vs.length:=(K3.mp hv).1;obtain⟨xa,ea,g0,g1⟩:=hx.at (18+11*i) (by lia);have eat:(18:Int)+11*(i:Int)=((18+11*i:Nat):Int):=by lia
  refine⟨_,rfl,?_⟩;walk_at"";refine⟨sz3 0,λq hq=>?_⟩;have hpq:p≠q:=by rintro rfl;rw[hMp]at hq;cases hq
  rw[eat];refine⟨_,ea,?_⟩;walk_at"";refine⟨by lia,by lia,?_⟩;refine aP (λt Δ M2=>∃(ks:List Row) (x10 x11:Option D),Δ=[some (.scr (ns.map D.int)),some (.int j),some (.lst (xs.map D.int)),some (.lst (ws.map D.str)),some (.tup (o.map aQ)),some (.lst (vs.map D.str)),some (.ref p),some (.int ((18+11*i:Nat):Int)),some (.str v),some (.ref q),x10,x11]/\M2=aT M' q (.lst (ks.map aO))/\ks.length<=t/\(0<t->1<=ks.length)/\ks.Nodup/\∀r∈ks,ui ws r) ⟨[],x10,x11,rfl,rfl,J6 _,(λh=>absurd h (by lia)),List.nodup_nil,(λ_ h=>by cases h)⟩ ?_ ?_
  ·rintro t d Δ M2 X2 hd2 ⟨ks,x10,x11,rfl,rfl,hk1,hk2,hkn,hkr⟩ k2;obtain⟨ht,rfl⟩:=b7 hd2;refine⟨_,rfl,?_⟩;walk_at"";obtain⟨ys,ey,hy⟩:=hx.cut (18+11*i+1+5*t) (18+11*i+6+5*t) (by lia) (by lia);rw[show((18+11*i:Nat):Int)+1+5*(0+(t:Int))=((18+11*i+1+5*t:Nat):Int)by lia,show((18+11*i:Nat):Int)+6+5*(0+(t:Int))=((18+11*i+6+5*t:Nat):Int)by lia,ey];refine⟨ys,ws,rfl,by rw[show(5:Nat)=18+11*i+6+5*t-(18+11*i+1+5*t)by lia];exact hy,hw,hwl,λr hr=>?_⟩;have hln:(ks.map aO).length<J7:=by rw[u8];exact K5 (by lia:ks.length<1000) (sz3 1000)
   refine⟨_,(show nh (aO r) (rdM (aT M' q (.lst (ks.map aO))) (.ref q))=_ by rw[fY aE,zj,if_pos ⟨rz r,dA aO rz⟩,zJ]),_,rfl,bc (λh=>⟨_,aE,_,aE,hln,?_⟩) (λh=>?_)⟩
   ·have hni:r∉ks:=by simpa using h
    rw[ir];refine k2 _ _ ⟨ks++[r],_,_,rfl,by simp,by simp;lia,λ_=>by simp,?_,λs hs=>?_⟩
    ·rw[aa8];refine⟨hkn,by simp,λu hu v hv=>?_⟩;rw[K0.mp hv];rintro rfl;exact hni hu
    ·rcases K1.mp hs with h|h
     ·exact hkr s h
     ·rw[K0.mp h];exact hr
   ·have hin:r∈ks:=by simpa using h
    exact k2 _ _ ⟨ks,_,_,rfl,rfl,by lia,λ_=>S5.mpr (List.ne_nil_of_mem hin),hkn,hkr⟩
  ·rintro Δ M2 ⟨ks,x10,x11,rfl,rfl,hk1,hk2,hkn,hkr⟩;rw[cn]at hk1 hk2;walk_at"";have hen:ak.length<=4:=by
    have:=congrArg T6 hnm;rw[u8,N2]at this
    lia
   refine⟨_,by rw[aA hpq];exact hMp,sz3 2,_,by rw[aA hpq];exact hMp,by rw[u8];exact K5 (by lia:ak.length<1000) (sz3 1000),k' _ _ ⟨ak++[(v,ks)],some (.str v),some (.ref q),x10,x11,?_,?_,?_,?_,λe he=>?_⟩⟩
   ·rw[show((18+11*i:Nat):Int)+11=18+11*((i+1:Nat):Int)by lia]
   ·rw[aE,O1];rfl
   ·intro c u hc;have h1:=hle c u hc;have hcq:c≠q:=by rintro rfl;rw[hq]at h1;cases h1
    have hcp:c≠p:=by rintro rfl;rw[hp]at hc;cases hc
    rw[aA hcp,aA hcq];exact h1
   ·rw[O1,hnm,S8,hv];rfl
   ·rcases K1.mp he with h|h
    ·exact hE e h
    ·rw[K0.mp h];exact⟨⟨hk2 (by lia),by simp only;lia⟩,hkn,hkr⟩
 ·rintro Δ M' ⟨ak,x8,x9,x10,x11,rfl,hMp,hle,hnm,hE⟩;rw[u8,W5]at hnm;walk_at"";obtain⟨g,hg,f0⟩:=dG (fF:=ws) (v:=0) (by lia) (by lia);have hel:ak.length=vs.length:=by have:=congrArg T6 hnm;rwa [u8]at this
  refine⟨_,f0,_,by rw[fY hMp];rfl,sz3 3,M,hle,k o g ak ⟨⟨ho,hW g hg,⟨by lia,by lia,by rw[hnm];exact hvn,λe he=>⟨?_,(hE e he).1.1,by have:=(hE e he).1.2;lia,(hE e he).2.1,λr hr=>Ao hW ((hE e he).2.2 r hr)⟩⟩,by lia⟩,by lia,λe he=>⟨(hE e he).1.2,λr hr=>((hE e he).2.2 r hr).1⟩⟩⟩;have:e.1∈vs:=by rw[<-hnm];exact N7.mpr ⟨e,he,rfl⟩
  exact hV _ this
def pQ:SpD:=λds M R=>∃(xs:List Int) (ord:List (Str×Str)) (au:Str) (ak:List (Str×List Row)),ds=[.lst (xs.map D.int),bJ ord au ak,.int 4]/\jL 6 xs/\tY ord au ak/\∀ws:List Str,ws.length<=4->(∀w∈ws,w∈ak.map (·.1))->R (.tup (ws.map D.str)) M
theorem uS(F:Fun K "_law_words" "_law_words" fC f fd)(T:Txt mg):aV P w K mg base CX0 1 f fd ["_law_numbers_here","_law_lexicon_here","_law_most"] (spD K 3 pQ):=by
 have nd:=mX.nd;refine F.okR rfl mX (λcdv A outer s H E hr=>⟨_,(ai (ax (i:=3) nd rfl (ak7 rfl) (eW (ms:=[false,false,false,false]) (ar:=["_law_entry"]) (aH rfl (show aS (aj fC) fJ _ _=true from by decide +kernel)) rfl (aM (aC aD (ae 1) ah (λ_ _=>rfl))) (aG (i:=4) (show(fJ++_).Nodup from by decide +kernel) rfl rfl) (λ_ _ _ _=>bo) (λ_ _ _ _=>(aC aD (ae 4) ah (λ_ _=>rfl)))))
   (am (aB (bC dq rfl T.b_tuple (by kernel_rfl) (aa (eW (ms:=[false,false,false,true]) (ar:=["_law_number_here"]) (aH rfl (show aS (aj fC) fJ _ _=true from by decide +kernel)) rfl (aM (bu (ae 0) (bf ah) (bf (az aI ah (az bH (aC aD (ae 0) ah (λ_ _=>rfl)) (az aI (ae 2) ah)))))) (aG (i:=4) (show(fJ++_).Nodup from by decide +kernel) rfl rfl) (λ_ _ _ _=>bo) (λ_ _ _ _=>(aC aD (ae 3) (az bH (ae 4) (av aY rfl T.b_len (by kernel_rfl) (aa (ae 3) ag))) (λ_ _=>rfl)))) ag))))),λds M R _ hS bk=>?_⟩)
 obtain⟨xs,ord,au,ak,rfl,hN,hL,k⟩:=hS;have h1:=hL.1.2.2.1.1;obtain⟨x0,e0,a0,a1⟩:=hN.at 0 (by lia);refine bk ?_;clear bk;simp only[bJ];walk_at"";refine λhz=>⟨hz,?_⟩;refine bw iY (λ_=>true) (λe=>D.str e.1) (λΔ=>∃x,Δ=[none,none,none,none,x]) ak _ _ (λe he Δ hΔ=>?_) ⟨none,rfl⟩ ?_
 ·obtain⟨x,rfl⟩:=hΔ;refine⟨_,rfl,⟨_,rfl⟩,λQ1 q=>q,λ_ Q2 q=>?_⟩;simp only[iY];walk_at"";exact q
 rw[N5,O5.mpr (λ_ _=>rfl)];refine⟨_,e0,?_⟩;walk_at"";obtain⟨ys,ey,hy⟩:=hN.cut 1 (1+(x0 % 5).toNat) (by lia) (by lia);rw[show 1+x0 % 5=((1+(x0 % 5).toNat:Nat):Int)by lia,show L2.c8 (xs.map D.int) (some 1) (some ((1+(x0 % 5).toNat:Nat):Int))=ys.map D.int from ey];refine λhz2=>⟨hz2,?_⟩;refine nv (λj acc Δ M'=>∃(z:Option D) (ws:List Str),Δ=[none,none,none,some (.lst (ak.map λe=>D.str e.1)),z]/\M=M'/\acc=ws.map D.str/\ws.length=j/\∀w∈ws,w∈ak.map (·.1)) ⟨none,[],rfl,rfl,rfl,rfl,(λ_ h=>by cases h)⟩ ?_ ?_
 ·rintro j d acc Δ M' X2 hd2 ⟨z,ws,rfl,rfl,rfl,hnl,hro⟩ k2;obtain⟨y,hy',rfl⟩:=dZ hd2;refine⟨_,rfl,?_⟩;simp only[sE];walk_at"";rw[u8];have e1:(ak.map λe=>D.str e.1)=(ak.map (·.1)).map D.str:=by rw[Q7];rfl
  obtain⟨m,hm,f1⟩:=dG (fF:=ak.map (·.1)) (v:=y % ak.length) (T7 _ (by lia)) (by rw[u8];exact S1 _ (by lia));refine⟨_,if_pos (by lia),_,by rw[e1];exact f1,k2 _ _ _ ⟨_,ws++[m],rfl,rfl,by simp,by simp[hnl],λy hy'=>?_⟩⟩;rcases K1.mp hy' with h|h
  ·exact hro y h
  ·rw[K0.mp h];exact hm
 ·rintro acc Δ M' ⟨z,ws,rfl,rfl,rfl,hnl,hro⟩;rw[u8,hy.1]at hnl;exact k ws (by lia) hro
def wK(ak:List (Str×List Row)):List (Key×D):=ak.map λe=>(.inr e.1,aU e.2)
theorem vg:∀{ak:List (Str×List Row)},uA (ak.map iY)=some (wK ak)
 |[]=>rfl
 |e::l=>by
  rw[K2,iY];simp only[uA,vg (ak:=l),Option.map_some];rfl
theorem wZ{ak:List (Str×List Row)}(h:(ak.map (·.1)).Nodup):sG (.tup (ak.map iY))=some (sM (wK ak)):=by
 refine Bb vg ?_;unfold wK;rw[Q7];have:((λx:Key×D=>x.1)∘λe:Str×List Row=>((.inr e.1:Key),aU e.2))=(λx:Str=>(ah6 x:Key))∘λe:Str×List Row=>e.1:=rfl;rw[this,<-Q7];unfold List.Nodup at h ⊢;rw[aj7];exact an8.imp (λhab e=>hab (ah6.inj e)) h
theorem rQ{w:Str}:∀{ak:List (Str×List Row)},w∈ak.map (·.1)->oF (wK ak) (.inr w)=some (aU (kin ak w))
 |[],h=>by cases h
 |e::l,h=>by
  unfold wK kin;rw[K2,P6]
  by_cases c:e.1=w
  ·rw[si (by rw[c]),show(w==e.1)=true by simp[c]];rfl
  ·rw[sF (λz=>c (ah6.inj z)),show(w==e.1)=false by simpa using λq:w=e.1=>c q.symm];rw[K2]at h;exact rQ ((L5.mp h).resolve_left λz=>c z.symm)
def lw:SpD:=λds M R=>∃(ord:List (Str×Str)) (au:Str) (ak:List (Str×List Row)) (ws:List Str),ds=[bJ ord au ak,.tup (ws.map D.str)]/\tY ord au ak/\l5 ak ws/\R (dO (kit ak ws++[wsh au])) M
theorem uz(F:Fun K "_law_kinds" "_law_kinds" iK f fd)(T:Txt mg):aV P w K mg base CX0 1 f fd ["_law_lexicon_here","_law_words_here"] (spD K 2 lw):=by
 have nd:=mW.nd;refine F.okR rfl mW (λcdv A outer s H E hr=>⟨_,(ai (ax (i:=2) nd rfl (ak7 rfl) (bC (Ed rfl) rfl T.b_dict (by kernel_rfl) (aa (aC aD (ae 0) ah (λ_ _=>rfl)) ag)))
   (am (aB (az aI (eW (ms:=[false,false,true]) (ar:=["_law_word"]) (aH rfl (show aS (aj iK) k7 _ _=true from by decide +kernel)) rfl (aM (ae 1)) (aG (i:=3) (show(k7++_).Nodup from by decide +kernel) rfl rfl) (λ_ _ _ _=>bo) (λ_ _ _ _=>(Ex hr.units1 (ae 2) (ae 3) (λ_ _=>rfl)))) (df (aa (aJ (aa (aJ (aa (aJ (aa (aC aD (ae 0) ah (λ_ _=>rfl)) (aa ah ag))) ag)) ag)) ag)))))),λds M R _ hS bk=>?_⟩)
 obtain⟨ord,au,ak,ws,rfl,hL,hw,k⟩:=hS;have hl:=hw.1;refine bk ?_;clear bk;simp only[bJ];walk_at"";refine⟨_,wZ hL.1.2.2.1.2.2.1,λhz=>⟨hz,?_⟩⟩;refine bw D.str (λ_=>true) (λw=>aU (kin ak w)) (λΔ=>∃y,Δ=[none,none,some (sM (wK ak)),y]) ws _ _ (λw hm Δ hΔ=>?_) ⟨none,rfl⟩ ?_
 ·obtain⟨y,rfl⟩:=hΔ;refine⟨_,rfl,⟨_,rfl⟩,λQ1 q=>q,λ_ Q2 q=>?_⟩;walk_at"";exact⟨_,yz,_,rQ (hw.2 w hm),q⟩
 ·rw[N5,O5.mpr (λ_ _=>rfl)];unfold dO kit at k;rw[O1,Q7]at k;exact⟨sz3 2,sz3 1,sz3 1,sz3 1,_,if_pos (by rw[u8];exact sz3 _ (by lia)),k⟩
def chD(c:List Nat):D:=.tup (c.map bt)
def Kt(ks:List (List Row)):Prop:=ks.length<=4/\∀k∈ks,1<=k.length/\k.length<=2/\∀r∈k,r.length<=4
theorem BW{ak:List (Str×List Row)}{w:Str}(h:w∈ak.map (·.1)):∃e∈ak,kin ak w=e.2:=by
 induction ak with
 |nil=>cases h
 |cons a l ih =>
  unfold kin;rw[P6]
  by_cases c:a.1=w
  ·exact⟨a,.head _,by rw[show(w==a.1)=true by simp[c]];rfl⟩
  ·rw[K2]at h;obtain⟨e,he,q⟩:=ih ((L5.mp h).resolve_left λz=>c z.symm);refine⟨e,.tail _ he,?_⟩;rw[show(w==a.1)=false by simpa using λq:w=a.1=>c q.symm];exact q
theorem B4{ord:List (Str×Str)}{au:Str}{ak:List (Str×List Row)}{ws:List Str}(hL:tY ord au ak)(h4:ws.length<=4)(hw:∀w∈ws,w∈ak.map (·.1)):Kt (kit ak ws):=by
 refine⟨by unfold kit;rw[u8];exact h4,λk hk=>?_⟩;unfold kit at hk;obtain⟨w,hm,rfl⟩:=N7.mp hk;obtain⟨e,he,q⟩:=BW (hw w hm);rw[q];exact⟨(hL.1.2.2.1.2.2.2 e he).2.1,(hL.2.2 e he).1,(hL.2.2 e he).2⟩
theorem Kt.ok{ks:List (List Row)}(h:Kt ks):r8 ks:=⟨h.1,λk hk r hr=>by have:=(h.2 k hk).2.2 r hr;lia⟩
theorem Kt.sum:∀{ks:List (List Row)},(∀k∈ks,1<=k.length/\k.length<=2/\∀r∈k,r.length<=4)->(ks.flatMap λk=>k.map T6).sum<=8*ks.length/\(ks.flatMap λk=>k.map T6).length<=2*ks.length
 |[],_=>⟨J6 _,J6 _⟩
 |k::ks,h=>by
  have ih:=Kt.sum (ks:=ks) λk' hk=>h k' (.tail _ hk);obtain⟨h1,h2,h3⟩:=h k (.head _);have hs:∀l:List Row,(∀r∈l,r.length<=4)->(l.map T6).sum<=4*l.length:=λl hl=>by
   induction l with
   |nil=>exact J6 _
   |cons r l ih2 =>
    have:=ih2 λr' hr=>hl r' (.tail _ hr);have:=hl r (.head _);simp only[K2,List.sum_cons,O3];lia
  have:=hs k h3;simp only[Z1,List.sum_append,J9,u8,O3]
  lia
def lM:SpD:=λds M R=>∃(ks:List (List Row)) (au:Str),ds=[dO (ks++[wsh au])]/\Kt ks/\∀css:List (List Nat),css≠[]->css.length<=16->(∀cs∈css,Cho ks cs)->R (.lst (css.map chD)) M
theorem qg(F:Fun K "_law_choices" "_law_choices" eX f fd)(T:Txt mg):aV P w K mg base CX0 1 f fd ["_law_kinds_here"] (spD K 1 lM):=by
 have nd:=kI.nd;refine F.okR rfl kI (λcdv A outer s H E hr=>⟨_,(ai (ax (i:=1) nd rfl (L9 rfl) (df (aa (aJ ag) ag)))
   (ai (cE N3 rfl (aM (bu (ae 0) cx (bf (l6 l7 ah)))) (aZ (i:=2) nd rfl (L9 rfl)) (ai (ax (i:=3) nd rfl (L9 rfl) (df ag))
   (ai (cE N3 rfl (aM (ae 1)) (aZ (i:=4) nd rfl (ak7 rfl)) (am (ax (i:=3) nd rfl (L9 rfl) (az aI (ae 3) (eW (ms:=[false,false,false,false,true]) (ar:=["_law_k"]) (aH rfl (show aS (aj eX) iw _ _=true from by decide +kernel)) rfl (dX rfl T.b_range (aa (av aY rfl T.b_len (by kernel_rfl) (aa (ae 2) ag)) ag)) (aG (i:=5) (show(iw++_).Nodup from by decide +kernel) rfl rfl) (λ_ _ _ _=>bo) (λ_ _ _ _=>(az aI (ae 4) (aJ (aa (ae 5) ag)))))))))
   (am (ax (i:=1) nd rfl (L9 rfl) (ae 3))))))
   (am (aB (ae 1))))),λds M R _ hS bk=>?_⟩)
 obtain⟨ks,au,rfl,hk,k⟩:=hS;have hl:=hk.1;refine bk ?_;clear bk;simp only[dO];walk_at"";rw[O1,show L2.c8 (ks.map aU++[wsh au].map aU) none (some (-1))=ks.map aU from sN];refine⟨sz3 0,sz3 1,λhz=>?_⟩;refine aP (λi Δ M'=>∃(css:List (List Nat)) (x2 x3 x4:Option D),Δ=[some (D.lst (ks.map aU++[wsh au].map aU)),some (.lst (css.map chD)),x2,x3,x4]/\M=M'/\css≠[]/\css.length<=2 ^ i/\∀cs∈css,Cho (ks.take i) cs) ⟨[[]],_,_,_,rfl,rfl,by simp,by simp,λcs hcs=>?_⟩ ?_ ?_
 ·rw[K0.mp hcs];exact⟨rfl,λp hp=>by cases hp⟩
 ·rintro i d Δ M' X hd ⟨css,x2,x3,x4,rfl,rfl,hne,hcl,hC⟩ k';obtain⟨kd,hkd,rfl⟩:=dZ hd;have hi:i<ks.length:=(K3.mp hkd).1;obtain⟨hk1,hk2,_⟩:=hk.2 kd (M9 hkd);have h16:2 ^ i<=8:=by
   have:i<=3:=by lia
   exact R6 (Nat.pow_le_pow_right (by lia) this) (by decide)
  refine⟨_,rfl,?_⟩;walk_at"";refine⟨sz3 0,λ_=>?_⟩;refine aP (λj Δ M2=>∃(ls:List (List Nat)) (x4:Option D),Δ=[some (D.lst (ks.map aU++[wsh au].map aU)),some (.lst (css.map chD)),some (aU kd),some (.lst (ls.map chD)),x4]/\M=M2/\ls.length<=2*j/\(0<j->ls≠[])/\∀cs∈ls,Cho (ks.take (i+1)) cs) ⟨[],_,rfl,rfl,J6 _,(λh=>absurd h (by lia)),(λ_ h=>by cases h)⟩ ?_ ?_
  ·rintro j d Δ M2 X2 hd2 ⟨ls,x4,rfl,rfl,hll,hln,hL⟩ k2;obtain⟨cs,hcs,rfl⟩:=dZ hd2;have hj:j<css.length:=(K3.mp hcs).1;have hcho:=hC cs (M9 hcs);refine⟨_,rfl,?_⟩;simp only[aU];walk_at"";rw[u8,V6];refine⟨by lia,by lia,by rw[cn];exact sz3 _ (by lia),?_⟩;refine nv (λt acc Δ M3=>∃(z:Option D) (ms:List (List Nat)),Δ=[none,none,none,none,some (chD cs),z]/\M=M3/\acc=ms.map chD/\ms.length=t/\∀cs∈ms,Cho (ks.take (i+1)) cs) ⟨none,[],rfl,rfl,rfl,rfl,(λ_ h=>by cases h)⟩ ?_ ?_
   ·rintro t d acc Δ M3 X3 hd3 ⟨z,ms,rfl,rfl,rfl,hml,hm⟩ k3;obtain⟨ht,rfl⟩:=b7 hd3;refine⟨_,rfl,?_⟩;simp only[sE,chD];walk_at"";refine⟨sz3 1,_,if_pos (by rw[u8,hcho.1,N2];exact sz3 _ (by lia)),k3 _ _ _ ⟨_,ms++[cs++[t]],rfl,rfl,?_,by simp[hml],λc hc=>?_⟩⟩
    ·simp[chD,bt]
    ·rcases K1.mp hc with h|h
     ·exact hm c h
     ·rw[K0.mp h];have e1:ks.take (i+1)=ks.take i++[kd]:=by rw[S8,hkd];rfl
      refine⟨by rw[e1,J9,J9,hcho.1];rfl,λp hp=>?_⟩;rw[e1,am5 hcho.1]at hp;rcases K1.mp hp with h|h
      ·exact hcho.2 p h
      ·obtain rfl:p=(t,kd):=by simpa using h
       simpa using ht
   ·rintro acc Δ M3 ⟨z,ms,rfl,rfl,rfl,hml,hm⟩;rw[cn]at hml;refine⟨_,if_pos (by rw[u8,u8];exact sz3 _ (by lia)),k2 _ _ ⟨ls++ms,some (chD cs),by simp[aU],rfl,by simp;lia,λ_=>?_,λc hc=>?_⟩⟩
    ·intro z;have:=congrArg T6 z;rw[J9,Z7]at this
     lia
    ·rcases K1.mp hc with h|h
     ·exact hL c h
     ·exact hm c h
  ·rintro Δ M2 ⟨ls,x4,rfl,rfl,hll,hln,hL⟩;rw[u8]at hll hln;walk_at"";refine k' _ _ ⟨ls,_,_,_,rfl,rfl,hln (S5.mpr hne),by rw[ai5];lia,hL⟩
 ·rintro Δ M' ⟨css,x2,x3,x4,rfl,rfl,hne,hcl,hC⟩;rw[u8]at hcl hC;rw[W5]at hC;walk_at"";exact k css hne (R6 hcl (R6 (Nat.pow_le_pow_right (by lia) hl) (by decide))) hC
theorem An{xs:List D}{x:D}:atI (xs++[x]) (-1)=some x:=by
 have e:ixN (xs++[x]).length (-1)=some xs.length:=by
  unfold ixN;rw[if_neg (by decide),if_pos (by rw[J9];simp;lia)];simp;lia
 unfold atI;rw[e];simp
theorem uc{ks:List (List Row)}{cs:List Nat}{i:Nat}{k:List Row}{c:Nat}(h1:ks[i]?=some k)(h2:cs[i]?=some c):cH (ks.take (i+1)) (cs.take (i+1))=cH (ks.take i) (cs.take i)++k.getD c []:=by
 have e1:ks.take (i+1)=ks.take i++[k]:=by rw[S8,h1];rfl
 have e2:cs.take (i+1)=cs.take i++[c]:=by rw[S8,h2];rfl
 have l1:=(K3.mp h1).1;have l2:=(K3.mp h2).1;unfold cH;rw[e1,e2,am5 (by rw[N2,N2];lia),List.flatMap_append];simp
def iQ:SpD:=λds M R=>∃(ks:List (List Row)) (au:Str) (cs:List Nat),ds=[dO (ks++[wsh au]),chD cs]/\Kt ks/\Cho ks cs/\R (aO (cH ks cs++[(au,1)])) M
theorem uD(F:Fun K "_law_signs" "_law_signs" k4 f fd)(T:Txt mg):aV P w K mg base CX0 1 f fd ["_law_kinds_here","_law_choice"] (spD K 2 iQ):=by
 have nd:=nA.nd;refine F.okR rfl nA (λcdv A outer s H E hr=>⟨_,(ai (ax (i:=2) nd rfl (L9 rfl) (aJ ag))
   (ai (cE N3 rfl (dX rfl T.b_range (aa (av aY rfl T.b_len (by kernel_rfl) (aa (ae 1) ag)) ag)) (aZ (i:=3) nd rfl (L9 rfl)) (am (ax (i:=2) nd rfl (L9 rfl) (az aI (ae 2) (aC aD (aC aD (ae 0) (ae 3) (λ_ _=>rfl)) (aC aD (ae 1) (ae 3) (λ_ _=>rfl)) (λ_ _=>rfl))))))
   (am (aB (az aI (ae 2) (aC aD (aC aD (ae 0) (l6 l7 ah) (λ_ _=>rfl)) ah (λ_ _=>rfl))))))),λds M R _ hS bk=>?_⟩)
 obtain⟨ks,au,cs,rfl,hk,hc,k⟩:=hS;have hl:=hk.1;have hcl:=hc.1;refine bk ?_;clear bk;simp only[dO,chD];walk_at"";rw[u8,V6];refine⟨sz3 0,by lia,by lia,?_⟩;refine aP (λi Δ M'=>∃x3:Option D,Δ=[some (D.lst ((ks++[wsh au]).map aU)),some (D.tup (cs.map bt)),some (.tup ((cH (ks.take i) (cs.take i)).map aF)),x3]/\M=M') ⟨_,rfl,rfl⟩ ?_ ?_
 ·rintro i d Δ M' X hd ⟨x3,rfl,rfl⟩ k';obtain⟨hi,rfl⟩:=b7 hd;obtain⟨kd,hkd⟩:∃kd,ks[i]?=some kd:=⟨_,J1 (by lia)⟩;obtain⟨c,hcc⟩:∃c,cs[i]?=some c:=⟨_,J1 (by lia)⟩;have hck:c<kd.length:=by
   have:=hc.2 (c,kd) (M9 (i:=i) (by rw[List.getElem?_zip_eq_some];exact⟨hcc,hkd⟩));exact this
  have hrl:=et (ks:=ks.take i) (cs:=cs.take i) (λk hk' r hr=>by have:=(hk.2 k (aa4 hk')).2.2 r hr;lia);rw[N2]at hrl;have hr4:(kd.getD c []).length<=4:=by
   rw[N6,J1 hck];exact(hk.2 kd (M9 hkd)).2.2 _ (P7 hck)
  refine⟨_,rfl,?_⟩;walk_at"";rw[show(0:Int)+(i:Int)=(i:Int)by lia];refine⟨_,bA (v:=aU kd) (by rw[L8,P3 (by lia),hkd];rfl),_,bA (v:=bt c) (by rw[L8,hcc];rfl),aO (kd.getD c []),bA (xs:=kd.map aO) (by rw[L8,N6,J1 hck];rfl),?_⟩;refine⟨_,if_pos (by rw[u8,u8];exact sz3 _ (by lia)),k' _ _ ⟨some (.int (i:Int)),?_,rfl⟩⟩;rw[uc hkd hcc,O1 (f:=aF)]
 ·rintro Δ M' ⟨x3,rfl,rfl⟩;rw[cn];rw[show ks.take cs.length=ks by rw[hcl,W5],W5];have hrl:=et (ks:=ks) (cs:=cs) hk.ok.2;walk_at"";rw[O1,show atI (ks.map aU++[wsh au].map aU) (-1)=some (aU (wsh au))from An];refine⟨_,rfl,aO [(au,1)],rfl,_,if_pos (by rw[u8];exact sz3 _ (by simp;lia)),?_⟩;have e:D.tup ((cH ks cs).map aF++[(au,(1:Int))].map aF)=aO (cH ks cs++[(au,1)]):=by rw[aO,O1]
  rw[<-e]at k;exact k
def jw:SpD:=cG
theorem sx(F:Fun K "_law_number" "_law_number" jr f fd)(T:Txt mg):aV P w K mg base CX0 1 f fd ["_law_thing","_law_size_of"] (spD K 2 jw):=by
 have nd:=lS.nd;refine F.okR rfl lS (λcdv A outer s H E hr=>⟨_,(am (aB (bp (c9 (Tn:="int") (by decide) rfl T.b_isinstance rfl T.b_int (by kernel_rfl) (ae 0)) (bp (ym (c9 (Tn:="bool") (by decide) rfl T.b_isinstance rfl T.b_bool (by kernel_rfl) (ae 0))) (cf (iP j3 kE ah (ae 0) (ae 1))))))),λds M R _ hS bk=>?_⟩);obtain⟨d,n,rfl,hd,k⟩:=hS;refine bk ?_;clear bk;walk_at"";simp only[bZ hd];cases d with
 |int t =>
  refine⟨true,rfl,?_⟩;simp only[if_true];refine⟨false,rfl,?_⟩;simp only[plB]at k;rw[if_pos (by decide)];walk_at"";refine bc (λh=>?_) (λh=>?_)
  ·rw[decide_eq_true h,U5]at k;exact k
  ·rw[decide_eq_false h,S4]at k;exact k
 |bl b=>exact⟨true,rfl,by simp only[if_true];exact⟨true,rfl,k⟩⟩
 |scr _=>simp[ao]at hd
 |ref _=>simp[ao]at hd
 |box _ _=>simp[ao]at hd
 |_=>exact⟨false,rfl,by simp only[J5,if_false];exact k⟩
open Classical in
def dgB(o:List (Str×Str))(row:Row)(d:D):Bool:=decide (∃arcs,d=.tup (arcs.map stD)/\Drw o row arcs)
open Classical in
theorem FS{o:List (Str×Str)}{row:Row}{arcs:List (Nat×Nat)}(h:Drw o row arcs):dgB o row (.tup (arcs.map stD))=true:=by
 unfold dgB;exact decide_eq_true ⟨arcs,rfl,h⟩
open Classical in
theorem AH{o:List (Str×Str)}{row:Row}{d:D}(h:¬ ∃arcs,d=.tup (arcs.map stD)/\Drw o row arcs):dgB o row d=false:=by
 unfold dgB;exact decide_eq_false h
theorem F1{o:List (Str×Str)}{row:Row}{arcs:List (Nat×Nat)}(h:¬ Drw o row arcs):dgB o row (.tup (arcs.map stD))=false:=by
 refine AH ?_;rintro⟨arcs',e,h'⟩;have e':arcs.map stD=arcs'.map stD:=by simpa using e
 rw[<-fb vA e']at h';exact h h'
theorem oR:∀arcs:List (Nat×Nat),((arcs.map λa=>(a.1:Int))++(arcs.map λa=>(a.2:Int))).Perm (wf arcs)
 |[]=>.nil
 |a::l=>by
  have ih:=oR l;show((a.1:Int)::((l.map λa=>(a.1:Int))++((a.2:Int)::l.map λa=>(a.2:Int)))).Perm ((a.1:Int)::(a.2:Int)::wf l);exact(ak6.trans (ih.cons _)).cons _
theorem xk{arcs:List (Nat×Nat)}:ff ((arcs.map λa=>(a.1:Int))++(arcs.map λa=>(a.2:Int)))=ff (wf arcs) :=
 so ((mI _).trans (oR arcs)) (ri _)
def Dr(n:Nat)(o:List (Str×Str))(row:Row)(a:Nat×Nat):Prop:=(a.1<a.2/\a.2<n)/\cB o (sg row a.1) (sg row a.2)=true
def lO:SpD:=λds M R=>∃(o:List (Str×Str)) (row:Row) (d:D),ds=[.tup (o.map aQ),aO row,d]/\o.length<=500/\row.length<=24/\ao d=true/\(∀es,d=.tup es->es.length<=30)/\R (.bl (dgB o row d)) M
theorem qp(F:Fun K "_law_is_arcs" "_law_is_arcs" cu f fd)(T:Txt mg)(Y2:FnD P w K mg base "_law_cancel" 2 3 fS)(G6:FnD P w K mg base "_law_number" 1 2 jw):aV P w K mg base CX0 3 f fd ["_law_order_here","_law_row","_law_arcs_here"] (spD K 3 lO):=by
 have nd:=kz.nd;refine F.okR rfl kz (λcdv A outer s H E hr=>⟨_,(ai (bh (bW (bF (c9 (Tn:="tuple") (by decide) rfl T.b_isinstance rfl T.b_tuple (by kernel_rfl) (ae 2)))) (am (aB eQ)) aK)
   (ai (cE N3 rfl (aM (ae 2)) (aZ (i:=3) nd rfl (L9 rfl)) (ai (bh (iX (fL (bW (bF (c9 (Tn:="tuple") (by decide) rfl T.b_isinstance rfl T.b_tuple (by kernel_rfl) (ae 3)))) (fL (aR (mJ hr.units) (av aY rfl T.b_len (by kernel_rfl) (aa (ae 3) ag)) ah nbh) (fh (bW (bF (av (jm rfl) rfl T.b_all (by kernel_rfl) (aa (eW (ms:=[false,true,false,false,false,false,false]) (ar:=["_law_end"]) (aH rfl (show aS (aj cu) bI _ _=true from by decide +kernel)) rfl (aM (ae 3)) (aG (i:=7) (show(bI++_).Nodup from by decide +kernel) rfl rfl) (λ_ _ _ _=>bo) (λ_ _ _ _=>(qd G6 hr (aa (ae 7) (aa (av aY rfl T.b_len (by kernel_rfl) (aa (ae 1) ag)) ag))))) ag)))))))) (am (aB eQ)) aK)
   (am (bh (iX (fL (aR FQ (aC aD (ae 3) ah (λ_ _=>rfl)) (aC aD (ae 3) ah (λ_ _=>rfl)) nbh) (fh (bW (bF (qd Y2 hr (aa (ae 0) (aa (aC aD (ae 1) (aC aD (ae 3) ah (λ_ _=>rfl)) (λ_ _=>rfl)) (aa (aC aD (ae 1) (aC aD (ae 3) ah (λ_ _=>rfl)) (λ_ _=>rfl)) ag))))))))) (am (aB eQ)) aK))))
   (ai (ax (i:=4) nd rfl (L9 rfl) (az aI (eW (ms:=[false,false,false,false,false,false,false]) (ar:=[]) (aH rfl (show aS (aj cu) bI _ _=true from by decide +kernel)) rfl (aM (ae 2)) (aG (i:=3) (show(bI++_).Nodup from by decide +kernel) rfl rfl) (λ_ _ _ _=>bo) (λ_ _ _ _=>(aC aD (ae 3) ah (λ_ _=>rfl)))) (eW (ms:=[false,false,false,false,false,false,false]) (ar:=[]) (aH rfl (show aS (aj cu) bI _ _=true from by decide +kernel)) rfl (aM (ae 2)) (aG (i:=3) (show(bI++_).Nodup from by decide +kernel) rfl rfl) (λ_ _ _ _=>bo) (λ_ _ _ _=>(aC aD (ae 3) ah (λ_ _=>rfl))))))
   (ai (bh (iX (fL (aR (mJ hr.units) (av fV rfl T.b_sorted (by kernel_rfl) (aa (ae 4) ag)) (lI rfl rfl T.b_list rfl T.b_range (aa (av aY rfl T.b_len (by kernel_rfl) (aa (ae 1) ag)) ag)) nbh) (fh (aR (mJ hr.units) (bC nY rfl T.b_list (by kernel_rfl) (aa (ae 2) ag)) (av fV rfl T.b_sorted (by kernel_rfl) (aa (ae 2) ag)) nbh)))) (am (aB eQ)) aK)
   (ai (cE N3 rfl (aM (ae 2)) (mM rfl (cO (aZ (i:=5) nd rfl (ak7 rfl)) (cO (aZ (i:=6) nd rfl (ak7 rfl)) nB))) (am (bh (bF (av (Ca rfl) rfl T.b_any (by kernel_rfl) (aa (eW (ms:=[false,false,false,false,false,true,true]) (ar:=["_law_k","_law_l"]) (aH rfl (show aS (aj cu) bI _ _=true from by decide +kernel)) rfl (aM (ae 2)) (ip (n:=2) rfl (bQ (aG (i:=7) (show(bI++_).Nodup from by decide +kernel) rfl rfl) (bQ (aG (i:=8) (show(bI++_).Nodup from by decide +kernel) rfl rfl) gZ))) (λ_ _ _ _=>bo) (λ_ _ _ _=>(m8 kE kE kE (ae 5) (ae 7) (ae 6) (ae 8)))) ag))) (am (aB eQ)) aK)))
   (am (aB eQ))))))),λds M R _ hS bk=>?_⟩)
 obtain⟨o,row,d,rfl,ho,hl,hd,h30,k⟩:=hS;refine bk ?_;clear bk;simp only[aO];refine ba (λΔ' M'=>(∃es:List D,d=.tup es/\Δ'=[some (.tup (o.map aQ)),some (.tup (row.map aF)),some d,none,none,none,none])/\M=M') (λnx k'=>?_) ?_
 ·walk_at"";simp only[bZ hd];cases d with
  |tup es=>exact⟨true,rfl,k' _ _ ⟨⟨es,rfl,rfl⟩,rfl⟩⟩
  |scr _=>simp[ao]at hd
  |ref _=>simp[ao]at hd
  |box _ _=>simp[ao]at hd
  |_=>exact⟨false,rfl,by rw[AH (by rintro⟨arcs,e,_⟩;cases e)]at k;exact k⟩
 rintro _ _ ⟨⟨es,rfl,rfl⟩,rfl⟩;have hel:=h30 es rfl;have hgd:∀d∈es,ao d=true:=bb.mp (by simpa[ao]using hd);refine ba (λΔ' M'=>(∃(arcs:List (Nat×Nat)) (x3:Option D),es=arcs.map stD/\(∀a∈arcs,Dr row.length o row a)/\Δ'=[some (.tup (o.map aQ)),some (.tup (row.map aF)),some (.tup es),x3,none,none,none])/\M=M') (λnx knx=>?_) ?_
 ·walk_at"";intro hz;refine aP (λi Δ M'=>∃(arcs:List (Nat×Nat)) (x3:Option D),es.take i=arcs.map stD/\(∀a∈arcs,Dr row.length o row a)/\Δ=[some (.tup (o.map aQ)),some (.tup (row.map aF)),some (.tup es),x3,none,none,none]/\M=M') ⟨[],none,rfl,(λ_ h=>by cases h),rfl,rfl⟩ ?_ ?_
  ·rintro i d Δ M' X hd2 ⟨arcs,x3,hta,hA,rfl,rfl⟩ k';have hdg:=hgd d (M9 hd2);have hno:(∀a,d=stD a->¬ Dr row.length o row a)->R (.bl false) M:=λh=>by
    rw[AH (by
     rintro⟨arcs',e,h'⟩;have e':es=arcs'.map stD:=by simpa using e
     rw[e',L8]at hd2;obtain⟨a,ha,rfl⟩:=Option.map_eq_some_iff.mp hd2;have hm:=M9 ha;exact h a rfl ⟨h'.1 a hm,h'.2.2.1 a hm⟩)]at k
    exact k
   refine⟨_,rfl,?_⟩;walk_at"";simp only[bZ hdg];cases d with
   |tup ds =>
    refine⟨true,rfl,?_⟩;rw[if_neg (by decide)];refine⟨_,rfl,_,qC,_,rfl,bc (λh=>hno λa e=>?_) (λh=>?_)⟩
    ·have:ds.length=2:=by rw[stD]at e;cases e;rfl
     simp[this]at h
    ·obtain⟨a,b,rfl⟩:=qu (r:=ds) (by simp at h;lia);have hab:ao a=true/\ao b=true:=by simpa[ao,bq]using hdg
     refine⟨_,rfl,λhz=>⟨hz,?_⟩⟩;refine t6 (f:=λd=>plB d (row.length:Int)) (Δ0:=[none,some (.tup (row.map aF)),none,none,none,none,none]) (n:=7) (λd hd' x Q2 q=>?_) ?_
     ·walk_at"";rw[u8];refine⟨d,_,rfl,?_,q⟩;rcases L5.mp hd' with rfl|h2
      ·exact hab.1
      ·rw[K0.mp h2];exact hab.2
     refine⟨_,gO,_,rfl,?_⟩
     by_cases hp:plB a row.length=true/\plB b row.length=true
     ·obtain⟨h1,h2⟩:=hp;rw[if_neg (by simp[h1,h2])];obtain⟨i1,rfl,g1⟩:=j8.mp h1;obtain⟨i2,rfl,g2⟩:=j8.mp h2;refine⟨_,rfl,_,rfl,_,rfl,_,rfl,bc (λh3=>hno λa e hP=>?_) (λh3=>?_)⟩
      ·obtain⟨a1,a2⟩:=a;simp only[stD,D.tup.injEq,O0,D.int.injEq,and_true]at e;have:=hP.1.1;simp at h3 this
       lia
      ·have hlt:i1<i2:=by simp at h3;lia
       refine⟨_,rfl,_,lC (i:=i1) (by lia),_,rfl,_,lC (i:=i2) (by lia),o,sg row i1,sg row i2,rfl,ho,_,rfl,bc (λh4=>hno λa e hP=>?_) (λh4=>?_)⟩
       ·obtain⟨a1,a2⟩:=a;simp only[stD,D.tup.injEq,O0,D.int.injEq,and_true]at e;obtain⟨e1,e2⟩:=e;obtain rfl:i1=a1:=by lia
        obtain rfl:i2=a2:=by lia
        have h5:cB o (sg row i1) (sg row i2)=true:=hP.2;unfold cB at h5;rw[h5]at h4;simp at h4
       ·refine k' _ _ ⟨arcs++[(i1,i2)],_,?_,λa ha=>?_,rfl,rfl⟩
        ·rw[S8,hd2,hta,O1];rfl
        ·rcases K1.mp ha with h6|h6
         ·exact hA a h6
         ·rw[K0.mp h6];exact⟨⟨hlt,by show i2<row.length;lia⟩,by unfold cB;simpa using h4⟩
     ·rw[if_pos (by
       simp only[K2,ai3,ac1,List.all_nil,id,ag5,ad5];rw[Bool.and_eq_false_iff]
       by_cases h1:plB a row.length=true
       ·right;exact eq_false_of_ne_true λh2=>hp ⟨h1,h2⟩
       ·left;exact eq_false_of_ne_true h1)]
      refine hno λc e hP=>hp ?_;obtain⟨a1,a2⟩:=c;simp only[stD,D.tup.injEq,O0,and_true]at e;obtain⟨rfl,rfl⟩:=e;have h5:=hP.1;simp only at h5;exact⟨j8.mpr ⟨a1,rfl,by lia⟩,j8.mpr ⟨a2,rfl,by lia⟩⟩
   |scr _=>simp[ao]at hdg
   |ref _=>simp[ao]at hdg
   |box _ _=>simp[ao]at hdg
   |_=>exact⟨false,rfl,hno λa e=>by cases e⟩
  ·rintro Δ M' ⟨arcs,x3,hta,hA,rfl,rfl⟩;rw[W5]at hta;exact knx _ _ ⟨⟨arcs,x3,hta,hA,rfl⟩,rfl⟩
 rintro _ _ ⟨⟨arcs,x3,rfl,hA,rfl⟩,rfl⟩;rw[u8]at hel;walk_at"";refine λhz=>⟨hz,bw stD (λ_=>true) (λa=>D.int (a.1:Int)) (λΔ=>∃x,Δ=[none,none,none,x,none,none,none]) arcs _ _ (λa ha Δ hΔ=>?_) ⟨none,rfl⟩ ?_⟩
 ·obtain⟨x,rfl⟩:=hΔ;refine⟨_,rfl,⟨_,rfl⟩,λQ1 q=>q,λ_ Q2 q=>?_⟩;simp only[stD];walk_at"";exact q
 rw[N5,O5.mpr (λ_ _=>rfl)];refine λhz2=>⟨hz2,bw stD (λ_=>true) (λa=>D.int (a.2:Int)) (λΔ=>∃x,Δ=[none,none,none,x,none,none,none]) arcs _ _ (λa ha Δ hΔ=>?_) ⟨none,rfl⟩ ?_⟩
 ·obtain⟨x,rfl⟩:=hΔ;refine⟨_,rfl,⟨_,rfl⟩,λQ1 q=>q,λ_ Q2 q=>?_⟩;simp only[stD];walk_at"";exact q
 rw[N5,O5.mpr (λ_ _=>rfl)];have e1:(arcs.map λa=>D.int (a.1:Int))++(arcs.map λa=>D.int (a.2:Int))=((arcs.map λa=>(a.1:Int))++(arcs.map λa=>(a.2:Int))).map D.int:=by simp[Q7,Function.comp_def]
 have er:jX 0 (((row.map aF).length:Int)).toNat=(zZ row.length).map D.int:=by
  rw[u8,V6];unfold zZ;rw[Q7];rfl
 rw[e1,er,u8];have es:je (D.tup (arcs.map stD))=some (.lst ((dH (arcs.map stI)).map pD)):=by rw[mn];exact vH (by rw[u8];lia)
 refine⟨_,if_pos (by simp only[u8];exact sz3 _ (by lia)),_,vC (by simp;lia),by lia,by rw[u8];lia,_,mr D.int (λx y=>by rw[Q4];simp[eqD]) (λ_=>rfl),_,rfl,?_⟩;rw[xk];have fls:(¬ Drw o row arcs)->R (.bl false) M:=λh=>by rw[F1 h]at k;exact k
 refine bc (λh=>fls λhD=>?_) (λh=>?_)
 ·rw[hD.2.1.1]at h;simp at h
 have hs1:ff (wf arcs)=zZ row.length:=by simpa using h
 refine⟨_,rfl,_,es,_,(show neF (.lst (arcs.map stD)) (.lst ((dH (arcs.map stI)).map pD))=_ by rw[mn];exact mr pD (λx y=>by rw[Q4];obtain⟨a,b⟩:=x;obtain⟨c,d⟩:=y;simp[pD,eqD,cX]) (λ_=>rfl)),_,rfl,bc (λh2=>fls λhD=>?_) (λh2=>?_)⟩
 ·rw[hD.2.1.2]at h2;simp at h2
 have hs2:dH (arcs.map stI)=arcs.map stI:=by
  have:arcs.map stI=dH (arcs.map stI):=by simpa using h2
  exact this.symm
 intro hz3;refine aP (λi Δ M'=>∃(x4 x5 x6:Option D),Δ=[some (.tup (o.map aQ)),some (.tup (row.map aF)),some (.tup (arcs.map stD)),x3,x4,x5,x6]/\M=M'/\∀a∈arcs.take i,(arcs.any λb=>bK a b)=false) ⟨_,_,_,rfl,rfl,λa ha=>by simp at ha⟩ ?_ ?_
 ·rintro i d Δ M' X hd2 ⟨x4,x5,x6,rfl,rfl,hcr⟩ k';obtain⟨a,ha,rfl⟩:=dZ hd2;have ham:=M9 ha;simp only[stD];refine⟨_,rfl,?_⟩;walk_at"";refine λhz4=>⟨hz4,bw stD (λ_=>true) (λb=>D.bl (bK a b)) (λΔ=>∃y z,Δ=[none,none,none,none,none,some (.int a.1),some (.int a.2),y,z]) arcs _ _ (λb hb Δ hΔ=>?_) ⟨none,none,rfl⟩ ?_⟩
  ·obtain⟨y,z,rfl⟩:=hΔ;refine⟨_,rfl,⟨_,_,rfl⟩,λQ1 q=>q,λ_ Q2 q=>?_⟩;walk_at"";refine bc (λh1=>bc (λh2=>?_) (λh2=>?_)) (λh1=>?_)
   ·have:bK a b=decide ((a.2:Int)<(b.2:Int)):=decide_eq_decide.mpr ⟨λh=>by lia,λh=>by lia⟩;rw[this]at q;exact q
   ·have:bK a b=false:=decide_eq_false λh=>h2 (by lia);rw[this]at q;exact q
   ·have:bK a b=false:=decide_eq_false λh=>h1 (by lia);rw[this]at q;exact q
  rw[N5,O5.mpr (λ_ _=>rfl)];have ea:yW (.lst (arcs.map λb=>D.bl (bK a b)))=some (.bl (arcs.any λb=>bK a b)):=by
   have g1:(arcs.map λb=>D.bl (bK a b)).all nJ=true:=by rw[V9,O4];intro _ _;rfl
   have g2:(arcs.map λb=>D.bl (bK a b)).any kW=arcs.any λb=>bK a b:=by rw[ao9];rfl
   simp only[yW,g1,g2,if_true]
  refine⟨_,ea,_,rfl,bc (λh=>fls λhD=>hD.2.2.2 (V2.mpr ⟨a,ham,h⟩)) (λh=>k' _ _ ⟨_,_,_,rfl,rfl,λb hb=>?_⟩)⟩;rw[S8,ha]at hb;rcases K1.mp hb with h'|h'
  ·exact hcr b h'
  ·obtain rfl:b=a:=by simpa using h'
   exact eq_false_of_ne_true h
 ·rintro Δ M' ⟨x4,x5,x6,rfl,rfl,hcr⟩;rw[u8,W5]at hcr;walk_at"";rw[FS ⟨λa ha=>(hA a ha).1,⟨hs1,hs2⟩,λa ha=>(hA a ha).2,λh=>by
   obtain⟨a,ha,h'⟩:=V2.mp h;rw[hcr a ha]at h';cases h'⟩]at k
  exact k
def iB:SpD:=λds M R=>∃(ord:List (Str×Str)) (au:Str) (ak:List (Str×List Row)) (ws:List Str) (d:D),ds=[bJ ord au ak,.tup (ws.map D.str),d]/\tY ord au ak/\ws.length<=4/\(∀w∈ws,w∈ak.map (·.1))/\tR d/\R (.bl (dwB ord (kit ak ws) au d)) M
theorem lW(F:Fun K "_law_is_drawing" "_law_is_drawing" eT f fd)(T:Txt mg)(ga8:FnD P w K mg base "_law_kinds" 1 2 lw)(gc6:FnD P w K mg base "_law_is_arcs" 3 3 lO)(Y6:FnD P w K mg base "_law_signs" 1 2 iQ)(G6:FnD P w K mg base "_law_number" 1 2 jw):aV P w K mg base CX0 4 f fd ["_law_lexicon_here","_law_words_here","_law_drawing"] (spD K 3 iB):=by
 have nd:=gG.nd;refine F.okR rfl gG (λcdv A outer s H E hr=>⟨_,(ai (ax (i:=3) nd rfl (L9 rfl) (qd ga8 hr (aa (ae 0) (aa (ae 1) ag))))
   (ai (bh (iX (fL (bW (bF (c9 (Tn:="tuple") (by decide) rfl T.b_isinstance rfl T.b_tuple (by kernel_rfl) (ae 2)))) (fL (aR (mJ hr.units) (av aY rfl T.b_len (by kernel_rfl) (aa (ae 2) ag)) ah nbh) (fh (bW (bF (c9 (Tn:="tuple") (by decide) rfl T.b_isinstance rfl T.b_tuple (by kernel_rfl) (aC aD (ae 2) ah (λ_ _=>rfl))))))))) (am (aB eQ)) aK)
   (ai (bh (aR (mJ hr.units) (av aY rfl T.b_len (by kernel_rfl) (aa (aC aD (ae 2) ah (λ_ _=>rfl)) ag)) (av aY rfl T.b_len (by kernel_rfl) (aa (ae 1) ag)) nbh) (am (aB eQ)) aK)
   (ai (cE N3 rfl (dX rfl T.b_range (aa (av aY rfl T.b_len (by kernel_rfl) (aa (ae 1) ag)) ag)) (aZ (i:=4) nd rfl (L9 rfl)) (am (bh (bW (bF (qd G6 hr (aa (aC aD (aC aD (ae 2) ah (λ_ _=>rfl)) (ae 4) (λ_ _=>rfl)) (aa (av aY rfl T.b_len (by kernel_rfl) (aa (aC aD (ae 3) (ae 4) (λ_ _=>rfl)) ag)) ag))))) (am (aB eQ)) aK)))
   (am (aB (qd gc6 hr (aa (aC aD (ae 0) ah (λ_ _=>rfl)) (aa (qd Y6 hr (aa (ae 3) (aa (aC aD (ae 2) ah (λ_ _=>rfl)) ag))) (aa (aC aD (ae 2) ah (λ_ _=>rfl)) ag)))))))))),λds M R _ hS bk=>?_⟩)
 obtain⟨ord,au,ak,ws,d,rfl,hL,h4,hw,hd,k⟩:=hS;refine bk ?_;clear bk;have hkt:=B4 hL h4 hw;walk_at"";refine⟨ord,au,ak,ws,rfl,hL,⟨by lia,hw⟩,?_⟩;have hkl:(kit ak ws).length=ws.length:=by unfold kit;rw[u8]
 simp only[bZ hd.1];have fls:(¬ Bg ord (kit ak ws) au d)->R (.bl false) M:=λh=>by rw[AR h]at k;exact k
 cases d with
 |tup ds =>
  refine⟨true,rfl,?_⟩;rw[if_neg (by decide)];refine⟨_,rfl,_,qC,_,rfl,bc (λh=>fls ?_) (λh=>?_)⟩
  ·rintro⟨cs,arcs,e,_⟩;cases e;simp at h
  obtain⟨a,b,rfl⟩:=qu (r:=ds) (by simp at h;lia);have hab:ao a=true/\ao b=true:=by simpa[ao,bq]using hd.1
  refine⟨a,rfl,?_⟩;simp only[bZ hab.1];cases a with
  |tup as =>
   refine⟨true,rfl,?_⟩;rw[if_neg (by decide)];refine⟨_,rfl,_,rfl,_,qC,_,rfl,bc (λh2=>fls ?_) (λh2=>?_)⟩
   ·rintro⟨cs,arcs,e,hc,_⟩;cases e;have:=hc.1;simp at h2
    lia
   have hal:as.length=ws.length:=by simp at h2;lia
   have hga:∀d∈as,ao d=true:=bb.mp (by simpa[ao]using hab.1);rw[u8,V6];refine⟨by lia,by lia,?_⟩;refine aP (λi Δ M'=>∃(x4:Option D),Δ=[some (bJ ord au ak),some (D.tup (ws.map D.str)),some (.tup [.tup as,b]),some (dO (kit ak ws++[wsh au])),x4]/\M=M'/\∀p∈(as.zip (kit ak ws)).take i,plB p.1 (p.2.length:Int)=true) ⟨_,rfl,rfl,λp hp=>by simp at hp⟩ ?_ ?_
   ·rintro i d Δ M' X hd2 ⟨x4,rfl,rfl,hA⟩ k';obtain⟨hi,rfl⟩:=b7 hd2;obtain⟨kd,hkd⟩:∃kd,(kit ak ws)[i]?=some kd:=⟨_,J1 (by lia)⟩;obtain⟨c,hcc⟩:∃c,as[i]?=some c:=⟨_,J1 (by lia)⟩;have hzp:(as.zip (kit ak ws))[i]?=some (c,kd):=by rw[List.getElem?_zip_eq_some];exact⟨hcc,hkd⟩
    refine⟨_,rfl,?_⟩;simp only[dO];walk_at"";rw[show(0:Int)+(i:Int)=(i:Int)by lia];refine⟨c,bA hcc,aU kd,bA (by rw[L8,P3 (by lia),hkd];rfl),.int (kd.length:Int),by simp[aU,rdM,rF],c,_,rfl,hga c (M9 hcc),_,rfl,bc (λh3=>fls ?_) (λh3=>k' _ _ ⟨_,rfl,rfl,λp hp=>?_⟩)⟩
    ·rintro⟨cs,arcs,e,hc,_⟩;simp only[D.tup.injEq,O0,and_true]at e;obtain⟨e1,_⟩:=e;have:=(jR (ds:=as) (ks:=kit ak ws)).mpr ⟨cs,e1,hc⟩;have h5:=O4.mp this.2 (c,kd) (M9 hzp);rw[h5]at h3;simp at h3
    ·rw[S8,hzp]at hp;rcases K1.mp hp with h'|h'
     ·exact hA p h'
     ·obtain rfl:p=(c,kd):=by simpa using h'
      simpa using h3
   ·rintro Δ M' ⟨x4,rfl,rfl,hA⟩;rw[cn,U3 (by rw[List.length_zip];lia)]at hA;obtain⟨cs,rfl,hc⟩:=(jR (ds:=as) (ks:=kit ak ws)).mp ⟨by lia,O4.mpr hA⟩;have hrl:=et (ks:=kit ak ws) (cs:=cs) hkt.ok.2;walk_at"";refine⟨.tup (ord.map aQ),rfl,kit ak ws,au,cs,rfl,hkt,hc,ord,_,b,rfl,by have:=hL.1.1.1;lia,by simp;lia,hab.2,λes e=>hd.2 _ es (by rw[e]),?_⟩
    by_cases hD:∃arcs,b=.tup (arcs.map stD)/\Drw ord (cH (kit ak ws) cs++[(au,1)]) arcs
    ·obtain⟨arcs,rfl,hdr⟩:=hD;rw[FS hdr];rw[FN ⟨cs,arcs,rfl,hc,hdr⟩]at k;exact k
    ·rw[AH hD];refine fls ?_;rintro⟨cs',arcs,e,hc',hdr⟩;simp only[D.tup.injEq,O0,and_true]at e;obtain⟨e1,e2⟩:=e;have ec:cs=cs':=fb (λx y h=>by have:=D.int.inj h;lia) e1;subst ec;exact hD ⟨arcs,e2,hdr⟩
  |scr _=>exact absurd hab.1 (by simp[ao])
  |ref _=>exact absurd hab.1 (by simp[ao])
  |box _ _=>exact absurd hab.1 (by simp[ao])
  |_=>exact⟨false,rfl,fls (by rintro⟨cs,arcs,e,_⟩;cases e)⟩
 |scr _=>exact absurd hd.1 (by simp[ao])
 |ref _=>exact absurd hd.1 (by simp[ao])
 |box _ _=>exact absurd hd.1 (by simp[ao])
 |_=>exact⟨false,rfl,fls (by rintro⟨cs,arcs,e,_⟩;cases e)⟩
def fo:SpD:=λds M R=>∃(o:List (Str×Str)) (row:Row),ds=[.tup (o.map aQ),aO row]/\o.length<=500/\row.length<=24/\∀(p:K4) (kvs:List (List Key×D)),M p=none->kvs.length<=1000->R (.ref p) (aT M p (.dT kvs))
theorem mN(F:Fun K "_law_stretches" "_law_stretches" fj f fd)(T:Txt mg)(Y2:FnD P w K mg base "_law_cancel" 2 3 fS):aV P w K mg base CX0 3 f fd ["_law_order_here","_law_row"] (spD K 2 fo):=by
 have nd:=gM.nd;refine F.okR rfl gM (λcdv A outer s H E hr=>⟨_,(ai (ax (i:=2) nd rfl (L9 rfl) GS)
   (ai (cE N3 rfl (dX rfl T.b_range (aa (az aI (av aY rfl T.b_len (by kernel_rfl) (aa (ae 1) ag)) ah) ag)) (aZ (i:=3) nd rfl (L9 rfl)) (am (cE N3 rfl (dX rfl T.b_range (aa (az Cw (az aI (av aY rfl T.b_len (by kernel_rfl) (aa (ae 1) ag)) ah) (ae 3)) ag)) (aZ (i:=4) nd rfl (L9 rfl)) (ai (ax (i:=5) nd rfl (L9 rfl) (az aI (ae 4) (ae 3)))
   (ai (ax (i:=6) nd rfl (L9 rfl) (eO (gK hr.units) (ae 3) ah nbh))
   (ai (cE N3 rfl (qw rfl T.b_range (aa (az aI (ae 4) ah) (aa (ae 5) ag))) (aZ (i:=7) nd rfl (L9 rfl)) (ai (ax (i:=8) nd rfl (L9 rfl) (bp (B6 false rfl hr.units1 (aa (az aI (ae 4) ah) (aa (ae 7) ag)) (ae 2) rfl) (cf (B6 false rfl hr.units1 (aa (az aI (ae 7) ah) (aa (ae 5) ag)) (ae 2) rfl))))
   (am (bh (iX (jx (bF (ae 8)) (iL (bF (qd Y2 hr (aa (ae 0) (aa (aC aD (ae 1) (ae 4) (λ_ _=>rfl)) (aa (aC aD (ae 1) (ae 7) (λ_ _=>rfl)) ag)))))))) (am (ax (i:=6) nd rfl (L9 rfl) eQ)) aK))))
   (am (bh (bF (ae 6)) (am (D5 hr.units1 (ae 2) (aa (ae 4) (aa (ae 5) ag)) eQ)) aK))))))))
   (am (aB (ae 2))))),λds M R _ hS bk=>?_⟩)
 obtain⟨o,row,rfl,ho,hl,k⟩:=hS;refine bk ?_;clear bk;simp only[aO];walk_at"";intro p hp;rw[u8,show((row.length:Int)+1).toNat=row.length+1 by lia];refine⟨by lia,by lia,?_⟩;refine aP (λi Δ M'=>∃(kvs:List (List Key×D)) (x3 x4 x5 x6 x7 x8:Option D),Δ=[some (.tup (o.map aQ)),some (.tup (row.map aF)),some (.ref p),x3,x4,x5,x6,x7,x8]/\M'=aT M p (.dT kvs)/\kvs.length<=25*i) ⟨[],_,_,_,_,_,_,rfl,rfl,Q5 _⟩ ?_ ?_
 ·rintro i d Δ M' X hd ⟨kvs,x3,x4,x5,x6,x7,x8,rfl,rfl,hkv⟩ k';obtain⟨hi,rfl⟩:=b7 hd;refine⟨_,rfl,?_⟩;walk_at"";rw[u8,show((row.length:Int)+1-(0+(i:Int))).toNat=row.length+1-i by lia];refine⟨by lia,by lia,?_⟩;refine aP (λj Δ M'=>∃(kvs:List (List Key×D)) (x4 x5 x6 x7 x8:Option D),Δ=[some (.tup (o.map aQ)),some (.tup (row.map aF)),some (.ref p),some (.int (0+(i:Int))),x4,x5,x6,x7,x8]/\M'=aT M p (.dT kvs)/\kvs.length<=25*i+j) ⟨kvs,_,_,_,_,_,rfl,rfl,by lia⟩ ?_ ?_
  ·rintro j d Δ M' X2 hd2 ⟨kvs,x4,x5,x6,x7,x8,rfl,rfl,hkv2⟩ k2;obtain⟨hj,rfl⟩:=b7 hd2;refine⟨_,rfl,?_⟩;refine ba (λΔ' M2=>Δ'=[some (.tup (o.map aQ)),some (.tup (row.map aF)),some (.ref p),some (.int (0+(i:Int))),some (.int (0+(j:Int))),some (.int (0+(j:Int)+(0+(i:Int)))),x6,x7,x8]/\aT M p (.dT kvs)=M2) (λnx knx=>?_) ?_
   ·walk_at"";exact knx _ _ ⟨rfl,rfl⟩
   rintro _ _ ⟨rfl,rfl⟩;refine ba (λΔ' M2=>(∃g:Bool,Δ'=[some (.tup (o.map aQ)),some (.tup (row.map aF)),some (.ref p),some (.int (0+(i:Int))),some (.int (0+(j:Int))),some (.int (0+(j:Int)+(0+(i:Int)))),some (.bl g),x7,x8])/\aT M p (.dT kvs)=M2) (λnx knx=>?_) ?_
   ·walk_at"";exact knx _ _ ⟨⟨_,rfl⟩,rfl⟩
   rintro _ _ ⟨⟨g,rfl⟩,rfl⟩;refine ba (λΔ' M2=>(∃(g:Bool) (x7 x8:Option D),Δ'=[some (.tup (o.map aQ)),some (.tup (row.map aF)),some (.ref p),some (.int (0+(i:Int))),some (.int (0+(j:Int))),some (.int (0+(j:Int)+(0+(i:Int)))),some (.bl g),x7,x8])/\aT M p (.dT kvs)=M2) (λnx knx=>?_) ?_
   ·walk_at"";refine⟨_,_,⟨rfl,rfl⟩,⟨by lia,by lia,by lia,by lia⟩,?_⟩;refine aP (λ_ Δ M2=>(∃(g:Bool) (x7 x8:Option D),Δ=[some (.tup (o.map aQ)),some (.tup (row.map aF)),some (.ref p),some (.int (0+(i:Int))),some (.int (0+(j:Int))),some (.int (0+(j:Int)+(0+(i:Int)))),some (.bl g),x7,x8])/\aT M p (.dT kvs)=M2) ⟨⟨g,_,_,rfl⟩,rfl⟩ ?_ ?_
    ·rintro t d Δ M2 X3 hd3 ⟨⟨g,x7,x8,rfl⟩,rfl⟩ k3;obtain⟨ht,rfl⟩:=b7 hd3;refine⟨_,rfl,?_⟩;walk_at"";refine⟨sz3 2,bc (λ_=>⟨sz3 2,bc (λ_=>?_) (λ_=>k3 _ _ ⟨⟨_,_,_,rfl⟩,rfl⟩)⟩) (λ_=>k3 _ _ ⟨⟨_,_,_,rfl⟩,rfl⟩)⟩;have hx1:atI (row.map aF) (0+(j:Int))=some (aF (sg row j)):=by rw[show(0:Int)+(j:Int)=((j:Nat):Int)by lia];exact lC (by lia)
     have hx2:atI (row.map aF) (0+(j:Int)+1+(t:Int))=some (aF (sg row (j+1+t))):=by rw[show(0:Int)+(j:Int)+1+(t:Int)=((j+1+t:Nat):Int)by lia];exact lC (by lia)
     exact⟨_,hx1,_,hx2,o,_,_,rfl,ho,_,rfl,bc (λ_=>k3 _ _ ⟨⟨_,_,_,rfl⟩,rfl⟩) (λ_=>k3 _ _ ⟨⟨_,_,_,rfl⟩,rfl⟩)⟩
    ·rintro Δ M2 ⟨⟨g,x7,x8,rfl⟩,rfl⟩;exact knx _ _ ⟨⟨g,x7,x8,rfl⟩,rfl⟩
   rintro _ _ ⟨⟨g,x7,x8,rfl⟩,rfl⟩;walk_at"";refine bc (λ_=>⟨sz3 2,K5 (by lia:kvs.length<1000) (sz3 1000),k2 _ _ ⟨_,_,_,_,_,_,rfl,rfl,?_⟩⟩) (λ_=>k2 _ _ ⟨kvs,_,_,_,_,_,rfl,rfl,by lia⟩);exact R6 (sO _ _ _) (by lia)
  ·rintro Δ M' ⟨kvs,x4,x5,x6,x7,x8,rfl,rfl,hkv2⟩;rw[cn]at hkv2;exact k' _ _ ⟨kvs,_,_,_,_,_,_,rfl,rfl,by lia⟩
 ·rintro Δ M' ⟨kvs,x3,x4,x5,x6,x7,x8,rfl,rfl,hkv⟩;rw[cn]at hkv;walk_at"";exact k p kvs hp (by lia)
def Bh(n:Nat)(arcs:List (Nat×Nat)):Prop:=arcs.length<=12/\∀a∈arcs,a.1<n/\a.2<n
def tM:SpD:=λds M R=>∃(o:List (Str×Str)) (row:Row) (n:Int),ds=[.tup (o.map aQ),aO row,.int n]/\o.length<=500/\row.length<=24/\0<=n/\R .non M/\∀arcs,Bh row.length arcs->R (.tup (arcs.map stD)) M
def szW(wt:List (Nat×Nat)):Nat:=(wt.map λs=>2*(s.2-s.1)+1).sum
def szL(wt:List (Nat×Nat)):Nat:=(wt.map λs=>s.2-s.1).sum
theorem qv{a b:List (Nat×Nat)}:szW (a++b)=szW a+szW b:=by simp[szW]
theorem vP{a b:List (Nat×Nat)}:szL (a++b)=szL a+szL b:=by simp[szL]
theorem GC{l:List (Nat×Nat)}:neF (.lst (l.map stD)) (.lst [])=some (.bl (!decide (l=[]))):=by
 have:=mr stD (λx y=>by rw[Q4];obtain⟨a,b⟩:=x;obtain⟨c,d⟩:=y;simp[stD,eqD,cX];lia) (λ_=>rfl) (a:=l) (b:=[]);exact this
theorem F7{l:List Nat}:neF (.lst (l.map bt)) (.lst [])=some (.bl (!decide (l=[]))):=by
 have:=mr bt (λx y=>by rw[Q4];simp[bt,eqD];lia) (λ_=>rfl) (a:=l) (b:=[]);exact this
theorem qx{l:List (Nat×Nat)}(h:l.length<64):∃l':List (Nat×Nat),je (.lst (l.map stD))=some (.lst (l'.map stD))/\l'.Perm l:=by
 rw[mn,Bc (by rw[u8];exact h)];have hp:=nt (l.map stI);refine⟨(dH (l.map stI)).map λs=>(s.1.toNat,s.2.toNat),?_,?_⟩
 ·congr 2;rw[Q7];refine ab3 λs hs=>?_;obtain⟨x,hx,rfl⟩:=N7.mp (hp.mem_iff.mp hs);simp[stD,stI,pD]
 ·have:=hp.map (λs:Int×Int=>(s.1.toNat,s.2.toNat));rw[Q7]at this;have e:l.map ((λs:Int×Int=>(s.1.toNat,s.2.toNat))∘stI)=l:=by
   conv=>rhs;rw[<-List.map_id l]
   exact ab3 λs _=>by simp[stI]
  rwa [e]at this
theorem wU(F:Fun K "_law_arcs" "_law_arcs" mZ f fd)(T:Txt mg)(Y5:FnD P w K mg base "_law_stretches" 3 2 fo)(Y2:FnD P w K mg base "_law_cancel" 2 3 fS):aV P w K mg base CX0 4 f fd ["_law_order_here","_law_row","_law_number_here"] (spD K 3 tM):=by
 have nd:=pE.nd;refine F.okR rfl pE (λcdv A outer s H E hr=>⟨_,(ai (ax (i:=3) nd rfl (L9 rfl) (qd Y5 hr (aa (ae 0) (aa (ae 1) ag))))
   (ai (bh (rf true rfl hr.units1 (aa ah (aa (av aY rfl T.b_len (by kernel_rfl) (aa (ae 1) ag)) ag)) (ae 3) rfl) (am (lu zc)) aK)
   (ai (ax (i:=4) nd rfl (L9 rfl) (dI ag))
   (ai (ax (i:=5) nd rfl (L9 rfl) (dI (aa (aJ (aa ah (aa (av aY rfl T.b_len (by kernel_rfl) (aa (ae 1) ag)) ag))) ag)))
   (ai (mj N3 (aR (mJ hr.units) (ae 5) (df ag) nbh) (ai (vt (Fu (ae 5)) (mM rfl (cO (aZ (i:=6) nd rfl (L9 rfl)) (cO (aZ (i:=7) nd rfl (L9 rfl)) nB))))
   (ai (ax (i:=8) nd rfl (L9 rfl) (dI ag))
   (ai (cE N3 rfl (qw rfl T.b_range (aa (az aI (ae 6) ah) (aa (ae 7) ag))) (aZ (i:=9) nd rfl (L9 rfl)) (am (bh (iX (jx (rf false rfl hr.units1 (aa (az aI (ae 6) ah) (aa (ae 9) ag)) (ae 3) rfl) (jx (rf false rfl hr.units1 (aa (az aI (ae 9) ah) (aa (ae 7) ag)) (ae 3) rfl) (iL (bF (qd Y2 hr (aa (ae 0) (aa (aC aD (ae 1) (ae 6) (λ_ _=>rfl)) (aa (aC aD (ae 1) (ae 9) (λ_ _=>rfl)) ag))))))))) (am (dJ (gy (ae 8) (ae 9)))) aK)))
   (am (bh (aR (mJ hr.units) (ae 8) (df ag) nbh) (ai (ax (i:=9) nd rfl (L9 rfl) (aC aD (ae 8) (az bH (ae 2) (av aY rfl T.b_len (by kernel_rfl) (aa (ae 8) ag))) (λ_ _=>rfl)))
   (ai (ax (i:=2) nd rfl (L9 rfl) (az eA (ae 2) ah))
   (ai (dJ (gy (ae 4) (aJ (aa (ae 6) (aa (ae 9) ag)))))
   (am (ax (i:=5) nd rfl (L9 rfl) (DX (ae 5) (df (aa (aJ (aa (az aI (ae 6) ah) (aa (ae 9) ag))) (aa (aJ (aa (az aI (ae 9) ah) (aa (ae 7) ag))) ag))))))))) aK))))))
   (am (lu (bC dq rfl T.b_tuple (by kernel_rfl) (aa (av fV rfl T.b_sorted (by kernel_rfl) (aa (ae 4) ag)) ag))))))))),λds M R _ hS bk=>?_⟩)
 obtain⟨o,row,n,rfl,ho,hl,hn,k0,k⟩:=hS;refine bk ?_;clear bk;simp only[aO];walk_at"";refine⟨o,row,rfl,ho,hl,λa kvs ha hkv=>⟨sz3 2,a,rfl,kvs,aE,?_⟩⟩;rw[u8];refine bc (λ_=>⟨M,mv ha,k0⟩) (λ_=>⟨sz3 0,λp hp=>⟨sz3 2,sz3 1,λq hq=>?_⟩⟩);have hpa:p≠a:=by rintro rfl;rw[aE]at hp;cases hp
 have hqp:q≠p:=by rintro rfl;rw[aE]at hq;cases hq
 have hqa:q≠a:=by rintro rfl;rw[aA hqp,aE]at hq;cases hq
 refine⟨λm Δ M'=>∃(acc wt:List (Nat×Nat)) (n':Int) (q:K4) (x6 x7 x8 x9:Option D),Δ=[some (.tup (o.map aQ)),some (.tup (row.map aF)),some (.int n'),some (.ref a),some (.ref p),some (.ref q),x6,x7,x8,x9]/\M' a=some (.dT kvs)/\M' p=some (.lst (acc.map stD))/\M' q=some (.lst (wt.map stD))/\LeM M M'/\0<=n'/\(∀s∈wt,s.1<=s.2/\s.2<=row.length)/\(∀s∈acc,s.1<row.length/\s.2<row.length)/\2*acc.length+szL wt<=row.length/\m=szW wt/\wt.length<=2*acc.length+1/\q≠p/\M q=none,
  ⟨_,[],[(0,row.length)],n,q,none,none,none,none,rfl,by rw[aA (ab0 hqa),aA (ab0 hpa),aE],by rw[aA (ab0 hqp),aE];rfl,aE,?_,hn,?_,(λ_ h=>by cases h),by simp[szL],rfl,by simp,hqp,by rw[aA hqp,aA hqa]at hq;exact hq⟩,?_⟩
 ·intro c u hc;have h1:c≠a:=by rintro rfl;rw[ha]at hc;cases hc
  have h2:c≠p:=by rintro rfl;rw[aA hpa,hc]at hp;cases hp
  have h3:c≠q:=by rintro rfl;rw[aA hqp,aA hqa,hc]at hq;cases hq
  rw[aA h3,aA h2,aA h1];exact hc
 ·intro s hs;rw[K0.mp hs];exact⟨Q5 _,J6 _⟩
 have hMpn:M p=none:=by rw[aA hpa]at hp;exact hp
 clear hp hq hqp hqa;rintro m Δ M' ⟨acc,wt,n',q,x6,x7,x8,x9,rfl,hMa,hMp,hMq,hle,hn',hwt,hacc,hsz,rfl,hwl,hqp,hMqn⟩;have hqa:q≠a:=by rintro rfl;rw[hMa]at hMq;cases hMq
 walk_at"";simp only[fY hMq,fY hMp];refine⟨sz3 0,_,GC,_,rfl,bc (λh=>?_) (λh=>?_)⟩
 ·obtain⟨init,⟨i,j⟩,rfl⟩:∃init s,wt=init++[s]:=⟨_,_,(List.dropLast_concat_getLast (by simpa using h)).symm⟩;have hij:=hwt (i,j) (by simp);simp only at hij;rw[vP]at hsz;have hs1:szL [(i,j)]=j-i:=by simp[szL]
  refine⟨init.map stD,stD (i,j),by rw[hMq,O1];rfl,_,rfl,sz3 0,λr hr=>?_⟩;have hrq:r≠q:=by rintro rfl;rw[aE]at hr;cases hr
  have hr':M' r=none:=by rw[aA hrq]at hr;exact hr
  have hra:r≠a:=by rintro rfl;rw[hMa]at hr';cases hr'
  have hrp:r≠p:=by rintro rfl;rw[hMp]at hr';cases hr'
  walk_at"";refine⟨_,_,⟨rfl,rfl⟩,⟨by lia,by lia,by lia,by lia⟩,?_⟩;rw[show((j:Int)-((i:Int)+1)).toNat=j-(i+1)by lia];refine aP (λt Δ M2=>∃(ns:List Nat) (x9:Option D),Δ=[some (.tup (o.map aQ)),some (.tup (row.map aF)),some (.int n'),some (.ref a),some (.ref p),some (.ref q),some (.int i),some (.int j),some (.ref r),x9]/\M2=aT (aT M' q (.lst (init.map stD))) r (.lst (ns.map bt))/\ns.length<=t/\∀x∈ns,i<x/\x<j) ⟨[],x9,rfl,rfl,J6 _,(λ_ h=>by cases h)⟩ ?_ ?_
  ·rintro t d Δ M2 X2 hd2 ⟨ns,x9,rfl,rfl,hnl,hns⟩ k2;obtain⟨ht,rfl⟩:=b7 hd2;have hma:aT (aT M' q (.lst (init.map stD))) r (.lst (ns.map bt)) a=some (.dT kvs):=by rw[aA (ab0 hra),aA (ab0 hqa)];exact hMa
   have hx1:atI (row.map aF) (i:Int)=some (aF (sg row i)):=lC (by lia);have hx2:atI (row.map aF) ((i:Int)+1+(t:Int))=some (aF (sg row (i+1+t))):=by rw[show(i:Int)+1+(t:Int)=((i+1+t:Nat):Int)by lia];exact lC (by lia)
   refine⟨_,rfl,?_⟩;walk_at"";have stay:X2 [some (D.tup (am8 aQ o)),some (D.tup (am8 aF row)),some (D.int n'),some (D.ref a),some (D.ref p),some (D.ref q),some (D.int ↑i),some (D.int ↑j),some (D.ref r),some (D.int (↑i+1+↑t))] (aT (aT M' q (HD.lst (am8 stD init))) r (HD.lst (am8 bt ns))):=k2 _ _ ⟨ns,_,rfl,rfl,by lia,hns⟩;refine⟨sz3 2,kvs,hma,bc (λ_=>⟨sz3 2,kvs,hma,bc (λ_=>⟨_,hx1,_,hx2,o,_,_,rfl,ho,_,rfl,bc (λ_=>⟨_,aE,_,aE,by rw[u8];exact K5 (by lia:ns.length<1000) (sz3 1000),?_⟩) (λ_=>stay)⟩) (λ_=>stay)⟩) (λ_=>stay)⟩;rw[ir];refine k2 _ _ ⟨ns++[i+1+t],_,rfl,by rw[O1];simp[bt],by simp;lia,λx hx=>?_⟩;rcases K1.mp hx with h|h
   ·exact hns x h
   ·rw[K0.mp h];lia
  ·rintro Δ M2 ⟨ns,x9,rfl,rfl,hnl,hns⟩;rw[cn]at hnl;have hMp2:aT (aT M' q (.lst (init.map stD))) r (.lst (ns.map bt)) p=some (.lst (acc.map stD)):=by
    rw[aA (ab0 hrp),aA (ab0 hqp)];exact hMp
   have hMa2:aT (aT M' q (.lst (init.map stD))) r (.lst (ns.map bt)) a=some (.dT kvs):=by rw[aA (ab0 hra),aA (ab0 hqa)];exact hMa
   have hMq2:aT (aT M' q (.lst (init.map stD))) r (.lst (ns.map bt)) q=some (.lst (init.map stD)):=by rw[aA (ab0 hrq),aE]
   have hMrn:M r=none:=by
    cases e:M r with
    |none=>rfl
    |some u=>rw[hle r u e]at hr';cases hr'
   have hle2:LeM M (aT (aT M' q (.lst (init.map stD))) r (.lst (ns.map bt))):=by
    intro c u hc;have h1:c≠r:=by rintro rfl;rw[hMrn]at hc;cases hc
    have h2:c≠q:=by rintro rfl;rw[hMqn]at hc;cases hc
    rw[aA h1,aA h2];exact hle c u hc
   have hwi:∀s∈init,s.1<=s.2/\s.2<=row.length:=λs hs=>hwt s (U0 _ hs);rw[J9]at hwl;have hwl':init.length+1<=2*acc.length+1:=hwl;walk_at"";rw[u8];refine⟨sz3 0,_,F7,_,rfl,bc (λh3=>?_) (λh3=>?_)⟩
   ·have hnp:0<ns.length:=S5.mpr (by simpa using h3);obtain⟨d,hd,ed⟩:=gc (l:=ns.map bt) (v:=n' % ns.length) (T7 _ (by lia)) (by rw[u8];exact S1 _ (by lia));obtain⟨c,hc,rfl⟩:=N7.mp hd;have hcij:=hns c hc;have hal:(acc.map stD).length<J7:=by rw[u8];exact K5 (by lia:acc.length<1000) (sz3 1000)
    refine⟨_,if_pos (by lia),_,ed,_,hMp2,sz3 2,_,hMp2,hal,sz3 2,_,rfl,sz3 2,sz3 2,init.map stD,by rw[fY (by rw[aA hqp];exact hMq2)],by rw[u8];exact sz3 _ (by lia),λv hv=>?_⟩;have hvp:v≠p:=by rintro rfl;rw[aE]at hv;cases hv
    rw[aA hvp]at hv;have hva:v≠a:=by rintro rfl;rw[hMa2]at hv;cases hv
    have hMvn:M v=none:=by
     cases e:M v with
     |none=>rfl
     |some u=>rw[hle2 v u e]at hv;cases hv
    have e1:am8 stD init++[D.tup [D.int (↑i+1),bt c],D.tup [D.int (↑c+1),D.int ↑j]]=(init++[(i+1,c),(c+1,j)]).map stD:=by simp[stD,bt]
    have e2:am8 stD acc++[D.tup [D.int ↑i,bt c]]=(acc++[(i,c)]).map stD:=by simp[stD,bt]
    rw[e1,e2];have hw1:szW (init++[(i+1,c),(c+1,j)])<szW (init++[(i,j)]):=by
     rw[qv,qv];simp[szW];lia
    have hl1:szL (init++[(i+1,c),(c+1,j)])+2=szL init+(j-i):=by
     rw[vP];simp[szL];lia
    refine⟨_,hw1,acc++[(i,c)],init++[(i+1,c),(c+1,j)],n' / 2,v,_,_,_,_,⟨rfl,rfl,rfl,rfl,rfl,rfl⟩,?_,?_,aE,?_,by lia,λs hs=>?_,λs hs=>?_,by rw[J9];simp;lia,rfl,by simp;lia,hvp,hMvn⟩
    ·rw[aA (ab0 hva),aA (ab0 hpa)];exact hMa2
    ·rw[aA (ab0 hvp),aE]
    ·intro x u hx;have h1:x≠v:=by rintro rfl;rw[hMvn]at hx;cases hx
     have h2:x≠p:=by rintro rfl;rw[hMpn]at hx;cases hx
     rw[aA h1,aA h2];exact hle2 x u hx
    ·rcases K1.mp hs with h|h
     ·exact hwi s h
     ·simp only[L5,P0,or_false]at h;rcases h with rfl|rfl<;>(constructor<;>simp only<;>lia)
    ·rcases K1.mp hs with h|h
     ·exact hacc s h
     ·rw[K0.mp h];constructor<;>simp only<;>lia
   ·refine⟨szW init,by rw[qv];simp[szW],acc,init,n',q,_,_,_,_,⟨rfl,rfl,rfl,rfl,rfl,rfl⟩,hMa2,hMp2,hMq2,hle2,hn',hwi,hacc,by lia,rfl,by lia,hqp,hMqn⟩
 ·have hal:acc.length<64:=by lia
  obtain⟨l',e,hperm⟩:=qx hal;refine⟨_,e,_,rfl,M,hle,k l' ⟨by rw[hperm.length_eq];lia,λs hs=>hacc s (hperm.mem_iff.mp hs)⟩⟩
theorem o7{α:Type}{f:α->D}:∀(l:List α) (i:Nat),(l.map f).eraseIdx i=(l.eraseIdx i).map f
 |[],_=>rfl
 |_::_,0=>rfl
 |a::l,i+1=>by simp[o7 l i]
def i9:SpD:=λds M R=>∃(m:Nat) (n:Int),ds=[.int m,.int n]/\m<=24/\0<=n/\∀arcs,Bh m arcs->R (.tup (arcs.map stD)) M
theorem ni(F:Fun K "_law_some_arcs" "_law_some_arcs" fu f fd)(T:Txt mg):aV P w K mg base CX0 1 f fd ["_law_size_of","_law_number_here"] (spD K 2 i9):=by
 have nd:=iD.nd;refine F.okR rfl iD (λcdv A outer s H E hr=>⟨_,(ai (ax (i:=2) nd rfl (L9 rfl) (qz rfl rfl T.b_list rfl T.b_range (aa (ae 0) ag)))
   (ai (ax (i:=3) nd rfl (L9 rfl) (dI ag))
   (ai (mj N3 (aR DJ (av aY rfl T.b_len (by kernel_rfl) (aa (ae 2) ag)) ah nbh) (ai (ax (i:=4) nd rfl (L9 rfl) (vc (ae 2) ah))
   (ai (dJ (gy (ae 3) (aJ (aa (ae 4) (aa (vc (ae 2) (az bH (ae 1) (av aY rfl T.b_len (by kernel_rfl) (aa (ae 2) ag)))) ag)))))
   (am (ax (i:=1) nd rfl (L9 rfl) (az eA (ae 1) ah))))))
   (am (lu (bC dq rfl T.b_tuple (by kernel_rfl) (aa (av fV rfl T.b_sorted (by kernel_rfl) (aa (ae 3) ag)) ag))))))),λds M R _ hS bk=>?_⟩)
 obtain⟨m,n,rfl,hm,hn,k⟩:=hS;refine bk ?_;clear bk;walk_at"";rw[V6];refine⟨by lia,by lia,λl hl=>⟨sz3 0,λp hp=>?_⟩⟩;have hpl:p≠l:=by rintro rfl;rw[aE]at hp;cases hp
 have hMp:M p=none:=by rw[aA hpl]at hp;exact hp
 have e0:jX 0 m=(O2 m).map bt:=by unfold jX bt;exact ab3 λk _=>by simp
 rw[e0];refine⟨λt Δ M'=>∃(ls:List Nat) (acc:List (Nat×Nat)) (n':Int) (x4:Option D),Δ=[some (.int m),some (.int n'),some (.ref l),some (.ref p),x4]/\M'=aT (aT M l (.lst (ls.map bt))) p (.lst (acc.map stD))/\0<=n'/\(∀x∈ls,x<m)/\(∀s∈acc,s.1<m/\s.2<m)/\2*acc.length+ls.length<=m/\t=ls.length,⟨_,O2 m,[],n,none,rfl,rfl,hn,λx hx=>P8.mp hx,(λ_ h=>by cases h),by simp,rfl⟩,?_⟩;rintro t Δ M' ⟨ls,acc,n',x4,rfl,rfl,hn',hls,hacc,hsz,rfl⟩;have hMl:aT (aT M l (.lst (ls.map bt))) p (.lst (acc.map stD)) l=some (.lst (ls.map bt)):=by rw[aA (ab0 hpl),aE]
 walk_at"";simp only[fY hMl];walk_at"";rw[u8];refine bc (λh=>?_) (λh=>?_)
 ·obtain⟨b,rest,rfl⟩:=List.exists_cons_of_ne_nil (l:=ls) (by rintro rfl;simp at h);rw[O3]at h hsz;have hrp:0<rest.length:=by lia
  have hrz:((rest.length:Nat):Int)≠0:=by lia
  obtain⟨i1,hi1⟩:∃a:Nat,n' % (rest.length:Int)=a:=⟨(n' % (rest.length:Int)).toNat,by have:=T7 n' hrz;lia⟩;have hi1l:i1<rest.length:=by have:=S1 n' (by lia:(0:Int)<rest.length);lia
  have hpp:∀(u:HD),aT (aT (aT M l (.lst ((b::rest).map bt))) p (.lst (acc.map stD))) l u p=some (.lst (acc.map stD)):=λu=>by rw[aA hpl,aE]
  refine⟨_,hMl,0,rfl,_,hMl,by rw[u8];exact sz3 _ (by simp;lia),bt b,rfl,_,hpp _,.int i1,?_,i1,rfl,by simp;exact sz3 _ (by lia),bt rest[i1],?_,sz3 2,_,hpp _,by rw[u8];exact K5 (by lia:acc.length<1000) (sz3 1000),_,?_,rest.eraseIdx i1,acc++[(b,rest[i1])],n' / 3,_,⟨rfl,rfl⟩,?_,by lia,λx hx=>hls x (.tail _ (List.mem_of_mem_eraseIdx hx)),λs hs=>?_,?_,rfl⟩
  ·simp only[K2,List.eraseIdx_cons_zero,u8];rw[if_pos (by lia),hi1]
  ·simp[hi1l]
  ·rw[List.length_eraseIdx,if_pos hi1l];simp;lia
  ·rw[<-oZ hpl,ir,oZ hpl,ir];simp only[K2,List.eraseIdx_cons_zero,O1,ai3];rw[o7];rfl
  ·rcases K1.mp hs with h'|h'
   ·exact hacc s h'
   ·rw[K0.mp h'];exact⟨hls b (.head _),hls _ (.tail _ (P7 hi1l))⟩
  ·rw[J9,List.length_eraseIdx,if_pos hi1l];simp;lia
 ·obtain⟨l',e,hperm⟩:=qx (l:=acc) (by lia);refine⟨_,e,_,rfl,M,?_,k l' ⟨by rw[hperm.length_eq];lia,λs hs=>hacc s (hperm.mem_iff.mp hs)⟩⟩;intro c u hc;have h1:c≠p:=by rintro rfl;rw[hMp]at hc;cases hc
  have h2:c≠l:=by rintro rfl;rw[hl]at hc;cases hc
  rw[aA h1,aA h2];exact hc
theorem m7{l:List (Nat×Nat)}:∀d∈l.map stD,ao d=true:=λd hd=>by
 obtain⟨x,_,rfl⟩:=N7.mp hd;rfl
theorem oS{cs:List Nat}:∀d∈cs.map bt,ao d=true:=λd hd=>by
 obtain⟨x,_,rfl⟩:=N7.mp hd;rfl
theorem rh{as es:List D}(h1:∀e∈as,ao e=true)(h2:∀e∈es,ao e=true)(h3:es.length<=30):tR (.tup [.tup as,.tup es]):=by
 refine⟨?_,λa ds e=>by cases e;exact h3⟩;simp only[ao,bq,ag5,N1];exact⟨bb.mpr h1,bb.mpr h2⟩
theorem AZ{cs:List Nat}:neF (.tup (cs.map bt)) (.tup [])=some (.bl (!decide (cs=[]))):=by
 have h1:dLe (.tup (cs.map bt)) 60=true:=by
  show cm (cs.map bt) 59=true;exact dA bt λ_=>rfl
 have h2:dLe (.tup []) 60=true:=rfl;simp only[neF,h1,h2,and_self,if_true,eqD];cases cs<;>simp[cX]
theorem Dy{l:List (Nat×Nat)}:eqF (.tup (l.map stD)) (.tup [])=some (.bl (decide (l=[]))):=by
 have h1:dLe (.tup (l.map stD)) 60=true:=by
  show cm (l.map stD) 59=true;exact dA stD λ_=>rfl
 have h2:dLe (.tup []) 60=true:=rfl;simp only[eqF,h1,h2,and_self,if_true,eqD];cases l<;>simp[cX]
def rR:SpD:=λds M R=>∃(cs:List Nat) (arcs:List (Nat×Nat)) (n:Int),ds=[.tup [chD cs,.tup (arcs.map stD)],.int n]/\cs.length<=4/\arcs.length<=12/\0<=n/\∀d,tR d->R d M
theorem xj(F:Fun K "_law_bent" "_law_bent" jV f fd)(T:Txt mg):aV P w K mg base CX0 1 f fd ["_law_drawing","_law_number_here"] (spD K 2 rR):=by
 have nd:=pN.nd;refine F.okR rfl pN (λcdv A outer s H E hr=>⟨_,(ai (vt (ae 0) (mM rfl (cO (aZ (i:=2) nd rfl (L9 rfl)) (cO (aZ (i:=3) nd rfl (ak7 rfl)) nB))))
   (ai (ax (i:=4) nd rfl (L9 rfl) (az bH (ae 1) ah))
   (ai (ax (i:=5) nd rfl (ak7 rfl) (az bH (az eA (ae 1) ah) (av (Fy rfl) rfl T.b_max (by kernel_rfl) (aa ah (aa (av aY rfl T.b_len (by kernel_rfl) (aa (ae 3) ag)) ag)))))
   (ai (bh (iX (jx (aR (gK hr.units) (ae 4) ah nbh) (iL (aR (mJ hr.units) (ae 2) (aJ ag) nbh)))) (ai (ax (i:=6) nd rfl (L9 rfl) (az bH (az eA (ae 1) ah) (av aY rfl T.b_len (by kernel_rfl) (aa (ae 2) ag))))
   (ai (ax (i:=7) nd rfl (L9 rfl) (aC aD (df (aa ah (aa ah (aa ah (aa eQ (aa (l6 l7 ah) (aa rG ag))))))) (az bH (az eA (ae 1) ah) ah) (λ_ _=>rfl)))
   (am (aB (aJ (aa (az aI (az aI (bu (ae 2) cx (bf (ae 6))) (aJ (aa (ae 7) ag))) (bu (ae 2) (bf (az aI (ae 6) ah)) cx)) (aa (ae 3) ag))))))) aK)
   (ai (bh (aR (gK hr.units) (ae 4) ah nbh) (am (aB (aJ (aa (az aI (ae 2) (aJ (aa ah ag))) (aa (ae 3) ag))))) aK)
   (ai (bh (aR (gK hr.units) (ae 4) ah nbh) (am (aB (aJ (aa (ae 2) (aa (zP (ae 3) (l6 l7 ah)) ag))))) aK)
   (ai (bh (aR (gK hr.units) (ae 4) ah nbh) (am (aB (aJ (aa (ae 2) (aa (az aI (bu (ae 3) cx (bf (ae 5))) (bu (ae 3) (bf (az aI (ae 5) ah)) cx)) ag))))) aK)
   (ai (bh (aR (gK hr.units) (ae 4) ah nbh) (am (aB (aJ (aa (ae 2) (aa (az aI (bu (ae 3) cx (bf (az aI (ae 5) ah))) (bu (ae 3) (bf (ae 5)) cx)) ag))))) aK)
   (ai (bh (aR (gK hr.units) (ae 4) ah nbh) (am (aB (aC aD (df (aa (aJ (aa (bC nY rfl T.b_list (by kernel_rfl) (aa (ae 2) ag)) (aa (ae 3) ag))) (aa (aJ (aa (ae 2) (aa (bC nY rfl T.b_list (by kernel_rfl) (aa (ae 3) ag)) ag))) (aa (bC nY rfl T.b_list (by kernel_rfl) (aa (ae 0) ag)) (aa (aJ (aa (ae 2) ag)) (aa zc (aa (ae 2) ag))))))) (az bH (az eA (ae 1) ah) ah) (λ_ _=>rfl)))) aK)
   (ai (bh (aR (gK hr.units) (ae 3) (aJ ag) nbh) (am (aB (aJ (aa (ae 2) (aa (aJ (aa (aJ (aa ah (aa ah ag))) ag)) ag))))) aK)
   (ai (vt (aC aD (ae 3) (ae 5) (λ_ _=>rfl)) (mM rfl (cO (aZ (i:=8) nd rfl (L9 rfl)) (cO (aZ (i:=9) nd rfl (L9 rfl)) nB))))
   (ai (bh (aR kE (ae 4) ah nbh) (ai (ax (i:=10) nd rfl (ak7 rfl) (aC aD (ae 3) (az bH (az eA (ae 1) ah) (av aY rfl T.b_len (by kernel_rfl) (aa (ae 3) ag))) (λ_ _=>rfl)))
   (ai (ax (i:=11) nd rfl (L9 rfl) (df (aa (aJ (aa (ae 8) (aa (aC aD (ae 10) ah (λ_ _=>rfl)) ag))) (aa (aJ (aa (aC aD (ae 10) ah (λ_ _=>rfl)) (aa (ae 9) ag))) ag))))
   (ai (A4 (i:=12) nd rfl rfl rfl (ms:=[false,false,false,true,false,true,false,false,false,false,true,false,false]) (ar:=["_law_arc"]) (aH rfl (show aS (aj jV) mP _ _=true from by decide +kernel)) rfl (aM (ae 3)) (aG (i:=13) (show(mP++_).Nodup from by decide +kernel) rfl rfl) (λ_ _ _ _=>(Eh (iX (jx (aR (mJ hr.units) (ae 13) (aC aD (ae 3) (ae 5) (λ_ _=>rfl)) nbh) (iL (aR (mJ hr.units) (ae 13) (ae 10) nbh)))))) (λ_ _ _ _=>(ae 13)))
   (am (aB (aJ (aa (ae 2) (aa (bC dq rfl T.b_tuple (by kernel_rfl) (aa (av fV rfl T.b_sorted (by kernel_rfl) (aa (az aI (ae 12) (ae 11)) ag)) ag)) ag)))))))) aK)
   (ai (ax (i:=7) nd rfl (L9 rfl) (aC aD (df (aa (aJ (aa (ae 9) (aa (ae 8) ag))) (aa (aJ (aa (ae 8) (aa (az aI (ae 9) ah) ag))) (aa (aJ (aa eQ (aa (ae 9) ag))) (aa (df (aa (ae 8) (aa (ae 9) ag))) ag))))) (az Cw (ae 4) ah) (λ_ _=>rfl)))
   (am (aB (aJ (aa (ae 2) (aa (az aI (az aI (bu (ae 3) cx (bf (ae 5))) (aJ (aa (ae 7) ag))) (bu (ae 3) (bf (az aI (ae 5) ah)) cx)) ag)))))))))))))))))),λds M R _ hS bk=>?_⟩)
 obtain⟨cs,arcs,n,rfl,hcl,hal,hn,k⟩:=hS;refine bk ?_;clear bk;simp only[chD];have hgc:=oS (cs:=cs);have hga:=m7 (l:=arcs);have hcz:(cs.map bt).length<=4:=by rw[u8];exact hcl
 have haz:(arcs.map stD).length<=12:=by rw[u8];exact hal
 have tk:∀(l:List D) (a b:Nat),(∀d∈l,ao d=true)->∀d∈l.take a++l.drop b,ao d=true:=λl a b h d hd=>by
  rcases K1.mp hd with q|q
  ·exact h d (aa4 q)
  ·exact h d (List.mem_of_mem_drop q)
 have tk1:∀(l:List D) (a b:Nat) (x:D),ao x=true->(∀d∈l,ao d=true)->∀d∈l.take a++[x]++l.drop b,ao d=true:=λl a b x hx h d hd=>by
  rcases K1.mp hd with q|q
  ·rcases K1.mp q with q|q
   ·exact h d (aa4 q)
   ·rw[K0.mp q];exact hx
  ·exact h d (List.mem_of_mem_drop q)
 refine ba (λΔ' M'=>Δ'=[some (.tup [.tup (cs.map bt),.tup (arcs.map stD)]),some (.int n),some (.tup (cs.map bt)),some (.tup (arcs.map stD)),none,none,none,none,none,none,none,none,none]/\M=M') (λnx k'=>?_) ?_
 ·walk_at"";exact⟨_,rfl,k' _ _ ⟨rfl,rfl⟩⟩
 rintro _ _ ⟨rfl,rfl⟩;refine ba (λΔ' M'=>Δ'=[some (.tup [.tup (cs.map bt),.tup (arcs.map stD)]),some (.int n),some (.tup (cs.map bt)),some (.tup (arcs.map stD)),some (.int (n % 12)),none,none,none,none,none,none,none,none]/\M=M') (λnx k'=>?_) ?_
 ·walk_at"";exact k' _ _ ⟨rfl,rfl⟩
 rintro _ _ ⟨rfl,rfl⟩;refine ba (λΔ' M'=>(∃at_:Nat,(arcs≠[]->at_<arcs.length)/\Δ'=[some (.tup [.tup (cs.map bt),.tup (arcs.map stD)]),some (.int n),some (.tup (cs.map bt)),some (.tup (arcs.map stD)),some (.int (n % 12)),some (.int at_),none,none,none,none,none,none,none])/\M=M') (λnx k'=>?_) ?_
 ·walk_at"";rw[u8]
  by_cases h0:arcs=[]
  ·subst h0;refine⟨_,if_pos (by simp),k' _ _ ⟨⟨0,λh=>absurd rfl h,by simp⟩,rfl⟩⟩
  ·have hp:=S5.mpr h0;have em:(if(arcs.length:Int) > 1 then(arcs.length:Int)else 1)=arcs.length:=by split<;>lia
   refine⟨_,if_pos (by rw[em];lia),?_⟩;rw[em];have h1:=T7 (n / 12) (by lia:(arcs.length:Int)≠0);have h2:=S1 (n / 12) (by lia:(0:Int)<arcs.length);exact k' _ _ ⟨⟨(n / 12 % (arcs.length:Int)).toNat,λ_=>by lia,by rw[Int.toNat_of_nonneg h1]⟩,rfl⟩
 rintro _ _ ⟨⟨at_,hat,rfl⟩,rfl⟩;have ha1:(at_:Int)+1=((at_+1:Nat):Int):=by lia
 refine ba (λΔ' M'=>Δ'=[some (.tup [.tup (cs.map bt),.tup (arcs.map stD)]),some (.int n),some (.tup (cs.map bt)),some (.tup (arcs.map stD)),some (.int (n % 12)),some (.int at_),none,none,none,none,none,none,none]/\M=M') (λnx k'=>?_) ?_
 ·walk_at"";refine bc (λ_=>⟨sz3 0,_,AZ,_,rfl,bc (λh=>?_) (λ_=>k' _ _ ⟨rfl,rfl⟩)⟩) (λ_=>k' _ _ ⟨rfl,rfl⟩);have hp:0<cs.length:=S5.mpr (by simpa using h);rw[u8];obtain⟨pl,hpl⟩:∃a:Nat,n / 12 % (cs.length:Int)=a:=⟨(n / 12 % (cs.length:Int)).toNat,by have:=T7 (n / 12) (by lia:(cs.length:Int)≠0);lia⟩;obtain⟨d,hd,e⟩:=gc (l:=[D.int 0,D.int 1,D.int 2,D.bl true,D.int (-1),D.str (U9 "0")]) (v:=n / 144 % 6) (by lia) (by simp;lia);have hdg:ao d=true:=by
   have hz:ao (.str (U9 "0"))=true:=by decide +kernel
   simp only[L5,P0,or_false]at hd;rcases hd with rfl|rfl|rfl|rfl|rfl|rfl<;>first|rfl|exact hz
  refine⟨_,if_pos (by lia),sz3 6,_,e,(pl:Int),by rw[hpl],sz3 1,?_⟩;rw[qj];refine⟨_,if_pos (by rw[N2];exact sz3 _ (by lia)),_,rfl,(pl:Int)+1,by rw[hpl],?_⟩;rw[show(pl:Int)+1=((pl+1:Nat):Int)by lia,jP];exact⟨_,if_pos (by rw[J9,N2,X1];exact sz3 _ (by simp;lia)),sz3 2,k _ (rh (tk1 _ _ _ _ hdg hgc) hga (by lia))⟩
 rintro _ _ ⟨rfl,rfl⟩;walk_at"";rw[ha1];simp only[qj,jP];refine bc (λ_=>⟨sz3 1,_,if_pos (sz3 _ (by lia)),sz3 2,k _ (rh (λd hd=>?_) hga (by lia))⟩) (λ_=>?_)
 ·rcases K1.mp hd with q|q
  ·exact hgc d q
  ·rw[K0.mp q];rfl
 refine bc (λ_=>⟨sz3 2,k _ (rh hgc (λd hd=>hga d (List.mem_reverse.mp hd)) (by simp;lia))⟩) (λ_=>?_);refine bc (λ_=>⟨_,if_pos (by rw[N2,X1];exact sz3 _ (by lia)),sz3 2,k _ (rh hgc (tk _ _ _ hga) (by simp;lia))⟩) (λ_=>?_);refine bc (λ_=>⟨_,if_pos (by rw[N2,X1];exact sz3 _ (by lia)),sz3 2,k _ (rh hgc (tk _ _ _ hga) (by simp;lia))⟩) (λ_=>?_);refine bc (λ_=>⟨_,rfl,sz3 2,_,rfl,sz3 2,_,rfl,sz3 1,sz3 6,?_⟩) (λ_=>⟨sz3 0,_,Dy,_,rfl,bc (λ_=>⟨sz3 2,sz3 1,sz3 2,?_⟩) (λh=>?_)⟩)
 ·obtain⟨d,hd,e⟩:=gc (l:=[D.tup [D.lst (cs.map bt),D.tup (arcs.map stD)],D.tup [D.tup (cs.map bt),D.lst (arcs.map stD)],D.lst [D.tup (cs.map bt),D.tup (arcs.map stD)],D.tup [D.tup (cs.map bt)],D.non,D.tup (cs.map bt)]) (v:=n / 12 % 6) (by lia) (by simp;lia);refine⟨_,e,k d ?_⟩;have g1:bq (cs.map bt)=true:=bb.mpr hgc;have g2:bq (arcs.map stD)=true:=bb.mpr hga;simp only[L5,P0,or_false]at hd;rcases hd with rfl|rfl|rfl|rfl|rfl|rfl
  ·exact⟨by simp only[ao,bq,g1,g2,ag7],λa ds e=>by cases e;lia⟩
  ·exact⟨by simp only[ao,bq,g1,g2,ag7],λa ds e=>by cases e⟩
  ·exact⟨by simp only[ao,bq,g1,g2,ag7],λa ds e=>by cases e⟩
  ·exact⟨by simp only[ao,bq,g1,ag7],λa ds e=>by cases e⟩
  ·exact⟨rfl,λa ds e=>by cases e⟩
  ·refine⟨by simp only[ao];exact g1,λa ds e=>?_⟩;have e':=D.tup.inj e;have:D.tup ds∈cs.map bt:=by rw[e'];simp
   obtain⟨x,_,hx⟩:=N7.mp this;cases hx
 ·exact k _ (rh hgc (λd hd=>by rw[K0.mp hd];rfl) (by simp))
 have hne:arcs≠[]:=by simpa using h
 have hap:=S5.mpr hne;have hatl:=hat hne;obtain⟨⟨i,j⟩,hij⟩:∃s,arcs[at_]?=some s:=⟨_,J1 hatl⟩;have eij:atI (arcs.map stD) (at_:Int)=some (stD (i,j)):=bA (by rw[L8,hij];rfl);refine⟨_,eij,_,rfl,?_⟩;walk_at"";rw[u8];refine bc (λ_=>?_) (λ_=>⟨sz3 2,sz3 2,sz3 2,sz3 2,sz3 4,?_⟩)
 ·obtain⟨d,hd,e⟩:=gc (l:=arcs.map stD) (v:=n / 144 % arcs.length) (T7 _ (by lia)) (by rw[u8];exact S1 _ (by lia));obtain⟨⟨o1,o2⟩,ho,rfl⟩:=N7.mp hd;refine⟨_,if_pos (by lia),_,e,.int o2,rfl,sz3 2,.int o1,rfl,sz3 2,sz3 2,λhz=>⟨hz,?_⟩⟩;have ne1:∀s t:Nat×Nat,neF (stD s) (stD t)=some (.bl (!decide (s=t))):=λs t=>by
   have h1:∀s:Nat×Nat,dLe (stD s) 60=true:=λ_=>rfl;simp only[neF,h1,and_self,if_true];congr 3;rw[Q4];obtain⟨a,b⟩:=s;obtain⟨c,d⟩:=t;simp[stD,eqD,cX]
   lia
  refine bw stD (λs=>!decide (s=(i,j))&&!decide (s=(o1,o2))) stD (λΔ=>∃x,Δ=[none,none,none,some (.tup (arcs.map stD)),none,some (.int at_),none,none,none,none,some (stD (o1,o2)),none,none,x]) arcs _ _ (λs hs Δ hΔ=>?_) ⟨none,rfl⟩ ?_
  ·obtain⟨x,rfl⟩:=hΔ;refine⟨_,rfl,⟨_,rfl⟩,λQ1 q=>?_,λ_ Q2 q=>?_⟩
   ·walk_at"";refine⟨_,eij,_,ne1 _ _,_,rfl,bc (λh1=>⟨_,ne1 _ _,_,rfl,?_⟩) (λh1=>?_)⟩
    ·rw[h1,U5]at q;exact q
    ·rw[eq_false_of_ne_true h1,S4]at q;exact q
   ·walk_at"";exact q
  rw[N5];have hfl:=List.length_filter_le (λs=>!decide (s=(i,j))&&!decide (s=(o1,o2))) arcs;generalize arcs.filter (λs=>!decide (s=(i,j))&&!decide (s=(o1,o2)))=fs at hfl;have e3:fs.map stD++[D.tup [D.int (i:Int),D.int (o2:Int)],D.tup [D.int (o1:Int),D.int (j:Int)]]=(fs++[(i,o2),(o1,j)]).map stD:=by simp[stD]
  rw[e3];obtain⟨l',es,hperm⟩:=qx (l:=fs++[(i,o2),(o1,j)]) (by simp;lia);have hl':l'.length<=14:=by rw[hperm.length_eq];simp;lia
  exact⟨_,if_pos (by rw[u8];exact sz3 _ (by lia)),_,es,_,rfl,sz3 2,k _ (rh hgc m7 (by rw[u8];lia))⟩
 ·obtain⟨d,hd,e⟩:=gc (l:=[D.tup [D.int j,D.int i],D.tup [D.int i,D.int (j+1)],D.tup [D.bl true,D.int j],D.lst [D.int i,D.int j]]) (v:=n % 12-8) (by lia) (by simp;lia);have hdg:ao d=true:=by
   simp only[L5,P0,or_false]at hd;rcases hd with rfl|rfl|rfl|rfl<;>rfl
  rw[ha1];simp only[qj,jP];exact⟨_,e,sz3 1,_,if_pos (by rw[N2];exact sz3 _ (by lia)),_,if_pos (by rw[J9,N2,X1];exact sz3 _ (by simp;lia)),sz3 2,k _ (rh hgc (tk1 _ _ _ _ hdg hga) (by simp;lia))⟩
def tL:SpD:=λds M R=>∃(ord:List (Str×Str)) (au:Str) (ak:List (Str×List Row)) (ks:List (List Row)) (css:List (List Nat)),ds=[bJ ord au ak,dO (ks++[wsh au]),.lst (css.map chD)]/\tY ord au ak/\Kt ks/\css.length<=16/\(∀cs∈css,Cho ks cs)/\∀gs:List (List Nat),gs.length<=16->(∀cs∈gs,Cho ks cs)->R (.lst (gs.map chD)) M
theorem xh(F:Fun K "_law_good" "_law_good" nP f fd)(T:Txt mg)(Y6:FnD P w K mg base "_law_signs" 1 2 iQ)(Y5:FnD P w K mg base "_law_stretches" 3 2 fo):aV P w K mg base CX0 4 f fd ["_law_lexicon_here","_law_kinds_here","_law_choices_here"] (spD K 3 tL):=by
 have nd:=oW.nd;refine F.okR rfl oW (λcdv A outer s H E hr=>⟨_,(ai (ax (i:=3) nd rfl (L9 rfl) (dI ag))
   (ai (cE N3 rfl (aM (ae 2)) (aZ (i:=4) nd rfl (L9 rfl)) (ai (ax (i:=5) nd rfl (L9 rfl) (qd Y6 hr (aa (ae 1) (aa (ae 4) ag))))
   (am (bh (rf false rfl hr.units1 (aa ah (aa (av aY rfl T.b_len (by kernel_rfl) (aa (ae 5) ag)) ag)) (qd Y5 hr (aa (aC aD (ae 0) ah (λ_ _=>rfl)) (aa (ae 5) ag))) rfl) (am (dJ (gy (ae 3) (ae 4)))) aK))))
   (BF 3 (am (lu (ae 3)))))),λds M R _ hS bk=>?_⟩)
 obtain⟨ord,au,ak,ks,css,rfl,hL,hk,hcl,hC,k⟩:=hS;refine bk ?_;clear bk;walk_at"";refine⟨sz3 0,λp hp hz=>?_⟩;refine aP (λi Δ M'=>∃(gs:List (List Nat)) (x4 x5:Option D),Δ=[some (bJ ord au ak),some (dO (ks++[wsh au])),some (.lst (css.map chD)),some (.ref p),x4,x5]/\M' p=some (.lst (gs.map chD))/\LeM M M'/\gs.length<=i/\∀cs∈gs,Cho ks cs) ⟨[],none,none,rfl,aE,mv hp,J6 _,(λ_ h=>by cases h)⟩ ?_ ?_
 ·rintro i d Δ M' X hd ⟨gs,x4,x5,rfl,hMp,hle,hgl,hG⟩ k';obtain⟨cs,hcs,rfl⟩:=dZ hd;have hi:i<css.length:=(K3.mp hcs).1;have hch:=hC cs (M9 hcs);have hrl:=et (ks:=ks) (cs:=cs) hk.ok.2;have hk4:=hk.1;refine⟨_,rfl,?_⟩;walk_at"";refine⟨ks,au,cs,rfl,hk,hch,?_⟩;simp only[bJ,aO];walk_at"";rw[u8];refine⟨sz3 2,ord,cH ks cs++[(au,1)],rfl,by have:=hL.1.1.1;lia,by simp;lia,λa kvs ha hkv=>?_⟩;have hap:a≠p:=by rintro rfl;rw[hMp]at ha;cases ha
  have hle2:LeM M (aT M' a (.dT kvs)):=by
   intro c u hc;have h1:c≠a:=by rintro rfl;rw[hle _ u hc]at ha;cases ha
   rw[aA h1];exact hle c u hc
  have hMp2:aT M' a (.dT kvs) p=some (.lst (gs.map chD)):=by rw[aA (ab0 hap)];exact hMp
  refine⟨a,rfl,kvs,aE,bc (λ_=>⟨_,hMp2,_,hMp2,by rw[u8];exact K5 (by lia:gs.length<1000) (sz3 1000),?_⟩) (λ_=>k' _ _ ⟨gs,_,_,rfl,hMp2,hle2,by lia,hG⟩)⟩;refine k' _ _ ⟨gs++[cs],some (chD cs),some (D.tup (am8 aF (cH ks cs++[(au,1)]))),rfl,by rw[aE,O1];rfl,?_,by simp;lia,λc hc=>?_⟩
  ·intro c u hc;have h1:c≠p:=by rintro rfl;rw[hp]at hc;cases hc
   rw[aA h1];exact hle2 c u hc
  ·rcases K1.mp hc with h|h
   ·exact hG c h
   ·rw[K0.mp h];exact hch
 ·rintro Δ M' ⟨gs,x4,x5,rfl,hMp,hle,hgl,hG⟩;rw[u8]at hgl;walk_at"";refine⟨_,hMp,M,?_,k gs (by lia) hG⟩;intro c u hc;have h1:c≠p:=by rintro rfl;rw[hp]at hc;cases hc
  rw[BJ h1];exact hle c u hc
def S_law:SpD:=λds M R=>∃ns:List Int,ds=[.scr (ns.map D.int)]/\M=noM/\ns.length<=63/\∀M',R (.bl true) M'
theorem D6(F:Fun K "law" "law" zS f fd)(T:Txt mg)(gc2:FnD P w K mg base "_law_lexicon" 3 2 lF)(gd2:FnD P w K mg base "_law_words" 1 3 pQ)(ga8:FnD P w K mg base "_law_kinds" 1 2 lw)(gc4:FnD P w K mg base "_law_choices" 1 1 lM)(Y8:FnD P w K mg base "_law_numbers" 1 3 gV)(gd6:FnD P w K mg base "_law_good" 4 3 tL)(Y6:FnD P w K mg base "_law_signs" 1 2 iQ)(gd7:FnD P w K mg base "_law_arcs" 4 3 tM)(gb7:FnD P w K mg base "_law_some_arcs" 1 2 i9)(gd8:FnD P w K mg base "_law_bent" 1 2 rR)(gd5:FnD P w K mg base "_law_taken" 13 3 pY)(gb0:FnD P w K mg base "_law_is_drawing" 4 3 iB):aV P w K mg base CX0 14 f fd ["_law_script"] (spD K 1 S_law):=by
 have nd:=zL.nd;refine F.okR rfl zL (λcdv A outer s H E hr=>⟨_,(ai (ax (i:=1) nd rfl (L9 rfl) (qd gc2 hr (aa (ae 0) (aa ah ag))))
   (ai (ax (i:=2) nd rfl (L9 rfl) (qd gd2 hr (aa (qd Y8 hr (aa (ae 0) (aa ah (aa ah ag)))) (aa (ae 1) (aa ah ag)))))
   (ai (ax (i:=3) nd rfl (L9 rfl) (qd ga8 hr (aa (ae 1) (aa (ae 2) ag))))
   (ai (ax (i:=4) nd rfl (L9 rfl) (qd gc4 hr (aa (ae 3) ag)))
   (ai (ax (i:=4) nd rfl (L9 rfl) (az aI (qd gd6 hr (aa (ae 1) (aa (ae 3) (aa (ae 4) ag)))) (ae 4)))
   (ai (cE N3 rfl (qw rfl T.b_range (aa ah (aa ah ag))) (aZ (i:=5) nd rfl (L9 rfl)) (ai (ax (i:=6) nd rfl (L9 rfl) (qd Y8 hr (aa (ae 0) (aa (ae 5) (aa ah ag)))))
   (ai (ax (i:=7) nd rfl (L9 rfl) (aC aD (ae 4) (az bH (aC aD (ae 6) ah (λ_ _=>rfl)) (av aY rfl T.b_len (by kernel_rfl) (aa (ae 4) ag))) (λ_ _=>rfl)))
   (ai (ax (i:=8) nd rfl (L9 rfl) (qd Y6 hr (aa (ae 3) (aa (ae 7) ag))))
   (ai (ax (i:=9) nd rfl (L9 rfl) (qd gd7 hr (aa (aC aD (ae 1) ah (λ_ _=>rfl)) (aa (ae 8) (aa (aC aD (ae 6) ah (λ_ _=>rfl)) ag)))))
   (ai (bh (aR GJ (ae 9) zc nbh) (am (ax (i:=9) nd rfl (L9 rfl) (qd gb7 hr (aa (av aY rfl T.b_len (by kernel_rfl) (aa (ae 8) ag)) (aa (aC aD (ae 6) ah (λ_ _=>rfl)) ag))))) aK)
   (am (cE N3 rfl (aM (df (aa (aJ (aa (ae 7) (aa (ae 9) ag))) (aa (qd gd8 hr (aa (aJ (aa (ae 7) (aa (ae 9) ag))) (aa (aC aD (ae 6) ah (λ_ _=>rfl)) ag))) ag)))) (aZ (i:=10) nd rfl (L9 rfl)) (am (bh (bW (bF (qd gd5 hr (aa (aJ (aa rG (aa (ae 1) (aa (ae 2) ag)))) (aa (ae 10) (aa (qd gb0 hr (aa (ae 1) (aa (ae 2) (aa (ae 10) ag)))) ag)))))) (am (aB eQ)) aK))))))))))
   (am (aB eQ)))))))),λds M R _ hS bk=>?_⟩)
 obtain⟨ns,rfl,rfl,hn,k⟩:=hS;refine bk ?_;clear bk;refine ba (λΔ' M'=>(∃ord au ak,tY ord au ak/\Δ'=[some (.scr (ns.map D.int)),some (bJ ord au ak),none,none,none,none,none,none,none,none,none])/\noM=M') (λnx k'=>?_) ?_
 ·walk_at"";exact⟨ns,0,rfl,λord au ak hL=>k' _ _ ⟨⟨ord,au,ak,hL,rfl⟩,rfl⟩⟩
 rintro _ _ ⟨⟨ord,au,ak,hL,rfl⟩,rfl⟩;refine ba (λΔ' M'=>(∃ws:List Str,ws.length<=4/\(∀w∈ws,w∈ak.map (·.1))/\Δ'=[some (.scr (ns.map D.int)),some (bJ ord au ak),some (.tup (ws.map D.str)),none,none,none,none,none,none,none,none])/\noM=M') (λnx k'=>?_) ?_
 ·walk_at"";exact⟨ns,1,6,rfl,by lia,λxs hx=>⟨xs,ord,au,ak,rfl,hx,hL,λws h1 h2=>k' _ _ ⟨⟨ws,h1,h2,rfl⟩,rfl⟩⟩⟩
 rintro _ _ ⟨⟨ws,hw4,hws,rfl⟩,rfl⟩;have hkt:=B4 hL hw4 hws;have hwk:l5 ak ws:=⟨by lia,hws⟩;have hsum:=Kt.sum hkt.2;have hk4:=hkt.1;generalize hks:kit ak ws=ks at hkt hsum hk4;refine ba (λΔ' M'=>Δ'=[some (.scr (ns.map D.int)),some (bJ ord au ak),some (.tup (ws.map D.str)),some (dO (ks++[wsh au])),none,none,none,none,none,none,none]/\noM=M') (λnx k'=>?_) ?_
 ·walk_at"";exact⟨ord,au,ak,ws,rfl,hL,hwk,by rw[hks];exact k' _ _ ⟨rfl,rfl⟩⟩
 rintro _ _ ⟨rfl,rfl⟩;refine ba (λΔ' M'=>(∃css:List (List Nat),css≠[]/\css.length<=16/\(∀cs∈css,Cho ks cs)/\Δ'=[some (.scr (ns.map D.int)),some (bJ ord au ak),some (.tup (ws.map D.str)),some (dO (ks++[wsh au])),some (.lst (css.map chD)),none,none,none,none,none,none])/\noM=M') (λnx k'=>?_) ?_
 ·walk_at"";exact⟨ks,au,rfl,hkt,λcss h1 h2 h3=>k' _ _ ⟨⟨css,h1,h2,h3,rfl⟩,rfl⟩⟩
 rintro _ _ ⟨⟨css,hc1,hc2,hc3,rfl⟩,rfl⟩;refine ba (λΔ' M'=>(∃css:List (List Nat),css≠[]/\css.length<=32/\(∀cs∈css,Cho ks cs)/\Δ'=[some (.scr (ns.map D.int)),some (bJ ord au ak),some (.tup (ws.map D.str)),some (dO (ks++[wsh au])),some (.lst (css.map chD)),none,none,none,none,none,none])/\noM=M') (λnx k'=>?_) ?_
 ·walk_at"";refine⟨ord,au,ak,ks,css,rfl,hL,hkt,hc2,hc3,λgs h1 h2=>⟨_,if_pos (by rw[u8,u8];exact sz3 _ (by lia)),k' _ _ ⟨⟨gs++css,by simp[hc1],by simp;lia,λcs hcs=>?_,by rw[O1]⟩,rfl⟩⟩⟩;rcases K1.mp hcs with h|h
  ·exact h2 cs h
  ·exact hc3 cs h
 rintro _ _ ⟨⟨css,hc1,hc2,hc3,rfl⟩,rfl⟩;have hcp:=S5.mpr hc1;walk_at"";refine⟨2,12,⟨rfl,rfl⟩,⟨by decide,by decide,by decide,by decide⟩,?_⟩;refine aP (λi Δ M'=>∃x5 x6 x7 x8 x9 x10:Option D,Δ=[some (.scr (ns.map D.int)),some (bJ ord au ak),some (.tup (ws.map D.str)),some (dO (ks++[wsh au])),some (.lst (css.map chD)),x5,x6,x7,x8,x9,x10]) ⟨none,none,none,none,none,none,rfl⟩ ?_ ?_
 ·rintro i d Δ M' X hd ⟨x5,x6,x7,x8,x9,x10,rfl⟩ k';obtain⟨hi,rfl⟩:=b7 hd;refine⟨_,rfl,?_⟩;refine ba (λΔ' M2=>(∃ys,jL 3 ys/\Δ'=[some (.scr (ns.map D.int)),some (bJ ord au ak),some (.tup (ws.map D.str)),some (dO (ks++[wsh au])),some (.lst (css.map chD)),some (.int (2+(i:Int))),some (.lst (ys.map D.int)),x7,x8,x9,x10])/\M'=M2) (λnx knx=>?_) ?_
  ·walk_at"";exact⟨ns,2+i,3,by simp,by lia,λys hy=>knx _ _ ⟨⟨ys,hy,rfl⟩,rfl⟩⟩
  rintro _ _ ⟨⟨ys,hy,rfl⟩,rfl⟩;obtain⟨y0,f0,b0,b1⟩:=hy.at 0 (by lia);obtain⟨y1,f1,c0,c1⟩:=hy.at 1 (by lia);obtain⟨y2,f2,d0,d1⟩:=hy.at 2 (by lia);refine ba (λΔ' M2=>(∃cs,Cho ks cs/\Δ'=[some (.scr (ns.map D.int)),some (bJ ord au ak),some (.tup (ws.map D.str)),some (dO (ks++[wsh au])),some (.lst (css.map chD)),some (.int (2+(i:Int))),some (.lst (ys.map D.int)),some (chD cs),x8,x9,x10])/\M'=M2) (λnx knx=>?_) ?_
  ·walk_at"";rw[u8];obtain⟨d,hd,e⟩:=gc (l:=css.map chD) (v:=y0 % css.length) (T7 _ (by lia)) (by rw[u8];exact S1 _ (by lia));obtain⟨cs,hcs,rfl⟩:=N7.mp hd;exact⟨_,f0,_,if_pos (by lia),_,e,knx _ _ ⟨⟨cs,hc3 cs hcs,rfl⟩,rfl⟩⟩
  rintro _ _ ⟨⟨cs,hcs,rfl⟩,rfl⟩;have hrl:=et (ks:=ks) (cs:=cs) hkt.ok.2;have hcl:=hcs.1;refine ba (λΔ' M2=>Δ'=[some (.scr (ns.map D.int)),some (bJ ord au ak),some (.tup (ws.map D.str)),some (dO (ks++[wsh au])),some (.lst (css.map chD)),some (.int (2+(i:Int))),some (.lst (ys.map D.int)),some (chD cs),some (aO (cH ks cs++[(au,1)])),x9,x10]/\M'=M2) (λnx knx=>?_) ?_
  ·walk_at"";exact⟨ks,au,cs,rfl,hkt,hcs,knx _ _ ⟨rfl,rfl⟩⟩
  rintro _ _ ⟨rfl,rfl⟩;generalize hrow:cH ks cs++[(au,1)]=row at *
  have hrow24:row.length<=24:=by rw[<-hrow];simp;lia
  refine ba (λΔ' M2=>(∃d9,(d9=.non∨∃arcs,Bh row.length arcs/\d9=.tup (arcs.map stD))/\Δ'=[some (.scr (ns.map D.int)),some (bJ ord au ak),some (.tup (ws.map D.str)),some (dO (ks++[wsh au])),some (.lst (css.map chD)),some (.int (2+(i:Int))),some (.lst (ys.map D.int)),some (chD cs),some (aO row),some d9,x10])/\M'=M2) (λnx knx=>?_) ?_
  ·simp only[bJ];walk_at"";exact⟨_,f1,ord,row,y1,rfl,by have:=hL.1.1.1;lia,hrow24,c0,knx _ _ ⟨⟨_,.inl rfl,rfl⟩,rfl⟩,λarcs ha=>knx _ _ ⟨⟨_,.inr ⟨arcs,ha,rfl⟩,rfl⟩,rfl⟩⟩
  rintro _ _ ⟨⟨d9,hd9,rfl⟩,rfl⟩;refine ba (λΔ' M2=>(∃arcs,Bh row.length arcs/\Δ'=[some (.scr (ns.map D.int)),some (bJ ord au ak),some (.tup (ws.map D.str)),some (dO (ks++[wsh au])),some (.lst (css.map chD)),some (.int (2+(i:Int))),some (.lst (ys.map D.int)),some (chD cs),some (aO row),some (.tup (arcs.map stD)),x10])/\M'=M2) (λnx knx=>?_) ?_
  ·simp only[aO];rcases hd9 with rfl|⟨arcs,ha,rfl⟩
   ·walk_at"";simp only[rN];refine bc (λ_=>?_) (λh=>(h rfl).elim);rw[u8];exact⟨_,f1,row.length,y1,rfl,hrow24,c0,λarcs ha=>knx _ _ ⟨⟨arcs,ha,rfl⟩,rfl⟩⟩
   ·walk_at"";simp only[rN];exact bc (λh=>by cases h) (λ_=>knx _ _ ⟨⟨arcs,ha,rfl⟩,rfl⟩)
  rintro _ _ ⟨⟨arcs,ha,rfl⟩,rfl⟩;walk_at"";refine⟨sz3 2,sz3 2,_,f2,cs,arcs,y2,rfl,by lia,ha.1,d0,λx hx=>⟨sz3 2,λ_=>?_⟩⟩;refine aP (λ_ Δ M2=>(∃x10:Option D,Δ=[some (.scr (ns.map D.int)),some (bJ ord au ak),some (.tup (ws.map D.str)),some (dO (ks++[wsh au])),some (.lst (css.map chD)),some (.int (2+(i:Int))),some (.lst (ys.map D.int)),some (chD cs),some (aO row),some (.tup (arcs.map stD)),x10])/\M'=M2) ⟨⟨x10,rfl⟩,rfl⟩ ?_ ?_
  ·rintro t d Δ M2 X3 hd3 ⟨⟨x10,rfl⟩,rfl⟩ k3;have hdp:tR d:=by
    rcases L5.mp (M9 hd3)with rfl|h
    ·exact rh oS m7 (by rw[u8];have:=ha.1;lia)
    ·rw[K0.mp h];exact hx
   refine⟨_,rfl,?_⟩;walk_at"";refine⟨sz3 3,ord,au,ak,ws,d,rfl,hL,hw4,hws,hdp,?_⟩;refine⟨ord,au,ak,ws,d,rfl,hL.1,hwk,by rw[hks];exact hkt.ok,by rw[hks];lia,by rw[hks];lia,hdp,_,rfl,?_⟩;rw[if_neg (by decide)];exact k3 _ _ ⟨⟨_,rfl⟩,rfl⟩
  ·rintro Δ M2 ⟨⟨x10,rfl⟩,rfl⟩;exact k' _ _ ⟨_,_,_,_,_,_,rfl⟩
 ·rintro Δ M' ⟨x5,x6,x7,x8,x9,x10,rfl⟩;walk_at"";exact k _
end
theorem Fv:Fd S_law:=λns R hn hR=>⟨ns,rfl,rfl,hn,hR⟩
theorem CP{l:PySem.W.OpenLaw}{w:S2}{K:H0}{h:N0}{mg:Str->Option J0}{fa:K4}(X:K.In h)(G:h.Ns K9 mg)(hfa:mg "law"=some (.ref fa))
  {f0:K4} {d0:L4}
  {f1:K4} {d1:L4}
  {f2:K4} {d2:L4}
  {f3:K4} {d3:L4}
  {f4:K4} {d4:L4}
  {f5:K4} {d5:L4}
  {f6:K4} {d6:L4}
  {f7:K4} {d7:L4}
  {f8:K4} {d8:L4}
  {f9:K4} {d9:L4}
  {f10:K4} {d10:L4}
  {f11:K4} {d11:L4}
  {f12:K4} {d12:L4}
  {f13:K4} {d13:L4}
  {f14:K4} {d14:L4}
  {f15:K4} {d15:L4}
  {f16:K4} {d16:L4}
  {f17:K4} {d17:L4}
  {f18:K4} {d18:L4}
  {f19:K4} {d19:L4}
  {f20:K4} {d20:L4}
  {f21:K4} {d21:L4}
  {f22:K4} {d22:L4}
  {f23:K4} {d23:L4}
  {f24:K4} {d24:L4}
  {f25:K4} {d25:L4}
  {f26:K4} {d26:L4}
  {f27:K4} {d27:L4}
  {f28:K4} {d28:L4}
  {f29:K4} {d29:L4}
  {f30:K4} {d30:L4}
  {f31:K4} {d31:L4}
  {f32:K4} {d32:L4}
  {f33:K4} {d33:L4}
  {f34:K4} {d34:L4}
  {f35:K4} {d35:L4}
  {f36:K4} {d36:L4}
  {f37:K4} {d37:L4}
  {f38:K4} {d38:L4}
  {f39:K4} {d39:L4}
  {f40:K4} {d40:L4}
  {f41:K4} {d41:L4}
  {f42:K4} {d42:L4}
  {f43:K4} {d43:L4}
  {f44:K4} {d44:L4}
  {f45:K4} {d45:L4}
  {f46:K4} {d46:L4}
  {f47:K4} {d47:L4}
  {f48:K4} {d48:L4}
  {f49:K4} {d49:L4}
  {f50:K4} {d50:L4}
  {f51:K4} {d51:L4}
  {f52:K4} {d52:L4}
  {f53:K4} {d53:L4}
  {f54:K4} {d54:L4}
  {f55:K4} {d55:L4}
  {tk_SMALL_LETTERS:Tok}
  {tk_MOST_LETTERS:Tok}
  {tk_MOST_PAIRS:Tok}
  {tk_MOST_TURN:Tok}
  {tk_MOST_ENTRIES:Tok}
  {tk_MOST_KINDS:Tok}
  {tk_MOST_SIGNS:Tok}
  {tk_MOST_WORDS:Tok}
  {tk_MOST_SIGNS_OF_WORDS:Tok}
  {ad_CHECKS:K4} {nn_CHECKS:Nat} {ck0 ck1 ck2 ck3 ck4 ck5 ck6:Tok} {cv0 cv1 cv2 cv3 cv4 cv5 cv6:J0} {ch0 ch1 ch2 ch3 ch4 ch5 ch6:Int}
  (x0:bg K "is_whole" gf f0 d0)
  (x1:bg K "is_tuple_of" dN f1 d1)
  (x2:bg K "is_short_word" cg f2 d2)
  (x3:bg K "reached_from" di f3 d3)
  (x4:bg K "some_cross" cT f4 d4)
  (x5:bg K "are_unlike" eP f5 d5)
  (x6:bg K "words_of" dU f6 d6)
  (x7:bg K "_law_numbers" gN f7 d7)
  (x8:bg K "_law_names" kL f8 d8)
  (x9:bg K "_law_order" kX f9 d9)
  (x10:bg K "_law_sign" nN f10 d10)
  (x11:bg K "_law_words" fC f11 d11)
  (x12:bg K "_law_reached" iF f12 d12)
  (x13:bg K "_law_kinds" iK f13 d13)
  (x14:bg K "_law_choices" eX f14 d14)
  (x15:bg K "_law_signs" k4 f15 d15)
  (x16:bg K "_law_number" jr f16 d16)
  (x17:bg K "_law_some_arcs" fu f17 d17)
  (x18:bg K "_law_bent" jV f18 d18)
  (x19:bg K "is_mark" gU f19 d19)
  (x20:bg K "at_most" ik f20 d20)
  (x21:bg K "is_turn" iu f21 d21)
  (x22:bg K "is_arc" jt f22 d22)
  (x23:bg K "has_word" fP f23 d23)
  (x24:bg K "is_number_below" cF f24 d24)
  (x25:bg K "_law_kind" ic f25 d25)
  (x26:bg K "_law_cancel" jz f26 d26)
  (x27:bg K "is_pair" gW f27 d27)
  (x28:bg K "is_sign" ie f28 d28)
  (x29:bg K "mark_leads" eC f29 d29)
  (x30:bg K "are_arcs" c7 f30 d30)
  (x31:bg K "kinds_of" gk f31 d31)
  (x32:bg K "is_choice_of" cz f32 d32)
  (x33:bg K "_law_lexicon" iy f33 d33)
  (x34:bg K "_law_stretches" fj f34 d34)
  (x35:bg K "_law_is_arcs" cu f35 d35)
  (x36:bg K "is_order" eh f36 d36)
  (x37:bg K "is_row" gd f37 d37)
  (x38:bg K "cancel" jM f38 d38)
  (x39:bg K "kinds_in_turn" cj f39 d39)
  (x40:bg K "_law_arcs" mZ f40 d40)
  (x41:bg K "_law_is_drawing" eT f41 d41)
  (x42:bg K "_law_good" nP f42 d42)
  (x43:bg K "is_drawing" da f43 d43)
  (x44:bg K "is_kind" g6 f44 d44)
  (x45:bg K "row_of_choice" cc f45 d45)
  (x46:bg K "are_kinds" dr f46 d46)
  (x47:bg K "is_drawing_of_words" bS f47 d47)
  (x48:bg K "is_entry" fU f48 d48)
  (x49:bg K "are_entries" cb f49 d49)
  (x50:bg K "is_lexicon" eB f50 d50)
  (x51:bg K "are_words_taken" bE f51 d51)
  (x52:bg K "takes_sentence" cL f52 d52)
  (x53:bg K "holds" kZ f53 d53)
  (x54:bg K "_law_taken" kO f54 d54)
  (x55:bg K "law" zS f55 d55)
  (z_isinstance:M0 K K9 "isinstance"=some none)
  (z_int:M0 K K9 "int"=some none)
  (z_bool:M0 K K9 "bool"=some none)
  (z_tuple:M0 K K9 "tuple"=some none)
  (z_len:M0 K K9 "len"=some none)
  (z_str:M0 K K9 "str"=some none)
  (z_all:M0 K K9 "all"=some none)
  (z_sorted:M0 K K9 "sorted"=some none)
  (z_list:M0 K K9 "list"=some none)
  (z_range:M0 K K9 "range"=some none)
  (z_any:M0 K K9 "any"=some none)
  (z_set:M0 K K9 "set"=some none)
  (z_sum:M0 K K9 "sum"=some none)
  (z_zip:M0 K K9 "zip"=some none)
  (z_abs:M0 K K9 "abs"=some none)
  (z_dict:M0 K K9 "dict"=some none)
  (z_max:M0 K K9 "max"=some none)
  (z_SMALL_LETTERS:M0 K K9 "SMALL_LETTERS"=some (some (.str "abcdefghijklmnopqrstuvwxyz" tk_SMALL_LETTERS)))
  (z_MOST_LETTERS:M0 K K9 "MOST_LETTERS"=some (some (.int 8 tk_MOST_LETTERS)))
  (z_MOST_PAIRS:M0 K K9 "MOST_PAIRS"=some (some (.int 8 tk_MOST_PAIRS)))
  (z_MOST_TURN:M0 K K9 "MOST_TURN"=some (some (.int 99 tk_MOST_TURN)))
  (z_MOST_ENTRIES:M0 K K9 "MOST_ENTRIES"=some (some (.int 10 tk_MOST_ENTRIES)))
  (z_MOST_KINDS:M0 K K9 "MOST_KINDS"=some (some (.int 4 tk_MOST_KINDS)))
  (z_MOST_SIGNS:M0 K K9 "MOST_SIGNS"=some (some (.int 5 tk_MOST_SIGNS)))
  (z_MOST_WORDS:M0 K K9 "MOST_WORDS"=some (some (.int 8 tk_MOST_WORDS)))
  (z_MOST_SIGNS_OF_WORDS:M0 K K9 "MOST_SIGNS_OF_WORDS"=some (some (.int 60 tk_MOST_SIGNS_OF_WORDS)))
  (z_CHECKS:M0 K K9 "CHECKS"=some (some (.ref ad_CHECKS)))
  (w_CHECKS:K.lookup ad_CHECKS=some ⟨.type "dict",none,.dict #[⟨ch0,.str "sentence" ck0,cv0⟩,⟨ch1,.str "no sentence" ck1,cv1⟩,⟨ch2,.str "twofold" ck2,cv2⟩,⟨ch3,.str "comes" ck3,cv3⟩,⟨ch4,.str "comes not" ck4,cv4⟩,⟨ch5,.str "parted" ck5,cv5⟩,⟨ch6,.str "means" ck6,cv6⟩] nn_CHECKS,#[]⟩)
  (u_CHECKS:(ad_CHECKS==ac9)=false)
  (hh0:ch0=oM w (.inr "sentence")) (vv0:M0 K K9 "takes_sentence"=some (some cv0))
  (hh1:ch1=oM w (.inr "no sentence")) (vv1:M0 K K9 "takes_no_sentence"=some (some cv1))
  (hh2:ch2=oM w (.inr "twofold")) (vv2:M0 K K9 "takes_twofold"=some (some cv2))
  (hh3:ch3=oM w (.inr "comes")) (vv3:M0 K K9 "takes_comes"=some (some cv3))
  (hh4:ch4=oM w (.inr "comes not")) (vv4:M0 K K9 "takes_comes_not"=some (some cv4))
  (hh5:ch5=oM w (.inr "parted")) (vv5:M0 K K9 "takes_parted"=some (some cv5))
  (hh6:ch6=oM w (.inr "means")) (vv6:M0 K K9 "takes_means"=some (some cv6))
 :∃fd:L4,(∀(s:J4) (v:J0),aq6 s fd ⟨[v],[]⟩ [("_law_script",v)])/\∀base:N0,K.In base->base.Ns K9 mg->aV l.prog w K mg base CX0 14 fa fd ["_law_script"] (spD K 1 S_law):=by
 have T:Txt mg:=⟨O7 X G z_isinstance,O7 X G z_int,O7 X G z_bool,O7 X G z_tuple,O7 X G z_len,O7 X G z_str,O7 X G z_all,O7 X G z_sorted,O7 X G z_list,O7 X G z_range,O7 X G z_any,O7 X G z_set,O7 X G z_sum,O7 X G z_zip,O7 X G z_abs,O7 X G z_dict,O7 X G z_max,⟨_,Q8 X G z_SMALL_LETTERS⟩,⟨_,Q8 X G z_MOST_LETTERS⟩,⟨_,Q8 X G z_MOST_PAIRS⟩,⟨_,Q8 X G z_MOST_TURN⟩,⟨_,Q8 X G z_MOST_ENTRIES⟩,⟨_,Q8 X G z_MOST_KINDS⟩,⟨_,Q8 X G z_MOST_SIGNS⟩,⟨_,Q8 X G z_MOST_WORDS⟩,⟨_,Q8 X G z_MOST_SIGNS_OF_WORDS⟩⟩;have GF:kc w K mg "CHECKS" Ei:=⟨_,_,_,_,Q8 X G z_CHECKS,w_CHECKS,⟨rfl,rfl,rfl⟩,rfl,u_CHECKS,by decide +kernel,(.cons ⟨⟨_,rfl⟩,hh0,Q8 X G vv0⟩ (.cons ⟨⟨_,rfl⟩,hh1,Q8 X G vv1⟩ (.cons ⟨⟨_,rfl⟩,hh2,Q8 X G vv2⟩ (.cons ⟨⟨_,rfl⟩,hh3,Q8 X G vv3⟩ (.cons ⟨⟨_,rfl⟩,hh4,Q8 X G vv4⟩ (.cons ⟨⟨_,rfl⟩,hh5,Q8 X G vv5⟩ (.cons ⟨⟨_,rfl⟩,hh6,Q8 X G vv6⟩ .nil)))))))⟩;refine C7 X G hfa x55 (λ_ _ _ _ _ _ _=>rfl) λbase=>?_;have G7:=fg X G x0 (oz (P:=l.prog) (w:=w) (base:=base) x0.F T ) (bd1 x0.F λ_ _ _ _ _ _ _=>rfl);have G4:=fg X G x1 (kM (P:=l.prog) (w:=w) (base:=base) x1.F T ) (bd2 x1.F λ_ _ _ _ _ _ _ _=>rfl);have G5:=fg X G x2 (jA (P:=l.prog) (w:=w) (base:=base) x2.F T ) (bd1 x2.F λ_ _ _ _ _ _ _=>rfl);have ga6:=fg X G x3 (jO (P:=l.prog) (w:=w) (base:=base) x3.F T ) (bd2 x3.F λ_ _ _ _ _ _ _ _=>rfl);have gb2:=fg X G x4 (lZ (P:=l.prog) (w:=w) (base:=base) x4.F T ) (bd1 x4.F λ_ _ _ _ _ _ _=>rfl);have Y3:=fg X G x5 (lV (P:=l.prog) (w:=w) (base:=base) x5.F T ) (bd1 x5.F λ_ _ _ _ _ _ _=>rfl);have ga2:=fg X G x6 (ou (P:=l.prog) (w:=w) (base:=base) x6.F T ) (bd1 x6.F λ_ _ _ _ _ _ _=>rfl);have Y8:=fg X G x7 (qq (P:=l.prog) (w:=w) (base:=base) x7.F T ) (bd3 x7.F λ_ _ _ _ _ _ _ _ _=>rfl);have gc1:=fg X G x8 (uT (P:=l.prog) (w:=w) (base:=base) x8.F T ) (bd1 x8.F λ_ _ _ _ _ _ _=>rfl);have gd3:=fg X G x9 (uv (P:=l.prog) (w:=w) (base:=base) x9.F T ) (bd2 x9.F λ_ _ _ _ _ _ _ _=>rfl);have G9:=fg X G x10 (xt (P:=l.prog) (w:=w) (base:=base) x10.F T ) (bd2 x10.F λ_ _ _ _ _ _ _ _=>rfl);have gd2:=fg X G x11 (uS (P:=l.prog) (w:=w) (base:=base) x11.F T ) (bd3 x11.F λ_ _ _ _ _ _ _ _ _=>rfl);have gb5:=fg X G x12 (qO (P:=l.prog) (w:=w) (base:=base) x12.F T ) (bd2 x12.F λ_ _ _ _ _ _ _ _=>rfl);have ga8:=fg X G x13 (uz (P:=l.prog) (w:=w) (base:=base) x13.F T ) (bd2 x13.F λ_ _ _ _ _ _ _ _=>rfl);have gc4:=fg X G x14 (qg (P:=l.prog) (w:=w) (base:=base) x14.F T ) (bd1 x14.F λ_ _ _ _ _ _ _=>rfl);have Y6:=fg X G x15 (uD (P:=l.prog) (w:=w) (base:=base) x15.F T ) (bd2 x15.F λ_ _ _ _ _ _ _ _=>rfl);have G6:=fg X G x16 (sx (P:=l.prog) (w:=w) (base:=base) x16.F T ) (bd2 x16.F λ_ _ _ _ _ _ _ _=>rfl);have gb7:=fg X G x17 (ni (P:=l.prog) (w:=w) (base:=base) x17.F T ) (bd2 x17.F λ_ _ _ _ _ _ _ _=>rfl);have gd8:=fg X G x18 (xj (P:=l.prog) (w:=w) (base:=base) x18.F T ) (bd2 x18.F λ_ _ _ _ _ _ _ _=>rfl);have G8:=fg X G x19 (qX (P:=l.prog) (w:=w) (base:=base) x19.F T G5) (bd1 x19.F λ_ _ _ _ _ _ _=>rfl);have gb4:=fg X G x20 (qK (P:=l.prog) (w:=w) (base:=base) x20.F T ga6) (bd3 x20.F λ_ _ _ _ _ _ _ _ _=>rfl);have gc8:=fg X G x21 (rb (P:=l.prog) (w:=w) (base:=base) x21.F T G7) (bd1 x21.F λ_ _ _ _ _ _ _=>rfl);have gc9:=fg X G x22 (rC (P:=l.prog) (w:=w) (base:=base) x22.F T G4 G7) (bd2 x22.F λ_ _ _ _ _ _ _ _=>rfl);have ga1:=fg X G x23 (oO (P:=l.prog) (w:=w) (base:=base) x23.F T G5 ga2) (bd2 x23.F λ_ _ _ _ _ _ _ _=>rfl);have ga4:=fg X G x24 (gT (P:=l.prog) (w:=w) (base:=base) x24.F T G7) (bd2 x24.F λ_ _ _ _ _ _ _ _=>rfl);have Y9:=fg X G x25 (wm (P:=l.prog) (w:=w) (base:=base) x25.F T G9) (bd2 x25.F λ_ _ _ _ _ _ _ _=>rfl);have Y2:=fg X G x26 (tV (P:=l.prog) (w:=w) (base:=base) x26.F T gb5) (bd3 x26.F λ_ _ _ _ _ _ _ _ _=>rfl);have gc5:=fg X G x27 (qL (P:=l.prog) (w:=w) (base:=base) x27.F T G4 G8) (bd1 x27.F λ_ _ _ _ _ _ _=>rfl);have gc7:=fg X G x28 (qW (P:=l.prog) (w:=w) (base:=base) x28.F T G4 G8 gc8) (bd1 x28.F λ_ _ _ _ _ _ _=>rfl);have gb1:=fg X G x29 (lX (P:=l.prog) (w:=w) (base:=base) x29.F T gb4) (bd4 x29.F λ_ _ _ _ _ _ _ _ _ _=>rfl);have gb8:=fg X G x30 (oi (P:=l.prog) (w:=w) (base:=base) x30.F T gc9) (bd2 x30.F λ_ _ _ _ _ _ _ _=>rfl);have ga0:=fg X G x31 (oH (P:=l.prog) (w:=w) (base:=base) x31.F T ga1 ga2) (bd2 x31.F λ_ _ _ _ _ _ _ _=>rfl);have ga7:=fg X G x32 (kC (P:=l.prog) (w:=w) (base:=base) x32.F T G4 ga4) (bd2 x32.F λ_ _ _ _ _ _ _ _=>rfl);have gc2:=fg X G x33 (qk (P:=l.prog) (w:=w) (base:=base) x33.F T Y8 gc1 gd3 Y9) (bd2 x33.F λ_ _ _ _ _ _ _ _=>rfl);have Y5:=fg X G x34 (mN (P:=l.prog) (w:=w) (base:=base) x34.F T Y2) (bd2 x34.F λ_ _ _ _ _ _ _ _=>rfl);have gc6:=fg X G x35 (qp (P:=l.prog) (w:=w) (base:=base) x35.F T Y2 G6) (bd3 x35.F λ_ _ _ _ _ _ _ _ _=>rfl);have gb9:=fg X G x36 (oN (P:=l.prog) (w:=w) (base:=base) x36.F T gc5) (bd1 x36.F λ_ _ _ _ _ _ _=>rfl);have gd1:=fg X G x37 (sI (P:=l.prog) (w:=w) (base:=base) x37.F T gc7) (bd1 x37.F λ_ _ _ _ _ _ _=>rfl);have gd0:=fg X G x38 (tU (P:=l.prog) (w:=w) (base:=base) x38.F T gb1) (bd3 x38.F λ_ _ _ _ _ _ _ _ _=>rfl);have Y0:=fg X G x39 (jB (P:=l.prog) (w:=w) (base:=base) x39.F T ga0) (bd2 x39.F λ_ _ _ _ _ _ _ _=>rfl);have gd7:=fg X G x40 (wU (P:=l.prog) (w:=w) (base:=base) x40.F T Y5 Y2) (bd3 x40.F λ_ _ _ _ _ _ _ _ _=>rfl);have gb0:=fg X G x41 (lW (P:=l.prog) (w:=w) (base:=base) x41.F T ga8 gc6 Y6 G6) (bd3 x41.F λ_ _ _ _ _ _ _ _ _=>rfl);have gd6:=fg X G x42 (xh (P:=l.prog) (w:=w) (base:=base) x42.F T Y6 Y5) (bd3 x42.F λ_ _ _ _ _ _ _ _ _=>rfl);have Y1:=fg X G x43 (mh (P:=l.prog) (w:=w) (base:=base) x43.F T gb8 gb2 gd0) (bd3 x43.F λ_ _ _ _ _ _ _ _ _=>rfl);have gc3:=fg X G x44 (qM (P:=l.prog) (w:=w) (base:=base) x44.F T gd1) (bd1 x44.F λ_ _ _ _ _ _ _=>rfl);have ga5:=fg X G x45 (jD (P:=l.prog) (w:=w) (base:=base) x45.F T Y0) (bd3 x45.F λ_ _ _ _ _ _ _ _ _=>rfl);have gb6:=fg X G x46 (nH (P:=l.prog) (w:=w) (base:=base) x46.F T Y3 gc3) (bd1 x46.F λ_ _ _ _ _ _ _=>rfl);have Y4:=fg X G x47 (fm (P:=l.prog) (w:=w) (base:=base) x47.F T Y1 ga5 G4 ga7 Y0) (bd3 x47.F λ_ _ _ _ _ _ _ _ _=>rfl);have gc0:=fg X G x48 (oB (P:=l.prog) (w:=w) (base:=base) x48.F T G4 G5 gb6) (bd1 x48.F λ_ _ _ _ _ _ _=>rfl);have ga9:=fg X G x49 (lg (P:=l.prog) (w:=w) (base:=base) x49.F T Y3 gc0) (bd1 x49.F λ_ _ _ _ _ _ _=>rfl);have gb3:=fg X G x50 (lU (P:=l.prog) (w:=w) (base:=base) x50.F T G4 gb9 G8 ga9) (bd1 x50.F λ_ _ _ _ _ _ _=>rfl);have ga3:=fg X G x51 (hJ (P:=l.prog) (w:=w) (base:=base) x51.F T gb3 ga1 ga0) (bd2 x51.F λ_ _ _ _ _ _ _ _=>rfl);have Y7:=fg X G x52 (i6 (P:=l.prog) (w:=w) (base:=base) x52.F T G4 ga3 Y4) (bd2 x52.F λ_ _ _ _ _ _ _ _=>rfl);have gd4:=fg X G x53 (uV (P:=l.prog) (w:=w) (base:=base) x53.F T GF Y7) (bd2 x53.F λ_ _ _ _ _ _ _ _=>rfl);have gd5:=fg X G x54 (uo (P:=l.prog) (w:=w) (base:=base) x54.F T gd4) (bd3 x54.F λ_ _ _ _ _ _ _ _ _=>rfl);exact D6 x55.F T gc2 gd2 ga8 gc4 Y8 gd6 Y6 gd7 gb7 gd8 gd5 gb0
end My
namespace PySem.W.Fast
def tw10022405404600371936:=Nat
def tw10031633045966668921:=Nat
def tw10137965217706879484:=Nat
def tw10141698493639104296:=Nat
def tw10151216580546588017:=Nat
def tw10204843368078710050:=Nat
def tw10249850916899256552:=Nat
def tw102543058409688477:=Nat
def tw10293082617775601509:=Nat
def tw10385640205492251992:=Nat
def tw10393898346580395831:=Nat
def tw10407412129186828896:=Nat
def tw1042917883840527200:=Nat
def tw10494350532042480321:=Nat
def tw1050393612862136727:=Nat
def tw10581221700332664314:=Nat
def tw10729864345563473302:=Nat
def tw10747500586656940576:=Nat
def tw10776855944045765442:=Nat
def tw10799833854320475720:=Nat
def tw10839767465585279342:=Nat
def tw10859584946179854180:=Nat
def tw10945166994637471503:=Nat
def tw10962782720635716450:=Nat
def tw1096641078362160672:=Nat
def tw11089510339675248991:=Nat
def tw11095818808884142633:=Nat
def tw11187221549300988302:=Nat
def tw11188939286818286593:=Nat
def tw11238728229225258689:=Nat
def tw11253265561025853324:=Nat
def tw11293550438544234787:=Nat
def tw11308224043887131420:=Nat
def tw11321329394234682136:=Nat
def tw11338707818867298358:=Nat
def tw11346111334783438679:=Nat
def tw11352045669826472723:=Nat
def tw11369112588160316097:=Nat
def tw11371018625414173446:=Nat
def tw11428803023672614274:=Nat
def tw11481027469000329069:=Nat
def tw11517186522996134403:=Nat
def tw11625516058307764059:=Nat
def tw11670281704314811422:=Nat
def tw11671689619180796753:=Nat
def tw11762526184740155560:=Nat
def tw11813974652292369133:=Nat
def tw11847407379960201325:=Nat
def tw11849661433937789935:=Nat
def tw11877022339942654433:=Nat
def tw11878160943050733808:=Nat
def tw11901485425837970715:=Nat
def tw11944062444184362924:=Nat
def tw11970085395862190907:=Nat
def tw1201160707029480225:=Nat
def tw12019735172316592081:=Nat
def tw12032305828492651572:=Nat
def tw12038167990824100438:=Nat
def tw12080105974672968128:=Nat
def tw12088935805503698778:=Nat
def tw12109810738493926057:=Nat
def tw12147445775502180146:=Nat
def tw12171051279045465630:=Nat
def tw12217980518639774180:=Nat
def tw12255343780362425948:=Nat
def tw12267731729053764117:=Nat
def tw12287442519646850613:=Nat
def tw12337102956755145608:=Nat
def tw12396578667468221320:=Nat
def tw12398515660567469390:=Nat
def tw12455023919494336480:=Nat
def tw12455881036198068972:=Nat
def tw12495789822827615219:=Nat
def tw12517242376629583274:=Nat
def tw12527653040675964405:=Nat
def tw12534604808195508031:=Nat
def tw12535096274382564090:=Nat
def tw12576319190874587037:=Nat
def tw12629064729573729895:=Nat
def tw12692386525583068009:=Nat
def tw12693240149433945574:=Nat
def tw12712351015801280540:=Nat
def tw12713809439045726538:=Nat
def tw12721495100778347638:=Nat
def tw12730311040576516988:=Nat
def tw12745522610432694136:=Nat
def tw12795081454935828406:=Nat
def tw12810905050073734442:=Nat
def tw12829835247146588952:=Nat
def tw12868548893337438480:=Nat
def tw12883820905061318273:=Nat
def tw12906183965070684543:=Nat
def tw12907748868548384553:=Nat
def tw12967495490935956203:=Nat
def tw13101274658970978317:=Nat
def tw13121733535181895832:=Nat
def tw1317478017133365978:=Nat
def tw13226822543561488306:=Nat
def tw1324716083778851553:=Nat
def tw13262461150085863679:=Nat
def tw13273426339542713989:=Nat
def tw13282812000669855231:=Nat
def tw13319872475513173677:=Nat
def tw13342532451400660198:=Nat
def tw13346198897312843609:=Nat
def tw13385219349960157262:=Nat
def tw13394211682365903993:=Nat
def tw13447012281588705462:=Nat
def tw13462267419047681920:=Nat
def tw13467354842586731815:=Nat
def tw13604138369166596946:=Nat
def tw136164293375003819:=Nat
def tw13662514601767379625:=Nat
def tw1368605994188453312:=Nat
def tw13701621731154508442:=Nat
def tw13734055382125307551:=Nat
def tw13734234240380422490:=Nat
def tw13759548061224626005:=Nat
def tw13767274515026475207:=Nat
def tw13788304527713250256:=Nat
def tw13806317701883316702:=Nat
def tw13885657486547437452:=Nat
def tw13890217809087773907:=Nat
def tw13984651946545079913:=Nat
def tw1398546492104246338:=Nat
def tw14002757565730613500:=Nat
def tw14009178567852274341:=Nat
def tw14038437348727196747:=Nat
def tw14039593245186964408:=Nat
def tw14066399910239131421:=Nat
def tw14107466754098574157:=Nat
def tw14138162441324299316:=Nat
def tw14144241325631932578:=Nat
def tw14170055643338817514:=Nat
def tw14201443893524660215:=Nat
def tw14252041072248429461:=Nat
def tw14375680141086213930:=Nat
def tw1438066297004473015:=Nat
def tw14381846923406090705:=Nat
def tw14387014684300531350:=Nat
def tw14420974362159348911:=Nat
def tw14442448295565684725:=Nat
def tw14451623513956937246:=Nat
def tw14457432517113661036:=Nat
def tw1447244027983254295:=Nat
def tw14476191521089654225:=Nat
def tw14487986448128672387:=Nat
def tw14503408552586565004:=Nat
def tw14514221636884629178:=Nat
def tw14526097453439555486:=Nat
def tw14537892969077131650:=Nat
def tw1457083419807030463:=Nat
def tw14599946100726333207:=Nat
def tw14753695959654300690:=Nat
def tw14771361011047130392:=Nat
def tw14831442193183099486:=Nat
def tw14860064400049275681:=Nat
def tw14899295062986012816:=Nat
def tw14902650228464269698:=Nat
def tw14904928141275721831:=Nat
def tw14923545829579844042:=Nat
def tw14942597366054421938:=Nat
def tw14947857038688316637:=Nat
def tw14953034247207277674:=Nat
def tw14972164636547171367:=Nat
def tw14973882012580580853:=Nat
def tw14974660114172863183:=Nat
def tw15067856964992674158:=Nat
def tw1509221702460339321:=Nat
def tw15092514192878410350:=Nat
def tw1511514543739176102:=Nat
def tw1516265790528391978:=Nat
def tw15185246742016076440:=Nat
def tw1520469464613117157:=Nat
def tw15206612618546434426:=Nat
def tw15263538316905911032:=Nat
def tw15284412583121683001:=Nat
def tw15331804811845796068:=Nat
def tw15348985310802535618:=Nat
def tw15395218018592981904:=Nat
def tw1540259799053185041:=Nat
def tw15499096970175244527:=Nat
def tw15555979076611173262:=Nat
def tw15593233510046115354:=Nat
def tw15636074238987855680:=Nat
def tw15789589020088320936:=Nat
def tw15834260824615907956:=Nat
def tw15918143978403317093:=Nat
def tw15919454146738513010:=Nat
def tw15959337086233075356:=Nat
def tw15966412249160568313:=Nat
def tw15970442240798244746:=Nat
def tw16015976760768270226:=Nat
def tw16039795920692484500:=Nat
def tw16095972749709899491:=Nat
def tw16112518652582937163:=Nat
def tw16193606089619357219:=Nat
def tw16210178962831734958:=Nat
def tw16338169262088376063:=Nat
def tw16346917395312715393:=Nat
def tw16379747967790071005:=Nat
def tw16413978985279442096:=Nat
def tw16414332055474175452:=Nat
def tw16441215696269897325:=Nat
def tw16480662566345293991:=Nat
def tw16612527711880300710:=Nat
def tw16649526749201770126:=Nat
def tw16654360681959080225:=Nat
def tw16753783733281399235:=Nat
def tw16804389384200630317:=Nat
def tw16812911443406874918:=Nat
def tw1684992393963567982:=Nat
def tw1695272815503288225:=Nat
def tw16958910543580167243:=Nat
def tw16973683863377484581:=Nat
def tw17024428940086036329:=Nat
def tw1703414892102170817:=Nat
def tw17094489593121264846:=Nat
def tw17186265034404849842:=Nat
def tw17230072843078994337:=Nat
def tw1723460527305353649:=Nat
def tw17275245419981678249:=Nat
def tw17311768311407229513:=Nat
def tw17335430650363629704:=Nat
def tw17344550268509495185:=Nat
def tw17387573072619896574:=Nat
def tw17470093012358579923:=Nat
def tw17561337155882577061:=Nat
def tw17561564350895385686:=Nat
def tw17570613628086572013:=Nat
def tw17579227167012781009:=Nat
def tw17635066189052668310:=Nat
def tw17640395201681400503:=Nat
def tw17676657769788860540:=Nat
def tw17761250268030887227:=Nat
def tw17782828499100824155:=Nat
def tw1787128181893097951:=Nat
def tw17908541517280249191:=Nat
def tw17957393577114816143:=Nat
def tw18020177071917175282:=Nat
def tw18024065029299058325:=Nat
def tw1804664220637658833:=Nat
def tw18085655687958970186:=Nat
def tw181073360494709097:=Nat
def tw18124904932935031607:=Nat
def tw18130935669177042501:=Nat
def tw18146133067433296804:=Nat
def tw18160997370173702013:=Nat
def tw18194328026107992060:=Nat
def tw18196735538391304255:=Nat
def tw18222569136018804416:=Nat
def tw18247235867257500595:=Nat
def tw1829838717776606596:=Nat
def tw1830341380199090365:=Nat
def tw18320117782470668184:=Nat
def tw18326349456723802944:=Nat
def tw18339049949546757175:=Nat
def tw18367499992760912613:=Nat
def tw1852844891198781939:=Nat
def tw1869329816921214454:=Nat
def tw1954682370792244244:=Nat
def tw1973018278803939664:=Nat
def tw1995082198820650835:=Nat
def tw2004572426748633485:=Nat
def tw2108887296115245712:=Nat
def tw2149057239352473052:=Nat
def tw2167329654241225569:=Nat
def tw2195527173387039351:=Nat
def tw2203671469651276244:=Nat
def tw2220765095616679219:=Nat
def tw2248725865860034149:=Nat
def tw2255088543544782998:=Nat
def tw2301733324545392456:=Nat
def tw2337098177652034737:=Nat
def tw2369172450549011562:=Nat
def tw2390208211623866651:=Nat
def tw244939614921799357:=Nat
def tw2484920037008005805:=Nat
def tw2526590450667063954:=Nat
def tw2571072853429588832:=Nat
def tw2661764271581188717:=Nat
def tw2664263313639270143:=Nat
def tw2673817749709873614:=Nat
def tw2673908443886509581:=Nat
def tw2680592441080081117:=Nat
def tw2694861492872636930:=Nat
def tw2700078756489665161:=Nat
def tw2704245624468769592:=Nat
def tw2710202692881783560:=Nat
def tw2762715647066088320:=Nat
def tw2799295449110594236:=Nat
def tw2814370439484890198:=Nat
def tw2845327602160283829:=Nat
def tw2860771829757919226:=Nat
def tw2887748576093333110:=Nat
def tw3019052081282238720:=Nat
def tw3031049634801263193:=Nat
def tw3056137459472848309:=Nat
def tw3067884255136321522:=Nat
def tw3080061714313991580:=Nat
def tw3088238129329401474:=Nat
def tw3103303093783644445:=Nat
def tw310356408724577356:=Nat
def tw3103673889487198086:=Nat
def tw3189768499064665683:=Nat
def tw3197797592010728604:=Nat
def tw3218876985637977964:=Nat
def tw3239883457680075924:=Nat
def tw3257663494511859381:=Nat
def tw329812646784881671:=Nat
def tw3365243090839354019:=Nat
def tw3496888092943494595:=Nat
def tw3518351482066805366:=Nat
def tw3572886941410086233:=Nat
def tw3577234631044454306:=Nat
def tw3627520405483023320:=Nat
def tw3644981985952377640:=Nat
def tw3681774062574797972:=Nat
def tw3770678191557279610:=Nat
def tw3776381609034578448:=Nat
def tw377843011017674854:=Nat
def tw3840243358981869756:=Nat
def tw3849283424669159508:=Nat
def tw3913297763628523824:=Nat
def tw3951639527783926992:=Nat
def tw4004322257932612473:=Nat
def tw4007581090069241818:=Nat
def tw4048188550434523126:=Nat
def tw4057484854884321211:=Nat
def tw4071212159226056012:=Nat
def tw4103152417548598986:=Nat
def tw4163804834759815315:=Nat
def tw4164322274073512520:=Nat
def tw4196062909419123078:=Nat
def tw4216548636275146772:=Nat
def tw4267660689098546694:=Nat
def tw4283901164623361173:=Nat
def tw4311533902847137685:=Nat
def tw4312609237804367838:=Nat
def tw4395101084499740271:=Nat
def tw44556394647230980:=Nat
def tw4538353677119951636:=Nat
def tw4560633741535328953:=Nat
def tw4582331875735497329:=Nat
def tw4590184745639418865:=Nat
def tw4590330849206955607:=Nat
def tw4592162823634001544:=Nat
def tw4622526111523365660:=Nat
def tw4627989341720390105:=Nat
def tw4646688405874267136:=Nat
def tw4647697543887316576:=Nat
def tw466853388866669038:=Nat
def tw4677033809804887327:=Nat
def tw4681402685961316659:=Nat
def tw4742620707124388781:=Nat
def tw4752985116418206237:=Nat
def tw477289427375450226:=Nat
def tw4855693247695444445:=Nat
def tw4897331537335907115:=Nat
def tw4918519906570447881:=Nat
def tw4922931774266817462:=Nat
def tw4932442375377317241:=Nat
def tw4995152647657907984:=Nat
def tw5122447430437229975:=Nat
def tw5181684849630155694:=Nat
def tw5182013126580102816:=Nat
def tw5188213035957208472:=Nat
def tw5269084092815911065:=Nat
def tw5274277012773283010:=Nat
def tw5408248775378405991:=Nat
def tw541784593495536740:=Nat
def tw5444240778720284509:=Nat
def tw5506384079607203088:=Nat
def tw5624064340661183141:=Nat
def tw5682633897093728731:=Nat
def tw5690331393845302362:=Nat
def tw5695125284646124030:=Nat
def tw5696867178666320694:=Nat
def tw5729070727773937590:=Nat
def tw5815204582294553108:=Nat
def tw5830565886360529480:=Nat
def tw5851155309571916172:=Nat
def tw5879563096746091894:=Nat
def tw5912905413537727595:=Nat
def tw5913098675077053431:=Nat
def tw5922133755017515622:=Nat
def tw6019931092392880281:=Nat
def tw6065038406473455693:=Nat
def tw6072451172062109341:=Nat
def tw6080984167494923957:=Nat
def tw6131275589023375671:=Nat
def tw6148241004734100542:=Nat
def tw6168391917156789641:=Nat
def tw6211946477309230954:=Nat
def tw625543161916571263:=Nat
def tw6303164494194924025:=Nat
def tw6317986774180707853:=Nat
def tw6389790597542745139:=Nat
def tw6396240642865736561:=Nat
def tw6458030496738621183:=Nat
def tw6506639597361281199:=Nat
def tw6666207637974648936:=Nat
def tw6669990488523709553:=Nat
def tw667250595825260343:=Nat
def tw6749990321903934855:=Nat
def tw6761036416256691621:=Nat
def tw6808643066850471102:=Nat
def tw6957123211581666360:=Nat
def tw6959647871564840846:=Nat
def tw6959658591329396666:=Nat
def tw6965813863868481943:=Nat
def tw6972392747635824074:=Nat
def tw7022088846941013843:=Nat
def tw7041442585613781363:=Nat
def tw7061238261951772141:=Nat
def tw707047139220974593:=Nat
def tw7104434509454409647:=Nat
def tw7281501773821806727:=Nat
def tw7282320152911188340:=Nat
def tw7290457410200146339:=Nat
def tw7332338536994836130:=Nat
def tw7367217088170100697:=Nat
def tw7379506317873076220:=Nat
def tw7392218691900080332:=Nat
def tw7403310202300896484:=Nat
def tw7416895538206081931:=Nat
def tw7421858061037741603:=Nat
def tw7455676110817086798:=Nat
def tw7464103130104177488:=Nat
def tw7498708193028697670:=Nat
def tw7506252394760713379:=Nat
def tw7527316995408654500:=Nat
def tw7533700381511410919:=Nat
def tw7549546195799773885:=Nat
def tw7555189584814679242:=Nat
def tw7569014839997696090:=Nat
def tw7578646749291100103:=Nat
def tw7583478427588173785:=Nat
def tw7593417436207054269:=Nat
def tw7595428361397342094:=Nat
def tw7665327753565295657:=Nat
def tw7697360761482133593:=Nat
def tw7765269783778954785:=Nat
def tw7775582198159542965:=Nat
def tw7813916268014926056:=Nat
def tw784598272859014988:=Nat
def tw7908484906534727336:=Nat
def tw7921646677299404582:=Nat
def tw7979770049803466041:=Nat
def tw8018522174805894301:=Nat
def tw8062451725000416609:=Nat
def tw8080539086501188458:=Nat
def tw8135147341304695284:=Nat
def tw8164414567726283852:=Nat
def tw8172522691560320443:=Nat
def tw8194858043818592328:=Nat
def tw8261053309569985469:=Nat
def tw8318370877481017780:=Nat
def tw832506602695650560:=Nat
def tw843173042815819323:=Nat
def tw8432043845687700458:=Nat
def tw8496253297847221918:=Nat
def tw8516976377524645006:=Nat
def tw8522676553202629714:=Nat
def tw8560311648742367413:=Nat
def tw857818330242059169:=Nat
def tw8591668707196935372:=Nat
def tw8630313492678370279:=Nat
def tw8635664426790038047:=Nat
def tw8643768166798333225:=Nat
def tw8644137052403696723:=Nat
def tw8647690956929903092:=Nat
def tw8657576720181621690:=Nat
def tw8676101505793173845:=Nat
def tw8695439536072962799:=Nat
def tw8716710281687453421:=Nat
def tw8847007649746093345:=Nat
def tw8886969123943589273:=Nat
def tw8888077365373211886:=Nat
def tw8904080094191589262:=Nat
def tw8910394750617542657:=Nat
def tw9000271332519195838:=Nat
def tw904058545784670290:=Nat
def tw9051583358260720755:=Nat
def tw907651670549439254:=Nat
def tw9087114495309575699:=Nat
def tw9101006069324641981:=Nat
def tw9114911824658787669:=Nat
def tw912148590100006403:=Nat
def tw9137743792165616658:=Nat
def tw919889778903494091:=Nat
def tw9209616293933746059:=Nat
def tw9231034697878387782:=Nat
def tw923103608900179923:=Nat
def tw9262755466668910180:=Nat
def tw9318801533971729417:=Nat
def tw9365359059061822155:=Nat
def tw9401480998999363307:=Nat
def tw9447420293409015572:=Nat
def tw9472062016053287618:=Nat
def tw9565937536452170209:=Nat
def tw9591613000271480951:=Nat
def tw959905047612836437:=Nat
def tw9641237101064571515:=Nat
def tw9656452172216523865:=Nat
def tw9657187874510684789:=Nat
def tw9666769889539751884:=Nat
def tw9711207492290190401:=Nat
def tw9727873076604336013:=Nat
def tw9742723373119123913:=Nat
def tw9819944180909965846:=Nat
def tw983260158392921793:=Nat
def tw9835066940505431648:=Nat
def tw9851207094360323010:=Nat
def tw9852894616269792287:=Nat
def tw9879142379794186619:=Nat
def tw9904449646410745278:=Nat
def tw9915763025270130723:=Nat
def tw993527169326269035:=Nat
def tw994312711238955381:=Nat
def tw9944589004650348217:=Nat
end PySem.W.Fast
open PySem PySem.W PyProof.Rows
set_option maxRecDepth 100000 in
set_option maxHeartbeats 0 in
theorem PySem.Challenge.cw_wordwishes_k61_drawings_judged_holds : PySem.Challenge.rw_wordwishes_k61_drawings_judged.Holds := by
 w_on;o_law;z_head;(case hw=>w_witness2)
 k_fill
 refine L2.yq (fun _=>rfl) ?_;refine L2.FD (S:=My.S_law) My.Fv (k:=14) (x:="_law_script") (l:=PySem.Challenge.rw_wordwishes_k61_drawings_judged) ⟨rfl,by decide,by decide⟩ rfl rfl (fun w h Y=>Y) ?F
 case F =>
  intro w mg fa h KX G hmg
  refine' My.CP KX G hmg ?_ ?_ ?_ ?_ ?_ ?_ ?_ ?_ ?_ ?_ ?_ ?_ ?_ ?_ ?_ ?_ ?_ ?_ ?_ ?_ ?_ ?_ ?_ ?_ ?_ ?_ ?_ ?_ ?_ ?_ ?_ ?_ ?_ ?_ ?_ ?_ ?_ ?_ ?_ ?_ ?_ ?_ ?_ ?_ ?_ ?_ ?_ ?_ ?_ ?_ ?_ ?_ ?_ ?_ ?_ ?_ ?_ ?_ ?_ ?_ ?_ ?_ ?_ ?_ ?_ ?_ ?_ ?_ ?_ ?_ ?_ ?_ ?_ ?_ ?_ ?_ ?_ ?_ ?_ ?_ ?_ ?_ ?_ ?_ ?_ ?_ ?_ ?_ ?_ ?_ ?_ ?_ ?_ ?_ ?_ ?_ ?_ ?_ ?_
  all_goals try first|exact L2.FW (by k_is) (by k_is) (by k_is) (by k_is)|exact L2.xY (by k_is) (by k_is) (by k_is)|k_is|exact rfl
