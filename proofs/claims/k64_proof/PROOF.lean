import PyProof.Rows.All
import Wide.All
import OpenK.AllK
import Wide.FinOn
import Lean
import PyProof.EqAt
import PyProof.EqKinds
import PyProof.TupleCall
import KE.KRevIter
import PyProof.NeKinds
import PyProof.Draws
import PyProof.EnumMake
import KE.KSortTup
import PyProof.ZipIter
import KE.KDictList
import PyProof.AttrMissHeap
import KE.KDictOf
import PyProof.Rows.SetFrom
import PyProof.Rows.SortRunsK
import PyProof.IsRules
import PyProof.SetRoads
import KE.KSortKey
import PyProof.RulesDel
import PyProof.DelItemList
import PySem.Challenge.RW_wordwishes_k64_walks_judged
set_option Elab.async false
set_option linter.all false
set_option maxRecDepth 100000
set_option maxHeartbeats 4000000
set_option bootstrap.genMatcherCode false
set_option compiler.extract_closed false
noncomputable section
open PySem renaming wpAny_bind->o0,Value->A0,Shared->A2,wpAny_pure->A3,sizeLine->A4,Addr->A9,starEach->B1,FuncData->B2,mainGlobals->B7,wpAny->C1,Program->C6,Expr->D0,Builtin->D1,Heap->D6,Spec->D7,model->E2,compareOp->E3,Around->E7,wpAny_newObj_type->F3,wpAny_mono->I0,World->J1,wpAny_ite_false->J3,NameKind->J6,mem_of_lookup->J7,wpAny_field->K4,wpAny_truthy_bool->K5,PassesOwn->K8,wpAny_callSpecial?_slot->K9,wpAny_holding->M7,binaryOp->N1,Stmt->N5,behindInMarks->N6,bootBuiltins->N7,foldedSetIterable->N9,wpAny_loadPart_at->O1,wpAny_Call_Name_kw->P3,backTo->Q4,assignEach->Q5,wpAny_passesOwn->Q6,Paired->R0,wpAny_getItem_str_slice->R9,excClassObj->S0,wpAny_call_entry->S1,wpAny_loadPart'->S4,sliceBounds->S5,eval->S7,wpAny_typeOf->T6,Scope->T8,letOwnedTupleGo->T9,valueAt->U4,wpAny_sequenceKey->U7,wpAny_ite_true->U9,Comprehension->V6,wpAny_standAt->V7,wpAny_execs_nil->W0,post_val_or_str->W4,codeAny_mono->X1,getItem->X8,wpAny_seqItems->X9,wpAny_setField->Z1,swapsWith->Z3,assign->Z4,rawInt->Z5,wpAny_call->Z6,evalPart_none->aa1,attributeBase->aa2,keywordEach->aa3,wpAny_load'->aa5,holding->aa8,IsPart->aa9,sysModules->ab1,typeIs_int->ab2,call_meets->ab3,CmpOp->ab6,codeAny->ab7,subscripted->ab8,Keyword->ab9,wpAny_of_eq->ac0,callerA->ac1,DictEntry->ac4,noteFrame->ac5,BindsTo->ac6,GenState->ac9,Operator->ad0,backToKw->ad1,standAt->ad3,inplaceOp->ad4,lastMarks->ad5,cLine->ad6,cellsFrom->ad7,OwnTail->ad9,Data->ae0
open PySem.W renaming Frag->u8,nsIn->C9,mg_of->F2,mg_none_of->F9,keepIn->K3,fnOf->P4,findIn->P9,hideAll_get->R4,codeIn->S2,hideAll_none->T0,callWith_K->U0,Looks->W7
open PySem.Heap renaming get?_push_of_some->A1,lt_size->B4,get?_push_size->C3,get?_update_other->E1,get?_update_self->N0,get?_none_of_le->Q0,SameBut->T5,size_push->Z0
open List renaming length_map->A5,size_toArray->A6,getElem?_eq_some_iff->A7,mem_singleton->A8,replicate->B3,mem_cons->B9,mem_append->C0,getElem?_eq_getElem->C4,mem_cons_of_mem->C7,length_append->C8,mem_append_right->D2,length_take->D5,getElem?_append_left->E9,lookup_cons->F1,mem_of_getElem?->F5,length_drop->F6,map_cons->J0,mem_cons_self->J5,filter_cons->J8,mem_append_left->K2,getElem?_map->K6,map_append->L4,mem_of_mem_take->L5,all_eq_true->L6,take_of_length_le->L7,replicate_succ->M0,length_pos_iff->M6,append_nil->M9,length_cons->N3,getElem_mem->N4,range->N8,filterMap_cons->O2,nil_append->O4,cons->O5,getElem?_set_self->O6,getElem?_append_right->O7,mem_filterMap->P2,any_cons->P5,drop_eq_getElem_cons->P7,mem_of_mem_drop->Q3,flatten_cons->Q7,all_map->R1,mem_map->R3,getElem?_replicate->R7,find?_cons->S6,map_take->S9,getElem?_set_ne->T1,map_map->T7,nodup_cons->U1,all_cons->U3,map_drop->U6,reverse_cons->U8,not_mem_nil->V5,length_nil->W5,map_nil->X5,mem_range->X6,length->Z9,lookup->ac2,foldl->ac8
open Bool renaming false_eq_true->B0,and_eq_true->B8,false_and->E6,true_and->E8,false_ne_true->F0,eq_iff_iff->Q8,false_xor->T3,and_self->V8,and_true->aa6
open Nat renaming lt_of_lt_of_le->B5,le_refl->B6,ne_of_lt->E4,le_trans->H0,lt_succ_of_lt->O0,lt_irrefl->P1,zero_le->R8,lt_succ_self->V4,min_eq_left->W8,le_of_lt->W9,ne_of_gt->X0,le_succ->ac3
open PySem.Value renaming ref->C2,none->C5,type->E5,bool->V9,str->aa7
open PySem.Str renaming ofString->D3
open PyProof.Rows renaming slot_tuple_getitem->D4,callWith_type1->O3,envOfC->U2,AllBare->V3,kindOf->X4,slicePart_none->X7,tupleItemsOf_->aa0,Subscript_->ac7,IsTup->ad2
open Or renaming inl->D8,inr->Z8
open PySem.Builtin.Tuple renaming tupleExact->D9,tupleItemsOf->O9
open List.cons renaming injEq->F4
open Bind renaming bind->F7
open PySem.PassesOwn renaming never->F8
open PySem.Builtin.Slice renaming slicePlaces->J4,sliceApplied->O8
open PySem.SeqAt renaming EqAt->J9
open False renaming elim->K0
open Array renaming getElem?_eq_some_iff->K1,length_toList->R5
open Option.some renaming inj->K7
open Int renaming eq_ofNat_of_zero_le->L1,toNat_natCast->L9,emod_lt_of_pos->N2,emod_nonneg->Q9
open ForInStep renaming yield->L3
open Option renaming some->L8
open PySem.NameKind renaming free->M8,cell->U5
open PySem.F renaming slot_tuple_iterator_next->P0,slot_int_rmul->W1
open PySem.Obj renaming data_mapFields->P6,mapFields->S8
open PySem.Builtin.SmallTypes renaming nextOf->P8
open PySem.Builtin.Str renaming occurrences->R6
open Ne renaming symm->S3
open PySem.Data renaming fields->T4,dict->Z7,seq->ab4
open PySem.W.Looks renaming here->V0
open Pure renaming pure->V1
open Sum renaming inr->V2,inl->ab5
open PySem.Txt renaming slice->W3,slice_le->ab0
open Eq renaming refl->W6
open PySem.Code renaming compLoop->aa4
open LawfulMonad renaming pure_bind->ad8
set_option compiler.extract_closed false
namespace L2
open PySem PySem.Spec PyProof.Rows
abbrev Key:=Sum Int Str
def lL:Key->A0->Bool
 |.inl k,v=>A0.isInt k v
 |.inr x,v=>A0.isStrOf x v
noncomputable def kP(w:J1):Key->Int
 |.inl k=>hashInt k
 |.inr x=>hashStr w x
theorem bg:∀{k:Key}{v:A0},lL k v=true->(∃i t,k=ab5 i/\v=A0.int i t)∨(∃x t,k=V2 x/\v=aa7 x t)
 |.inl i,v,h=>by
  obtain⟨t,e⟩:=A0.isInt_shape (k:=i) (v:=v) h;exact .inl ⟨i,t,rfl,e⟩
 |.inr x,v,h=>by
  obtain⟨t,e⟩:=A0.isStrOf_shape (x:=x) (v:=v) h;exact .inr ⟨x,t,rfl,e⟩
theorem qu(i:Int)(t:Tok):lL (.inl i) (.int i t)=true:=by simp[lL,A0.isInt]
theorem qC(x:Str)(t:Tok):lL (.inr x) (.str x t)=true:=by simp[lL,A0.isStrOf]
theorem wc(a b:Int):decide ((ab5 a:Key)=ab5 b)=(a==b):=by
 by_cases e:a=b
 ·subst e;simp
 ·have h:¬ (ab5 a:Key)=ab5 b:=λq=>e (ab5.inj q);rw[decide_eq_false h];exact(beq_eq_false_iff_ne.mpr e).symm
theorem v9(a b:Str):decide ((V2 a:Key)=V2 b)=decide (a=b):=by
 by_cases e:a=b
 ·subst e;simp
 ·have h:¬ (V2 a:Key)=V2 b:=λq=>e (V2.inj q);rw[decide_eq_false h,decide_eq_false e]
theorem xF(a:Int)(b:Str):decide ((ab5 a:Key)=V2 b)=false:=decide_eq_false (λq=>nomatch q)
theorem xA(a:Str)(b:Int):decide ((V2 a:Key)=ab5 b)=false:=decide_eq_false (λq=>nomatch q)
def cp(prog:C6)(w:J1):PySem.KeyKind prog w Key where
 is:=lL
 hash:=kP w
 inj:=λv a b ha hb=>by
  rcases bg ha with⟨i,t,rfl,rfl⟩|⟨x,t,rfl,rfl⟩
  ·rcases bg hb with⟨j,u,rfl,e⟩|⟨y,u,rfl,e⟩
   ·injection e with e1 _;rw[e1]
   ·exact nomatch e
  ·rcases bg hb with⟨j,u,rfl,e⟩|⟨y,u,rfl,e⟩
   ·exact nomatch e
   ·injection e with e1 _;rw[e1]
 byValue:=λk v h=>by
  rcases bg h with⟨i,t,rfl,rfl⟩|⟨x,t,rfl,rfl⟩<;>rfl
 pyHash:=λhv h=>by
  rcases bg hv with⟨i,t,rfl,rfl⟩|⟨x,t,rfl,rfl⟩
  ·exact wpAny_pyHash_int h
  ·exact wpAny_pyHash_str h
 eqBool:=λhu hv h=>by
  rcases bg hu with⟨i,t,rfl,rfl⟩|⟨x,t,rfl,rfl⟩
  ·rcases bg hv with⟨j,u,rfl,rfl⟩|⟨y,u,rfl,rfl⟩
   ·rw[wc]at h;exact wpAny_eqBool_int h
   ·rw[xF]at h;exact J9.int_str i t y u _ _ _ _ h
  ·rcases bg hv with⟨j,u,rfl,rfl⟩|⟨y,u,rfl,rfl⟩
   ·rw[xA]at h;exact J9.str_int x t j u _ _ _ _ h
   ·rw[v9]at h;exact wpAny_eqBool_str h
 «strs»:=λk x t v h=>by
  rcases bg h with⟨i,u,rfl,e⟩|⟨y,u,rfl,e⟩
  ·exact nomatch e
  ·injection e with e1 _
   subst e1;cases v<;>rfl
theorem ni(prog:C6)(w:J1)(i:Int)(t:Tok):(cp prog w).is (.inl i) (.int i t)=true:=qu i t
theorem ny(prog:C6)(w:J1)(x:Str)(t:Tok):(cp prog w).is (.inr x) (.str x t)=true:=qC x t
inductive V where
 |non|bl (b:Bool)|int (i:Int)|str (x:Str)|byt (b:Array UInt8)|flt (b:UInt64)|ref (a:A9)|ty (n:String)
 deriving DecidableEq
def aL:V->A0->Prop
 |.non,u=>u=C5
 |.bl b,u=>u=V9 b
 |.int i,u=>∃t,u=A0.int i t
 |.str x,u=>∃t,u=aa7 x t
 |.byt b,u=>∃t,u=A0.bytes b t
 |.flt b,u=>∃t,u=A0.float b t
 |.ref a,u=>u=C2 a
 |.ty n,u=>u=E5 n
abbrev aB:List V->List A0->Prop:=R0 aL
theorem aB.length{xs:List V}{us:List A0}(r:aB xs us):xs.length=us.length:=R0.length r
theorem aB.get:∀{xs:List V}{us:List A0}{i:Nat}{x:V},aB xs us->xs[i]?=some x->∃u,us[i]?=some u/\aL x u
 |_,_,_,_,.nil,e=>by simp at e
 |_,_,0,_,.cons r _,e=>by simp at e;subst e;exact⟨_,rfl,r⟩
 |_,_,i+1,x,.cons _ t,e=>by
  obtain⟨u,h1,h2⟩:=aB.get (i:=i) (x:=x) t (by simpa using e);exact⟨u,by simpa using h1,h2⟩
theorem aB.set{x:V}{u:A0}(r:aL x u):∀{xs:List V}{us:List A0}(i:Nat),aB xs us->aB (xs.set i x) (us.set i u)
 |_,_,_,.nil=>.nil
 |_,_,0,.cons _ t=>.cons r t
 |_,_,i+1,.cons q t=>.cons q (aB.set r i t)
theorem aB.append:∀{xs ys:List V}{us ws:List A0},aB xs us->aB ys ws->aB (xs++ys) (us++ws)
 |_,_,_,_,.nil,s=>s
 |_,_,_,_,.cons r t,s=>.cons r (aB.append t s)
theorem aB.take:∀{xs:List V}{us:List A0}(n:Nat),aB xs us->aB (xs.take n) (us.take n)
 |_,_,0,_=>.nil
 |_,_,_+1,.nil=>.nil
 |_,_,n+1,.cons r t=>.cons r (aB.take n t)
theorem aB.drop:∀{xs:List V}{us:List A0}(n:Nat),aB xs us->aB (xs.drop n) (us.drop n)
 |_,_,0,r=>r
 |_,_,_+1,.nil=>.nil
 |_,_,n+1,.cons _ t=>aB.drop n t
def tU:Option V->Option A0->Prop
 |some v,some u=>aL v u
 |none,none=>True
 |_,_=>False
def KV{κ:Type}:List (κ×V)->List (κ×A0)->Prop:=R0 λ(p:κ×V) (q:κ×A0)=>p.1=q.1/\aL p.2 q.2
def kV:Key->V
 |.inl i=>.int i
 |.inr x=>.str x
inductive HO where
 |lst (xs:List V)
 |tup (xs:List V)
 |dK (kvs:List (Key×V))|dT (kvs:List (List Key×V))
 |set (S:Int->Bool) (n:Nat)
 |ins (C dx:A9) (fs:List (Str×V))
 |own (x:A9)
 |xd (fs:List (Str×V))
 |met (f x:A9)
 |rng (lo hi:Int)
 |frz (o:Obj) (u:HO)
 |tbl (ps:Array A0)
 |ext (φ:D6->Prop)
abbrev Hp:=A9->Option HO
def upd(H:Hp)(a:A9)(o:HO):Hp:=λb=>if b=a then some o else H b
theorem bh{H:Hp}{a:A9}{o:HO}:upd H a o a=some o:=by unfold upd;rw[if_pos rfl]
theorem aO{H:Hp}{a b:A9}{o:HO}(h:b≠a):upd H a o b=H b:=by unfold upd;rw[if_neg h]
theorem uy{H:Hp}{a:A9}{o u:HO}:upd (upd H a o) a u=upd H a u:=by
 funext b;unfold upd;split<;>rfl
theorem bN{H:Hp}{a b:A9}{o:HO}(h:H a=some o)(h':H b=none):a≠b:=by
 intro e;subst e;rw[h]at h';cases h'
def ja(h:D6)(a:A9)(xs:Array A0):Prop:=∃o,h.get? a=some o/\o.cls=.type "tuple"/\(∃n,o.data=.seq xs n)/\o.dict=none
theorem ja.tup{h:D6}{a:A9}{xs:Array A0}(x:ja h a xs):ad2 h a xs:=let⟨o,e,c,d,_⟩:=x;⟨o,e,c,d⟩
theorem ja.lt{h:D6}{a:A9}{xs:Array A0}(x:ja h a xs):a<h.objs.size:=let⟨_,e,_⟩:=x;B4 e
theorem ja.new(h:D6)(xs:Array A0):ja (h.push { cls:=.type "tuple",data:=.seq xs }) h.objs.size xs:=⟨_,C3 h rfl,rfl,⟨_,rfl⟩,rfl⟩
section
variable(P:C6) (w:J1)
def cc(H:Hp)(h:D6)(a:A9):HO->Prop
 |.lst xs=>xs.length<=A4/\∃(its:List A0) (n:Nat),aB xs its/\h.get? a=some { cls:=.type "list",data:=.seq its.toArray n }
 |.tup xs=>xs.length<=A4/\∃its:List A0,aB xs its/\ja h a its.toArray
 |.dK kvs=>kvs.length<=A4/\(a==ab1)=false/\∃vs,KV kvs vs/\h.DictOf (cp P w) a vs
 | .dT kvs => kvs.length ≤ A4 ∧ (a == ab1) = false ∧ ∃ xs:List (List Key × A9 × A0),
   R0 (λ(p:List Key×V) (q:List Key×A9×A0)=>p.1=q.1/\H q.2.1=some (.tup (p.1.map kV))/\aL p.2 q.2.2) kvs xs /\
   ∃o es ep,h.get? a=some o/\o.ExactDict/\o.data=.dict es ep/\es.toList=xs.map (entryOfKey (tupleKind (cp P w)))/\(xs.map (·.1)).Nodup
 |.set S n=>h.SetOf (intKind P w) a S n
 | .ins C dx fs => H dx = some (.own a) ∧ fs.length ≤ 1000 ∧ dx ≠ a ∧ h.get? a = some (PySem.W.instObj C dx) ∧
   ∃mA,h.Ns1 dx mA/\(∀f,tU (fs.lookup f) (mA f))/\PySem.Within mA (fs.map (·.1))
 |.own _=>∃o,h.get? a=some o
 |.xd fs=>∃mA,h.Ns1 a mA/\∀f,tU (fs.lookup f) (mA f)
 |.rng lo hi=>∃t u v,h.get? a=some { cls:=.type "range",data:=.fields #[.int lo t,.int hi u,.int 1 v] }
 |.frz o u=>h.get? a=some o/\cc H h a u
 |.tbl ps=>h.get? a=some { cls:=.none,data:=.fields ps }
 |.met f x=>h.get? a=some (PySem.W.methodObj (.ref f) (.ref x))
 |.ext φ=>φ h/\(∃o,h.get? a=some o)/\∀h1 h2:D6,φ h1->(∀o,h1.get? a=some o->h2.get? a=some o)->φ h2
def HOk(H:Hp)(h:D6):Prop:=∀a o,H a=some o->cc P w H h a o
end
section
variable{P:C6}{w:J1}{H H':Hp}{h h':D6}{a:A9}{o:HO}
theorem cc.lt(x:cc P w H h a o):a<h.objs.size:=by
 cases o with
 |lst xs=>obtain⟨_,_,_,_,e⟩:=x;exact B4 e
 |tup xs=>obtain⟨_,_,_,p⟩:=x;exact p.lt
 |dK kvs=>obtain⟨_,_,_,_,o,_,_,e,_⟩:=x;exact B4 e
 |dT kvs=>obtain⟨_,_,_,_,o,_,_,e,_⟩:=x;exact B4 e
 |set S n=>obtain⟨o,_,_,_,e,_⟩:=x;exact B4 e
 |ins C dx fs=>obtain⟨_,_,_,e,_⟩:=x;exact B4 e
 |own y=>obtain⟨_,e⟩:=x;exact B4 e
 |xd fs=>obtain⟨_,⟨_,_,_,e,_⟩,_⟩:=x;exact B4 e
 |rng lo hi=>obtain⟨_,_,_,e⟩:=x;exact B4 e
 |frz ob u=>obtain⟨e,_⟩:=x;exact B4 e
 |tbl ps=>exact B4 (show h.get? a=some _ from x)
 |met f y=>exact B4 (show h.get? a=some _ from x)
 |ext φ=>obtain⟨_,⟨_,e⟩,_⟩:=x;exact B4 e
theorem R0.mapP{α β:Type}{F G:α->β->Prop}:∀{l₁:List α}{l₂:List β},R0 F l₁ l₂->(∀a b,F a b->G a b)->R0 G l₁ l₂
 |_,_,.nil,_=>.nil
 |_,_,.cons r t,f=>.cons (f _ _ r) (R0.mapP t f)
theorem R0.imp'{α β:Type}{F G:α->β->Prop}(f:∀a b,F a b->G a b){l₁:List α}{l₂:List β}(r:R0 F l₁ l₂):R0 G l₁ l₂:=R0.mapP r f
theorem cc.stay(x:cc P w H h a o)(k:∀b u,(b=a∨H b=some (.own a))->h.get? b=some u->h'.get? b=some u)
  (ho:∀b,H b=some (.own a)->H' b=some (.own a)) (ht:∀b xs,H b=some (.tup xs)->H' b=some (.tup xs)):cc P w H' h' a o:=by
 induction o with
 |lst xs=>obtain⟨z,its,n,r,e⟩:=x;exact⟨z,its,n,r,k _ _ (.inl rfl) e⟩
 |tup xs=>obtain⟨z,its,r,ob,e,c⟩:=x;exact⟨z,its,r,ob,k _ _ (.inl rfl) e,c⟩
 |dK kvs=>obtain⟨z,y,vs,r,ob,es,ep,e,c⟩:=x;exact⟨z,y,vs,r,ob,es,ep,k _ _ (.inl rfl) e,c⟩
 |dT kvs =>
  obtain⟨z,y,xs,r,ob,es,ep,e,c⟩:=x;exact⟨z,y,xs,R0.mapP r λp q z=>⟨z.1,ht _ _ z.2.1,z.2.2⟩,ob,es,ep,k _ _ (.inl rfl) e,c⟩
 |set S n=>obtain⟨ob,es,ep,t,e,c⟩:=x;exact⟨ob,es,ep,t,k _ _ (.inl rfl) e,c⟩
 |ins C dx fs =>
  obtain⟨d,z,ne,e,mA,⟨od,es,ep,e2,c⟩,r⟩:=x;exact⟨ho _ d,z,ne,k _ _ (.inl rfl) e,mA,⟨od,es,ep,k _ _ (.inr d) e2,c⟩,r⟩
 |own y=>obtain⟨ob,e⟩:=x;exact⟨ob,k _ _ (.inl rfl) e⟩
 |xd fs=>obtain⟨mA,⟨od,es,ep,e,c⟩,r⟩:=x;exact⟨mA,⟨od,es,ep,k _ _ (.inl rfl) e,c⟩,r⟩
 |rng lo hi=>obtain⟨t,u,v,e⟩:=x;exact⟨t,u,v,k _ _ (.inl rfl) e⟩
 |frz ob u ih=>obtain⟨e,q⟩:=x;exact⟨k _ _ (.inl rfl) e,ih q⟩
 |tbl ps =>
  have e:h.get? a=some { cls:=.none,data:=.fields ps }:=x;show h'.get? a=some { cls:=.none,data:=.fields ps };exact k a _ (.inl rfl) e
 |met f y =>
  have e:h.get? a=some (PySem.W.methodObj (.ref f) (.ref y)):=x;show h'.get? a=some (PySem.W.methodObj (.ref f) (.ref y));exact k a _ (.inl rfl) e
 |ext φ=>obtain⟨p,⟨o,e⟩,st⟩:=x;exact⟨st _ _ p λo q=>k _ _ (.inl rfl) q,⟨o,k _ _ (.inl rfl) e⟩,st⟩
theorem HOk.lt(x:HOk P w H h)(e:H a=some o):a<h.objs.size:=(x a o e).lt
theorem HOk.fresh(x:HOk P w H h)(e:h.objs.size<=a):H a=none:=by
 cases q:H a with
 |none=>rfl
 |some u=>exact absurd (B5 (x.lt q) e) (P1 _)
theorem HOk.kept(x:HOk P w H h)(k:∀b u,h.get? b=some u->h'.get? b=some u):HOk P w H h':=λa o e =>
 (x a o e).stay (λb u _ q=>k b u q) (λ_ q=>q) λ_ _ q=>q
theorem HOk.laid(x:HOk P w H h)(k:∀b u,h.get? b=some u->h'.get? b=some u)(hp:h.objs.size<=a)(new:cc P w (upd H a o) h' a o):HOk P w (upd H a o) h':=λb u e=>by
 have hn:=x.fresh hp
 by_cases hb:b=a
 ·subst hb;rw[bh]at e;cases e;exact new
 ·rw[aO hb]at e;exact(x b u e).stay (λc v _ q=>k c v q) (λc q=>by rw[aO (bN q hn)];exact q) λc xs q=>by rw[aO (bN q hn)];exact q
end
def Rd(H:Hp)(a:A9)(u:HO):Prop:=H a=some u∨∃o,H a=some (.frz o u)
theorem Rd.of{H:Hp}{a:A9}{u:HO}(h:H a=some u):Rd H a u:=.inl h
theorem Rd.ok{P:C6}{w:J1}{H:Hp}{h:D6}{a:A9}{u:HO}(r:Rd H a u)(x:HOk P w H h):cc P w H h a u:=by
 rcases r with r|⟨o,r⟩
 ·exact x a u r
 ·obtain⟨_,q⟩:=x a _ r;exact q
def Mut:Option HO->Prop
 |some (.lst _)=>True
 |some (.dK _)=>True
 |some (.dT _)=>True
 |some (.set _ _)=>True
 |some (.ins _ _ _)=>True
 |some (.ext _)=>True
 |_=>False
section
variable{P:C6}{w:J1}{H:Hp}{h h':D6}{x e:A9}{o':HO}
theorem HOk.write(ok:HOk P w H h)(mu:Mut (H x))(he:e=x∨H e=some (.own x))(k:∀b u,b≠e->h.get? b=some u->h'.get? b=some u)(heo:∃u,h'.get? e=some u)
  (new:cc P w (upd H x o') h' x o'):HOk P w (upd H x o') h':=λb u q=>by
 have nown:∀c y,H c=some (.own y)->c≠x:=λc y r z=>by subst z;rw[r]at mu;exact mu
 have ntup:∀c xs,H c=some (.tup xs)->c≠x:=λc xs r z=>by subst z;rw[r]at mu;exact mu
 by_cases hb:b=x
 ·subst hb;rw[bh]at q;cases q;exact new
 ·rw[aO hb]at q
  by_cases hbe:b=e
  ·have q':H b=some (.own x):=by
    rcases he with z|z
    ·exact absurd (hbe.trans z) hb
    ·rw[hbe];exact z
   rw[q]at q';cases q';obtain⟨v,hv⟩:=heo;exact⟨v,by rw[hbe];exact hv⟩
  ·refine(ok b u q).stay (λc v hc r=>k c v ?_ r) (λc r=>by rw[aO (nown c b r)];exact r) λc xs r=>by rw[aO (ntup c xs r)];exact r
   rcases hc with rfl|hc
   ·exact hbe
   ·rintro rfl;rcases he with z|z
    ·exact nown c b hc z
    ·rw[hc]at z;cases z;exact hb rfl
end
structure Un(fs ex:List A9) (H H':Hp) (h h':D6):Prop where
 keep:∀b o,h.get? b=some o->H b=none->b∉fs->b∉ex->h'.get? b=some o
 slot:∀b o,h.get? b=some o->H b=none->b∈fs->b∉ex->∃sl,h'.get? b=some { o with slots:=sl }
 free:∀b o,h.get? b=some o->H b=none->b∉ex->H' b=none
 there:∀b o,h.get? b=some o->b∉ex->∃o',h'.get? b=some o'
 tups:∀b xs,H b=some (.tup xs)->H' b=some (.tup xs)
 frzs:∀b o u,H b=some (.frz o u)->H' b=some (.frz o u)
 tbls:∀b ps,H b=some (.tbl ps)->∃more,H' b=some (.tbl (ps++more))
section
variable{fs fs' ex ex':List A9}{H H1 H2:Hp}{h h1 h2 h':D6}{a x e:A9}{o:HO}
theorem Un.any(u:Un fs ex H H1 h h1){b:A9}{ob:Obj}(q:h.get? b=some ob)(n:H b=none)(hx:b∉ex):∃sl,h1.get? b=some { ob with slots:=sl }:=by
 by_cases hb:b∈fs
 ·exact u.slot b ob q n hb hx
 ·exact⟨ob.slots,u.keep b ob q n hb hx⟩
theorem Un.kept(k:∀b u,h.get? b=some u->h'.get? b=some u):Un fs ex H H h h' :=
 ⟨λb ob q _ _ _=>k b ob q,λb ob q _ _ _=>⟨ob.slots,k b ob q⟩,λ_ _ _ n _=>n,λb ob q _=>⟨ob,k b ob q⟩,λ_ _ q=>q,λ_ _ _ q=>q,λ_ ps q=>⟨#[],by rw[q];simp⟩⟩
theorem Un.refl:Un fs ex H H h h:=Un.kept λ_ _ q=>q
theorem Un.laid(k:∀b u,h.get? b=some u->h'.get? b=some u)(hp:h.objs.size<=a)(hn:H a=none):Un fs ex H (upd H a o) h h' where
 keep:=λb u q _ _ _=>k b u q
 slot:=λb u q _ _ _=>⟨u.slots,k b u q⟩
 free:=λb u q n _=>by rw[aO (E4 (B5 (B4 q) hp))];exact n
 there:=λb u q _=>⟨u,k b u q⟩
 tups:=λb xs q=>by rw[aO (bN q hn)];exact q
 frzs:=λb u xs q=>by rw[aO (bN q hn)];exact q
 tbls:=λb ps q=>⟨#[],by rw[aO (bN q hn),q];simp⟩
theorem Un.write(mu:Mut (H x))(he:e=x∨H e=some (.own x))(k:∀b u,b≠e->h.get? b=some u->h'.get? b=some u)(heo:∃u,h'.get? e=some u):Un fs ex H (upd H x o) h h':=by
 have hx:∀b,H b=none->b≠x:=λb n z=>by subst z;rw[n]at mu;exact mu
 have hb:∀b,H b=none->b≠e:=λb n z=>by
  subst z;rcases he with r|r
  ·exact hx b n r
  ·rw[n]at r;cases r
 have hm:∀b u,H b=some u->¬ Mut (some u)->b≠x:=λb u q nm z=>by subst z;rw[q]at mu;exact nm mu
 refine⟨λb u q n _ _=>k b u (hb b n) q,λb u q n _ _=>⟨u.slots,k b u (hb b n) q⟩,λb u q n _=>by rw[aO (hx b n)];exact n,λb u q _=>?_,
  λb xs q=>by rw[aO (hm b _ q λz=>z)];exact q,λb u xs q=>by rw[aO (hm b _ q λz=>z)];exact q,λb ps q=>⟨#[],by rw[aO (hm b _ q λz=>z),q];simp⟩⟩
 by_cases hbe:b=e
 ·subst hbe;exact heo
 ·exact⟨u,k b u hbe q⟩
end
def trk(h:D6)(H:Hp):List A9:=(N8 h.objs.size).filter λa=>(H a).isSome
def mV(h:D6)(H:Hp):D6:=PySem.W.hideAll h (trk h H)
theorem qL(h:D6)(H:Hp):(mV h H).objs.size=h.objs.size:=PySem.W.hideAll_size _ _
theorem rK{h:D6}{H:Hp}{b:A9}{o:Obj}(e:h.get? b=some o)(n:H b=none):(mV h H).get? b=some o :=
 R4 _ e λhm=>by
  have q:(H b).isSome=true:=(List.mem_filter.mp hm).2;rw[n]at q;simp at q
theorem vg{h:D6}{H:Hp}{b:A9}{o:Obj}(e:(mV h H).get? b=some o):h.get? b=some o/\H b=none:=by
 have e':h.get? b=some o:=PySem.W.of_hideAll (trk h H) e;refine⟨e',?_⟩;cases q:H b with
 |none=>rfl
 |some x =>
  have hm:b∈trk h H:=List.mem_filter.mpr ⟨X6.mpr (B4 e'),by simp[q]⟩;have z:(mV h H).get? b=none:=T0 (trk h H) hm;rw[z]at e;cases e
noncomputable def uz(g h:D6)(L:A9):List (A9×Obj):=(N8 h.objs.size).filterMap λa=>if a=L∨(g.get? a).isSome=true then none else(h.get? a).map λo=>(a,o)
def rest(g h:D6)(L d:A9):List (A9×Obj):=(uz g h L).filter λp=>decide (p.1≠d)
structure Mod(K:u8) (mg:Str->Option A0) (base:D6):Prop where
 kin:K.In base
 glob:base.Ns B7 mg
 blt:∃mb,base.Ns builtinsNs mb/\∀x:Str,x≠"__name__"->mb x=N7 x
 nolimit:base.NoLimit
structure Cx where
 prog:C6
 w:J1
 K:u8
 mg:Str->Option A0
 base:D6
 A:E7
 N:List Str
 s₀:A2
 H₀:Hp
 env:Env
 outer:List Env
 stack:List Env
 ex:List A9
 fn:Str->Bool
 calm:Bool
 pn:List (A9×Obj)
 xe:A0->A2->Prop
def frs(l:List Env):List A9:=l.filterMap (·.frame)
abbrev Cx.fs(X:Cx):List A9:=frs X.outer
def Vis(sc:T8)(x:Str):Prop:=sc.names.lookup x=some .local∨sc.names.lookup x=some .cell∨sc.names.lookup x=some .free
def Loc(sc:T8)(x:Str):Prop:=sc.names.lookup x=some .local∨sc.names.lookup x=some .cell
def zR(env:Env)(h:D6)(m:Str->Option A0)(x:Str)(u:A0):Prop :=
 (env.kindOf x=some .local/\m x=some u)∨((env.kindOf x=some .cell∨env.kindOf x=some .free)/\∃c,env.cells.lookup x=some c/\h.IsCell c (some u))
structure Cx.Ok(X:Cx):Prop where
 mod:Mod X.K X.mg X.base
 kind:X.env.scope.kind=.function
 glob:X.env.globals=B7
 blt:X.env.builtins=builtinsNs
 above:X.s₀.heap.objs.size<=X.env.locals
 inj:∀x y c,X.env.cells.lookup x=some c->X.env.cells.lookup y=some c->x=y
 has:∀x,(X.env.kindOf x=some .cell∨X.env.kindOf x=some .free)->∃c,X.env.cells.lookup x=some c
 cab:∀x c,X.fn x=true->X.env.cells.lookup x=some c->X.s₀.heap.objs.size<=c
 hd:X.calm=true->X.A.handled=none
 frames:X.A.frames=some X.stack
 stk:X.stack=X.outer∨(X.stack=X.env::X.outer/\X.env.frame=some X.env.locals)
 exf:∀b∈X.ex,b≠X.env.locals/\∀x c,X.env.cells.lookup x=some c->c≠b
 bs:∀b o,X.base.get? b=some o->X.s₀.heap.get? b=some o/\X.H₀ b=none
 bsz:X.base.objs.size<=X.s₀.heap.objs.size
 noex:∀b o,X.base.get? b=some o->b∉X.ex
 exfs:∀b∈X.ex,b∉X.fs
 funs:X.s₀.heap.FunFrames X.base X.outer
 frf:∀b∈X.fs,X.H₀ b=none
structure Inv(X:Cx) (af:List (A9×Obj)) (σ:List (Option V)) (H:Hp) (s:A2):Prop where
 ok:X.Ok
 os:s.os=X.s₀.os
 bare:V3 s.gens
 base:Un X.fs X.ex X.H₀ H X.s₀.heap s.heap
 loc:∃m,s.heap.Ns X.env.locals m/\∀(i:Nat) (x:Str) (v:V),X.N[i]?=some x->σ[i]?=some (some v)->Vis X.env.scope x->∃u,aL v u/\zR X.env s.heap m x u
 cell:∀x c,X.env.cells.lookup x=some c->∃v,s.heap.IsCell c v
 free:H X.env.locals=none
 freeC:∀x c,X.env.cells.lookup x=some c->H c=none
 pin:∀p∈X.pn++af,s.heap.get? p.1=some p.2/\H p.1=none/\p.1≠X.env.locals/\p.1∉X.fs/\∀v,p.2.data≠.cell v
 hok:HOk X.prog X.w H s.heap
 len:σ.length=X.N.length
section
variable{X:Cx}{af:List (A9×Obj)}{σ:List (Option V)}{H H':Hp}{s:A2}{h':D6}
theorem Cx.Ok.nofr(ok:X.Ok){b:A9}{o:Obj}(e:X.base.get? b=some o):b∉X.fs:=λhb=>by
 have:=(ok.funs.mem hb).1;rw[e]at this;cases this
theorem Inv.bs(I:Inv X af σ H s):∀b o,X.base.get? b=some o->s.heap.get? b=some o/\H b=none:=λb o e =>
 ⟨I.base.keep b o (I.ok.bs b o e).1 (I.ok.bs b o e).2 (I.ok.nofr e) (I.ok.noex b o e),I.base.free b o (I.ok.bs b o e).1 (I.ok.bs b o e).2 (I.ok.noex b o e)⟩
theorem Inv.bk(I:Inv X af σ H s):∀b o,X.base.get? b=some o->s.heap.get? b=some o:=λb o e=>(I.bs b o e).1
theorem Inv.mod(I:Inv X af σ H s):Mod X.K X.mg X.base:=I.ok.mod
theorem Inv.kIn(I:Inv X af σ H s):X.K.In s.heap:=I.ok.mod.kin.keeps I.bk
theorem Inv.lt(I:Inv X af σ H s):X.env.locals<s.heap.objs.size:=let⟨_,hn,_⟩:=I.loc;hn.lt
theorem Inv.sz(I:Inv X af σ H s):X.s₀.heap.objs.size<=s.heap.objs.size:=H0 I.ok.above (W9 I.lt)
theorem Inv.nofs(I:Inv X af σ H s){a:A9}(h:s.heap.objs.size<=a):a∉X.fs:=λhb=>by
 obtain⟨_,o,ho,_⟩:=I.ok.funs.mem hb;exact absurd (B5 (B4 ho) (H0 I.sz h)) (P1 _)
theorem Inv.cne(I:Inv X af σ H s):∀x c,X.env.cells.lookup x=some c->c≠X.env.locals:=λx c e z=>by
 obtain⟨v,o,ho,hd⟩:=I.cell x c e;obtain⟨m,⟨o',es,ep,ho',hd',_⟩,_⟩:=I.loc;rw[z,ho']at ho;cases ho;rw[hd']at hd;cases hd
theorem Inv.funs(I:Inv X af σ H s):s.heap.FunFrames X.base X.outer:=by
 have all:∀(l:List Env),(∀b∈frs l,b∈X.fs)->X.s₀.heap.FunFrames X.base l->s.heap.FunFrames X.base l:=by
  intro l
  induction l with
  |nil=>intro _ _;trivial
  |cons env r ih =>
   intro hs hl;obtain⟨hk,⟨L,o,hf,hn,ho,hd⟩,hr⟩:=hl;have hL:L∈X.fs:=hs L (by unfold frs;rw[O2,hf];exact J5);obtain⟨sl,e⟩:=I.base.slot L o ho (I.ok.frf L hL) hL λz=>I.ok.exfs L z hL;exact⟨hk,⟨L,_,hf,hn,e,hd⟩,ih (λb hb=>hs b (by unfold frs;rw[O2,hf];exact C7 _ hb)) hr⟩
 exact all X.outer (λ_ hb=>hb) I.ok.funs
theorem Inv.stack(I:Inv X af σ H s):s.heap.FunFrames X.base X.stack:=by
 rcases I.ok.stk with e|⟨e,hf⟩
 ·rw[e];exact I.funs
 ·rw[e];obtain⟨m,hn,_⟩:=I.loc;refine .cons (by rw[I.ok.kind];decide) hf hn ?_ I.funs;exact Q0 (H0 I.ok.bsz I.ok.above)
theorem Inv.stkSub(I:Inv X af σ H s):∀b∈frs X.stack,b∈X.env.locals::X.fs:=λb hb=>by
 rcases I.ok.stk with e|⟨e,hf⟩
 ·rw[e]at hb;exact C7 _ hb
 ·rw[e]at hb;unfold frs at hb;rw[O2,hf]at hb;exact hb
theorem Inv.stkFree(I:Inv X af σ H s):∀b∈frs X.stack,H b=none:=λb hb=>by
 rcases B9.mp (I.stkSub b hb)with e|hb
 ·rw[e];exact I.free
 ·obtain⟨_,o,ho,_⟩:=I.ok.funs.mem hb;exact I.base.free b o ho (I.ok.frf b hb) λz=>I.ok.exfs b z hb
theorem Inv.step{g':Array ac9}{t':Nat}{d':Drawn}{ch:List A9}(I:Inv X af σ H s)
  (hch:∀b∈ch,(b∈X.ex∨X.s₀.heap.objs.size<=b)/\b≠X.env.locals/\(∀x c,X.env.cells.lookup x=some c->c≠b)/\∀p∈X.pn++af,p.1≠b)
  (keep:∀b o,b≠X.env.locals->b∉X.fs->b∉ch->s.heap.get? b=some o->H b=none->h'.get? b=some o)
  (slot:∀b o,b≠X.env.locals->b∈X.fs->b∉ch->s.heap.get? b=some o->H b=none->∃sl,h'.get? b=some { o with slots:=sl }) (free:∀b o,b∉ch->s.heap.get? b=some o->H b=none->H' b=none)
  (there:∀b o,b∉ch->s.heap.get? b=some o->∃o',h'.get? b=some o')
  (tups:∀b xs,H b=some (.tup xs)->H' b=some (.tup xs)) (frzs:∀b o u,H b=some (.frz o u)->H' b=some (.frz o u)) (tbls:∀b ps,H b=some (.tbl ps)->∃more,H' b=some (.tbl (ps++more)))
  (ns:∀m,s.heap.Ns X.env.locals m->h'.Ns X.env.locals m) (hok:HOk X.prog X.w H' h') (hg:V3 g') :
  Inv X af σ H' { s with heap:=h',gens:=g',drawn:=d',toks:=t' }:=by
 have neL:∀b o,X.s₀.heap.get? b=some o->b≠X.env.locals:=λb o e=>E4 (B5 (B4 e) I.ok.above);have neC:∀b o,X.s₀.heap.get? b=some o->b∉X.ex->b∉ch:=λb o e hx hb=>by
  rcases(hch b hb).1 with z|z
  ·exact hx z
  ·exact absurd (B5 (B4 e) z) (P1 _)
 have cellK:∀x c,X.env.cells.lookup x=some c->∀v,s.heap.IsCell c v->h'.IsCell c v:=λx c e v ⟨o,ho,hd⟩=>by
  have nch:c∉ch:=λz=>(hch c z).2.2.1 x c e rfl
  by_cases hc:c∈X.fs
  ·obtain⟨sl,q⟩:=slot c o (I.cne x c e) hc nch ho (I.freeC x c e);exact⟨_,q,hd⟩
  ·exact⟨o,keep c o (I.cne x c e) hc nch ho (I.freeC x c e),hd⟩
 refine⟨I.ok,I.os,hg,⟨λb o e n hb hx=>?_,λb o e n hb hx=>?_,λb o e n hx=>?_,λb o e hx=>?_,λb xs e=>tups b xs (I.base.tups b xs e),λb o xs e=>frzs b o xs (I.base.frzs b o xs e),λb ps e=>?_⟩,?_,λx c e=>?_,?_,λx c e=>?_,λp hp=>?_,hok,I.len⟩
 ·exact keep b o (neL b o e) hb (neC b o e hx) (I.base.keep b o e n hb hx) (I.base.free b o e n hx)
 ·obtain⟨sl,e1⟩:=I.base.slot b o e n hb hx;obtain⟨sl',e2⟩:=slot b _ (neL b o e) hb (neC b o e hx) e1 (I.base.free b o e n hx);exact⟨sl',e2⟩
 ·obtain⟨o',e1⟩:=I.base.there b o e hx;exact free b o' (neC b o e hx) e1 (I.base.free b o e n hx)
 ·obtain⟨o',e1⟩:=I.base.there b o e hx;exact there b o' (neC b o e hx) e1
 ·obtain⟨m1,e1⟩:=I.base.tbls b ps e;obtain⟨m2,e2⟩:=tbls b _ e1;exact⟨m1++m2,by rw[e2,Array.append_assoc]⟩
 ·obtain⟨m,hn,hl⟩:=I.loc;refine⟨m,ns m hn,λi x v e1 e2 e3=>?_⟩;obtain⟨u,r,l⟩:=hl i x v e1 e2 e3;refine⟨u,r,?_⟩;rcases l with l|⟨k,c,e,z⟩
  ·exact .inl l
  ·exact .inr ⟨k,c,e,cellK x c e _ z⟩
 ·obtain⟨v,z⟩:=I.cell x c e;exact⟨v,cellK x c e v z⟩
 ·obtain⟨m,⟨o,_,_,ho,_⟩,_⟩:=I.loc;exact free _ o (λz=>(hch _ z).2.1 rfl) ho I.free
 ·obtain⟨v,o,ho,hd⟩:=I.cell x c e;exact free c o (λz=>(hch c z).2.2.1 x c e rfl) ho (I.freeC x c e)
 ·obtain⟨e,n,ne,nf,d⟩:=I.pin p hp;have nch:p.1∉ch:=λz=>(hch p.1 z).2.2.2 p hp rfl;exact⟨keep p.1 p.2 ne nf nch e n,free p.1 p.2 nch e n,ne,nf,d⟩
theorem Inv.un{t':Nat}(I:Inv X af σ H s)(u:Un X.fs [] H H' s.heap h')(hok:HOk X.prog X.w H' h'):Inv X af σ H' { s with heap:=h',toks:=t' }:=by
 obtain⟨m,⟨o,es,ep,ho,r⟩,_⟩:=id I.loc;obtain⟨sl,hL⟩:=u.any ho I.free (by simp);exact I.step (g':=s.gens) (d':=s.drawn) (ch:=[]) (λ_ z=>nomatch z) (λb o _ hb _ e n=>u.keep b o e n hb (by simp)) (λb o _ hb _ e n=>u.slot b o e n hb (by simp)) (λb o _ e n=>u.free b o e n (by simp)) (λb o _ e=>u.there b o e (by simp)) u.tups u.frzs u.tbls (λm' hm=>by
  obtain⟨o',es',ep',ho',r'⟩:=hm;rw[ho]at ho';cases ho';exact⟨_,es',ep',hL,r'⟩) hok I.bare
theorem Inv.call{g':Array ac9}{t':Nat}{d':Drawn}{ch:List A9}(I:Inv X af σ H s)(u:Un (frs X.stack) ch H H' s.heap h')(hok:HOk X.prog X.w H' h')(hg:V3 g')
  (hch:∀b∈ch,(b∈X.ex∨X.s₀.heap.objs.size<=b)/\b≠X.env.locals/\(∀x c,X.env.cells.lookup x=some c->c≠b)/\∀p∈X.pn++af,p.1≠b) :
  Inv X af σ H' { s with heap:=h',gens:=g',drawn:=d',toks:=t' }:=by
 obtain⟨m,⟨o,es,ep,ho,r⟩,_⟩:=id I.loc;obtain⟨sl,hL⟩:=u.any ho I.free λz=>(hch _ z).2.1 rfl;exact I.step (ch:=ch) hch (λb o hL hb hc e n=>u.keep b o e n (λz=>(B9.mp (I.stkSub b z)).elim hL hb) hc) (λb o _ _ hc e n=>u.any e n hc) (λb o hc e n=>u.free b o e n hc) (λb o hc e=>u.there b o e hc) u.tups u.frzs u.tbls (λm' hm=>by
  obtain⟨o',es',ep',ho',r'⟩:=hm;rw[ho]at ho';cases ho';exact⟨_,es',ep',hL,r'⟩) hok hg
theorem Inv.turned{t':Nat}{it:A9}(I:Inv X af σ H s)(k:∀b o,b≠it->s.heap.get? b=some o->h'.get? b=some o)(hn:H it=none)(hL:it≠X.env.locals)
  (h1:it∈X.ex∨X.s₀.heap.objs.size<=it) (h2:∀x c,X.env.cells.lookup x=some c->c≠it) (h3:∀p∈X.pn++af,p.1≠it):Inv X af σ H { s with heap:=h',toks:=t' }:=by
 have nit:∀b u,H b=some u->b≠it:=λb u e z=>by rw[z,hn]at e;cases e
 refine I.step (g':=s.gens) (d':=s.drawn) (ch:=[it]) (λb hb=>?_) (λb o _ _ hc e _=>k b o (λz=>hc (by simp[z])) e) (λb o _ _ hc e _=>⟨o.slots,k b o (λz=>hc (by simp[z])) e⟩) (λ_ _ _ _ n=>n)
  (λb o hc e=>⟨o,k b o (λz=>hc (by simp[z])) e⟩) (λ_ _ e=>e) (λ_ _ _ e=>e) (λb ps e=>⟨#[],by rw[e];simp⟩) (λm hm=>?_) (λb u e=>?_) I.bare
 ·have e:b=it:=by simpa using hb
  subst e;exact⟨h1,hL,h2,h3⟩
 ·obtain⟨o,es,ep,ho,r⟩:=hm;exact⟨o,es,ep,k _ o (S3 hL) ho,r⟩
 ·refine(I.hok b u e).stay (λc v hc q=>k c v ?_ q) (λ_ q=>q) λ_ _ q=>q;rcases hc with z|z
  ·rw[z];exact nit b u e
  ·exact nit c _ z
theorem Inv.tok(I:Inv X af σ H s)(t:Nat):Inv X af σ H { s with toks:=t }:=I.un (h':=s.heap) (t':=t) Un.refl I.hok
theorem Inv.kept{t':Nat}(I:Inv X af σ H s)(k:∀b u,s.heap.get? b=some u->h'.get? b=some u):Inv X af σ H { s with heap:=h',toks:=t' }:=I.un (Un.kept k) (I.hok.kept k)
theorem Inv.laid{a:A9}{o:HO}{t':Nat}(I:Inv X af σ H s)(k:∀b u,s.heap.get? b=some u->h'.get? b=some u)(hp:s.heap.objs.size<=a)(new:cc X.prog X.w (upd H a o) h' a o):
  Inv X af σ (upd H a o) { s with heap:=h',toks:=t' }:=I.un (Un.laid k hp (I.hok.fresh hp)) (I.hok.laid k hp new)
theorem Inv.write{x e:A9}{o:HO}{t':Nat}(I:Inv X af σ H s)(mu:Mut (H x))(he:e=x∨H e=some (.own x))(k:∀b u,b≠e->s.heap.get? b=some u->h'.get? b=some u)(heo:∃u,h'.get? e=some u)
  (new:cc X.prog X.w (upd H x o) h' x o):Inv X af σ (upd H x o) { s with heap:=h',toks:=t' }:=I.un (Un.write mu he k heo) (I.hok.write mu he k heo new)
theorem Inv.pins_of{pins':List (A9×Obj)}(I:Inv X af σ H s)(h:∀p∈pins',s.heap.get? p.1=some p.2/\H p.1=none/\p.1≠X.env.locals/\p.1∉X.fs/\∀v,p.2.data≠.cell v):Inv X pins' σ H s :=
 ⟨I.ok,I.os,I.bare,I.base,I.loc,I.cell,I.free,I.freeC,λp hp=>(C0.mp hp).elim (λz=>I.pin p (K2 _ z)) (h p),I.hok,I.len⟩
theorem nS{N:List Str}(hN:N.Nodup){i j:Nat}{x:Str}(a:N[i]?=some x)(b:N[j]?=some x):i=j:=by
 obtain⟨h1,e1⟩:=A7.mp a;obtain⟨h2,e2⟩:=A7.mp b;exact(List.getElem_inj hN).mp (e1.trans e2.symm)
theorem lE{M:Model}{A:E7}{E:A0->A2->Prop}{i:Nat}{x:Str}{v:V}{u:A0}{Q:Unit->A2->Prop}(I:Inv X af σ H s)(hN:X.N.Nodup)(hi:X.N[i]?=some x)(hx:Loc X.env.scope x)(r:aL v u)
  (h:∀s',Inv X af (σ.set i (some v)) H s'->(∃a,T5 a s.heap s'.heap/\(a=X.env.locals∨X.env.cells.lookup x=some a))->Q () s') (hf:X.fn x=true∨X.env.scope.names.lookup x=some .local:=by first|exact .inl rfl|exact .inr rfl|assumption):C1 M A (storeName X.env x u) Q E s:=by
 obtain⟨m,hn,hl⟩:=id I.loc;have hcls:(X.env.scope.kind==.class || (X.env.scope.kind==.module&&X.env.locals != X.env.globals))=false:=by rw[I.ok.kind];rfl
 have hiσ:i<σ.length:=by rw[I.len];exact(A7.mp hi).1
 have cne:=I.cne;have tracked:∀{a:A9} {h':D6},(∃o,s.heap.get? a=some o/\H a=none)->T5 a s.heap h'->HOk X.prog X.w H h':=λ{a h'} ha hs b ob e=>by
  obtain⟨_,_,hfree⟩:=ha;refine(I.hok b ob e).stay (λc w' hc q=>(hs.2 c ?_).trans q) (λ_ q=>q) λ_ _ q=>q;rintro rfl;rcases hc with rfl|hc
  ·rw[hfree]at e;cases e
  ·rw[hfree]at hc;cases hc
 rcases hx with hk|hk
 ·refine wpAny_storeName_local hk hn (λh' hn' hs=>?_) hcls;obtain⟨oL,_,_,hoL,_⟩:=id hn;refine h _ ⟨I.ok,I.os,I.bare,⟨λb o e n hb hx=>?_,λb o e n hb hx=>?_,I.base.free,λb o e hx=>?_,I.base.tups,I.base.frzs,I.base.tbls⟩,⟨_,hn',λj y v' e1 e2 e3=>?_⟩,λy c e=>?_,I.free,I.freeC,λp hp=>?_,tracked ⟨oL,hoL,I.free⟩ hs,by simpa using I.len⟩ ⟨_,hs,.inl rfl⟩
  ·exact(hs.2 b (E4 (B5 (B4 e) I.ok.above))).trans (I.base.keep b o e n hb hx)
  ·obtain⟨sl,e1⟩:=I.base.slot b o e n hb hx;exact⟨sl,(hs.2 b (E4 (B5 (B4 e) I.ok.above))).trans e1⟩
  ·obtain⟨o',e1⟩:=I.base.there b o e hx;exact⟨o',(hs.2 b (E4 (B5 (B4 e) I.ok.above))).trans e1⟩
  ·by_cases hj:j=i
   ·subst hj;rw[hi]at e1;cases e1;rw[O6 hiσ]at e2;cases e2;exact⟨u,r,.inl ⟨hk,by simp⟩⟩
   ·rw[T1 (S3 hj)]at e2;obtain⟨u',r',q⟩:=hl j y v' e1 e2 e3;refine⟨u',r',?_⟩;rcases q with⟨k,e⟩|⟨k,c,e,z⟩
    ·refine .inl ⟨k,?_⟩;have:y≠x:=λe=>hj (nS hN e1 (e▸hi));simp[this,e]
    ·exact .inr ⟨k,c,e,z.sameBut hs (cne y c e)⟩
  ·obtain⟨w',z⟩:=I.cell y c e;exact⟨w',z.sameBut hs (cne y c e)⟩
  ·obtain⟨e,n,ne,nf,d⟩:=I.pin p hp;exact⟨(hs.2 p.1 ne).trans e,n,ne,nf,d⟩
 ·have hfn:X.fn x=true:=by
   rcases hf with z|z
   ·exact z
   ·rw[z]at hk;cases hk
  obtain⟨c,hc⟩:=I.ok.has x (.inl hk);obtain⟨w',z⟩:=I.cell x c hc;refine wpAny_storeName_cell I.ok.kind hk hc z (λh' hc' hs=>?_);obtain⟨oc,hoc,hocd⟩:=id z;refine h { s with heap:=h' } ⟨I.ok,I.os,I.bare,⟨λb o e n hb hx=>?_,λb o e n hb hx=>?_,I.base.free,λb o e hx=>?_,I.base.tups,I.base.frzs,I.base.tbls⟩,⟨m,hn.sameBut hs (S3 (cne x c hc)),λj y v' e1 e2 e3=>?_⟩,λy c' e=>?_,I.free,I.freeC,λp hp=>?_,tracked ⟨oc,hoc,I.freeC x c hc⟩ hs,by simpa using I.len⟩ ⟨c,hs,.inr hc⟩
  ·exact(hs.2 b (E4 (B5 (B4 e) (I.ok.cab x c hfn hc)))).trans (I.base.keep b o e n hb hx)
  ·obtain⟨sl,e1⟩:=I.base.slot b o e n hb hx;exact⟨sl,(hs.2 b (E4 (B5 (B4 e) (I.ok.cab x c hfn hc)))).trans e1⟩
  ·obtain⟨o',e1⟩:=I.base.there b o e hx;exact⟨o',(hs.2 b (E4 (B5 (B4 e) (I.ok.cab x c hfn hc)))).trans e1⟩
  ·by_cases hj:j=i
   ·subst hj;rw[hi]at e1;cases e1;rw[O6 hiσ]at e2;cases e2;exact⟨u,r,.inr ⟨.inl hk,c,hc,hc'⟩⟩
   ·rw[T1 (S3 hj)]at e2;obtain⟨u',r',q⟩:=hl j y v' e1 e2 e3;refine⟨u',r',?_⟩;rcases q with q|⟨k,c',e,z'⟩
    ·exact .inl q
    ·refine .inr ⟨k,c',e,z'.sameBut hs ?_⟩;rintro rfl;exact hj (nS hN e1 (I.ok.inj _ _ _ e hc▸hi))
  ·by_cases hcc:c'=c
   ·subst hcc;exact⟨_,hc'⟩
   ·obtain⟨w2,z2⟩:=I.cell y c' e;exact⟨w2,z2.sameBut hs hcc⟩
  ·obtain⟨e,n,ne,nf,d⟩:=I.pin p hp;refine⟨(hs.2 p.1 ?_).trans e,n,ne,nf,d⟩;intro q;rw[q,hoc]at e;have q':oc=p.2:=K7 e;exact d w' (by rw[<-q'];exact hocd)
theorem jZ{M:Model}{A:E7}{E:A0->A2->Prop}{i:Nat}{x:Str}{v:V}{u:A0}{Q:Unit->A2->Prop}(I:Inv X af σ H s)(hN:X.N.Nodup)(hi:X.N[i]?=some x)(hx:Loc X.env.scope x)(r:aL v u)
  (h:∀s',Inv X af (σ.set i (some v)) H s'->Q () s') (hf:X.fn x=true∨X.env.scope.names.lookup x=some .local:=by first|exact .inl rfl|exact .inr rfl|assumption):C1 M A (storeName X.env x u) Q E s :=
 lE I hN hi hx r (λs' I' _=>h s' I') hf
theorem Inv.call'{s':A2}{ch:List A9}(I:Inv X af σ H s)(ho:s'.os=s.os)(u:Un (frs X.stack) ch H H' s.heap s'.heap)(hok:HOk X.prog X.w H' s'.heap)(hg:V3 s'.gens)
  (hch:∀b∈ch,(b∈X.ex∨X.s₀.heap.objs.size<=b)/\b≠X.env.locals/\(∀x c,X.env.cells.lookup x=some c->c≠b)/\∀p∈X.pn++af,p.1≠b):Inv X af σ H' s':=by
 obtain⟨h',g',d',t',o'⟩:=s';have e:o'=s.os:=ho;subst e;exact I.call (g':=g') (t':=t') (d':=d') u hok hg hch
end
abbrev XK:=A0->Option A9->Hp->Prop
noncomputable abbrev St:=List (Option V)
abbrev VK:=V->Hp->Prop
abbrev TE:=St->Hp->VK->Prop
abbrev TT:=St->Hp->(Bool->Hp->Prop)->Prop
abbrev TA:=St->Hp->(List V->Hp->Prop)->Prop
structure nZ where
 nx:St->Hp->Prop
 rt:VK
 bk:St->Hp->Prop:=λ_ _=>False
 ct:St->Hp->Prop:=λ_ _=>False
abbrev TS:=nZ->St->Hp->Prop
def EP(X:Cx)(af:List (A9×Obj))(σ:St)(Q:VK)(u:A0)(s':A2):Prop:=∃v H',Inv X af σ H' s'/\aL v u/\Q v H'
def TP(X:Cx)(af:List (A9×Obj))(σ:St)(Q:Bool->Hp->Prop)(b:Bool)(s':A2):Prop:=∃H',Inv X af σ H' s'/\Q b H'
def AP(X:Cx)(af:List (A9×Obj))(σ:St)(Q:List V->Hp->Prop)(us:List A0)(s':A2):Prop:=∃vs H',Inv X af σ H' s'/\aB vs us/\Q vs H'
theorem EP.el{X:Cx}{af:List (A9×Obj)}{σ:St}{Q:VK}{u:A0}{s:A2}{P:Prop}(h:EP X af σ Q u s)(f:∀(v:V) (H:Hp),Inv X af σ H s->aL v u->Q v H->P):P:=by
 obtain⟨x1,x2,a,b,c⟩:=h;exact f x1 x2 a b c
theorem AP.el{X:Cx}{af:List (A9×Obj)}{σ:St}{Q:List V->Hp->Prop}{u:List A0}{s:A2}{P:Prop}(h:AP X af σ Q u s)(f:∀(v:List V) (H:Hp),Inv X af σ H s->aB v u->Q v H->P):P:=by
 obtain⟨x1,x2,a,b,c⟩:=h;exact f x1 x2 a b c
theorem TP.el{X:Cx}{af:List (A9×Obj)}{σ:St}{Q:Bool->Hp->Prop}{u:Bool}{s:A2}{P:Prop}(h:TP X af σ Q u s)(f:∀(H:Hp),Inv X af σ H s->Q u H->P):P:=by
 obtain⟨x1,a,b⟩:=h;exact f x1 a b
def SP(X:Cx)(af:List (A9×Obj))(D:nZ)(f:Flow)(s':A2):Prop :=
 match f with
 |.next=>∃ σ' H',Inv X af σ' H' s'/\D.nx σ' H'
 |.brk=>∃ σ' H',Inv X af σ' H' s'/\D.bk σ' H'
 |.cont=>∃ σ' H',Inv X af σ' H' s'/\D.ct σ' H'
 |.ret u=>∃v σ' H',Inv X af σ' H' s'/\aL v u/\D.rt v H'
def PE(X:Cx)(e:D0)(t:TE):Prop :=
 ∀(af:List (A9×Obj)) (s:A2) (σ:St) (H:Hp) (Q:VK),Inv X af σ H s->t σ H Q->C1 (E2 X.prog X.w) X.A (S7 e X.env) (EP X af σ Q) X.xe s
def PT(X:Cx)(e:D0)(t:TT):Prop :=
 ∀(af:List (A9×Obj)) (s:A2) (σ:St) (H:Hp) (Q:Bool->Hp->Prop),Inv X af σ H s->t σ H Q->C1 (E2 X.prog X.w) X.A (isTrue e X.env (S7 e X.env)) (TP X af σ Q) X.xe s
def PW(X:Cx)(e:D0)(t:TT):Prop :=
 ∀(whole:Sem A0) (af:List (A9×Obj)) (s:A2) (σ:St) (H:Hp) (Q:Bool->Hp->Prop),Inv X af σ H s->t σ H Q->C1 (E2 X.prog X.w) X.A (isTrue e X.env whole) (TP X af σ Q) X.xe s
theorem PW.pt{X:Cx}{e:D0}{t:TT}(h:PW X e t):PT X e t:=h _
def PA(X:Cx)(es:List D0)(t:TA):Prop :=
 ∀(pos:Pos) (af:List (A9×Obj)) (s:A2) (σ:St) (H:Hp) (Q:List V->Hp->Prop),Inv X af σ H s->t σ H Q->C1 (E2 X.prog X.w) X.A (spliced (Q4 pos (B1 es X.env))) (AP X af σ Q) X.xe s
def PS(X:Cx)(st:N5)(t:TS):Prop :=
 ∀(af:List (A9×Obj)) (s:A2) (σ:St) (H:Hp) (D:nZ),Inv X af σ H s->t D σ H->C1 (E2 X.prog X.w) X.A (exec st X.env) (SP X af D) X.xe s
def PSs(X:Cx)(st:List N5)(t:TS):Prop :=
 ∀(af:List (A9×Obj)) (s:A2) (σ:St) (H:Hp) (D:nZ),Inv X af σ H s->t D σ H->C1 (E2 X.prog X.w) X.A (execs st X.env) (SP X af D) X.xe s
theorem thn{α:Type}{t:Sem α}{Q Q':α->A2->Prop}{M:Model}{A:E7}{E:A0->A2->Prop}{s:A2}(h:C1 M A t Q E s)(hQ:∀a s,Q a s->Q' a s):C1 M A t Q' E s:=I0 h hQ λ_ _ x=>x
section
variable{X:Cx}
def rh(i:Nat):TE:=λσ H Q=>∃v,σ[i]?=some (some v)/\Q v H
def tC(v:V):TE:=λ_ H Q=>Q v H
theorem pf{i:Nat}{x:Str}{pos:Pos}(hN:X.N[i]?=some x)(hv:Vis X.env.scope x)(hd:(x==("__debug__":Str))=false:=by decide)(hcd:(x==("__classdict__":Str))=false:=by decide):PE X (.Name x pos) (rh i):=by
 intro af s σ H Q I h;obtain⟨v,e,h⟩:=h;obtain⟨m,hn,hl⟩:=I.loc;obtain⟨u,r,l⟩:=hl i x v hN e hv;have fin:EP X af σ Q u s:=⟨v,H,I,r,h⟩;rcases l with⟨hk,hm⟩|⟨hk,c,hc,hcell⟩
 ·exact wpAny_Name (wpAny_loadName_local I.ok.kind hk hn hm fin) hd
 ·rcases hk with hk|hk
  ·exact wpAny_Name (wpAny_loadName_cell I.ok.kind hk hc hcell fin) hd
  ·exact wpAny_Name (wpAny_loadName_free I.ok.kind hk hc hcell fin hcd) hd
theorem xB{i j pos}:PE X (.Constant (.int i) j pos) (tC (.int i)):=λ_ _ _ H _ I h=>wpAny_Constant_int ⟨.int i,H,I.tok _,⟨_,rfl⟩,h⟩
theorem vJ{b j pos}:PE X (.Constant (.bool b) j pos) (tC (.bl b)):=λ_ _ _ H _ I h=>Constant_bool ⟨.bl b,H,I,rfl,h⟩
theorem xJ{j pos}:PE X (.Constant .none j pos) (tC .non):=λ_ _ _ H _ I h=>Constant_none ⟨.non,H,I,rfl,h⟩
theorem tG{x j pos}:PE X (.Constant (.str x) j pos) (tC (.str x)):=λ_ _ _ H _ I h=>Calls.Constant_str ⟨.str x,H,I.tok _,⟨_,rfl⟩,h⟩
def Gl(X:Cx)(x:Str):Prop:=X.env.kindOf x=some .globalImplicit
theorem dS{E:A0->A2->Prop}{af:List (A9×Obj)}{s:A2}{σ:St}{H:Hp}{x:Str}{u:A0}{pos:Pos}{Q:A0->A2->Prop}(I:Inv X af σ H s)(hg:Gl X x)(hm:X.mg x=some u)(h:Q u s)
  (hd:(x==("__debug__":Str))=false:=by decide):C1 (E2 X.prog X.w) X.A (S7 (.Name x pos) X.env) Q E s :=
 Calls.Name_function_global I.ok.kind hg (Calls.loadGlobal_global (by rw[I.ok.glob];exact I.mod.glob.keeps I.bk) hm h) hd
theorem iJ{E:A0->A2->Prop}{af:List (A9×Obj)}{s:A2}{σ:St}{H:Hp}{x:Str}{u:A0}{pos:Pos}{Q:A0->A2->Prop}(I:Inv X af σ H s)(hg:Gl X x)(hm:X.mg x=none)(hv:N7 x=some u)(h:Q u s)
  (hn:x≠"__name__":=by decide) (hd:(x==("__debug__":Str))=false:=by decide):C1 (E2 X.prog X.w) X.A (S7 (.Name x pos) X.env) Q E s:=by
 obtain⟨mb,h1,h2⟩:=I.mod.blt;exact Calls.Name_function_global I.ok.kind hg (Calls.loadGlobal_builtin (by rw[I.ok.glob];exact I.mod.glob.keeps I.bk) hm (by rw[I.ok.blt];exact h1.keeps I.bk) ((h2 x hn).trans hv) h) hd
theorem qj{x:Str}{v:V}{u:A0}{pos:Pos}(hg:Gl X x)(hm:X.mg x=some u)(r:aL v u)(hd:(x==("__debug__":Str))=false:=by decide):PE X (.Name x pos) (tC v) :=
 λ_ _ _ H _ I h=>dS I hg hm ⟨v,H,I,r,h⟩ hd
theorem vw{x:Str}{v:V}{u:A0}{pos:Pos}(hg:Gl X x)(hm:X.mg x=none)(hv:N7 x=some u)(r:aL v u)(hn:x≠"__name__":=by decide)(hd:(x==("__debug__":Str))=false:=by decide):PE X (.Name x pos) (tC v) :=
 λ_ _ _ H _ I h=>iJ I hg hm hv ⟨v,H,I,r,h⟩ hn hd
variable{a b:D0}{ta tb:TE}{pos:Pos}
def PC(X:Cx)(op:ab6)(a b:D0)(t:TE):Prop :=
 ∀(af:List (A9×Obj)) (s:A2) (σ:St) (H:Hp) (Q:VK),Inv X af σ H s->t σ H Q ->
  C1 (E2 X.prog X.w) X.A (S7 a X.env) (λv s₁=>C1 (E2 X.prog X.w) X.A (S7 b X.env) (λu s₂=>C1 (E2 X.prog X.w) X.A (E3 op v u) (EP X af σ Q) X.xe s₂) X.xe s₁) X.xe s
theorem gR(b:D0){op:ab6}(h:op≠.In)(h2:op≠.NotIn):N6 op b=false:=by
 have e1:(op==ab6.In)=false:=by cases op<;>first|rfl|exact absurd rfl h
 have e2:(op==ab6.NotIn)=false:=by cases op<;>first|rfl|exact absurd rfl h2
 cases b<;>simp[N6,e1,e2]
def tB(t:TE):TT:=λσ H Q=>t σ H λx H1=>∃c,x=.bl c/\Q c H1
theorem wg{op:ab6}{t:TE}(h:PC X op a b t)(h1:N6 op b=false:=by first|exact gR _ (by decide) (by decide)|rfl):PT X (.Compare a [op] [b] pos) (tB t):=by
 intro af s σ H Q I hw;refine wpAny_isTrue_Compare1 (thn (h af s σ H _ I hw) λv s1 h1=>thn h1 λu s2 h2=>thn h2 λc s3 hup=>hup.el λx H1 I1 r1 q1=>?_) h1;obtain⟨d,rfl,q⟩:=q1;cases r1;exact K5 ⟨H1,I1,q⟩
theorem wK{e:D0}{t:TE}(h:PE X e t)(he:∀whole,isTrue e X.env whole=(do let v <-whole;ad3 e.pos;aa8 [v] (truthy v)):=by intro _;rfl):PT X e (tB t):=by
 intro af s σ H Q I hw;refine isTrue_plain (thn (h af s σ H _ I hw) λv s1 hup=>hup.el λx H1 I1 r1 q1=>?_) (he _);obtain⟨d,rfl,q⟩:=q1;cases r1;exact K5 ⟨H1,I1,q⟩
variable{tA tB':TT}{rest:List D0}
def z0(t u:TT):TT:=λσ H Q=>t σ H λc H1=>if c=true then u σ H1 Q else Q false H1
def tOr(t u:TT):TT:=λσ H Q=>t σ H λc H1=>if c=true then Q true H1 else u σ H1 Q
def zN(t:TT):TT:=λσ H Q=>t σ H λc H1=>Q (!c) H1
theorem uj(ha:PT X a tA):PW X (.BoolOp .And [a] pos) tA:=by
 intro wh af s σ H Q I h;refine isTrue_and (thn (ha af s σ H Q I h) λc s1 e=>?_);cases c with
 |true=>exact isTrue_and_nil e
 |false=>exact e
theorem wz(ha:PT X a tA):PW X (.BoolOp .Or [a] pos) tA:=by
 intro wh af s σ H Q I h;refine isTrue_or (thn (ha af s σ H Q I h) λc s1 e=>?_);cases c with
 |false=>exact isTrue_or_nil e
 |true=>exact e
theorem wO(ha:PT X a tA)(hb:PW X (.BoolOp .And (b::rest) pos) tB'):PW X (.BoolOp .And (a::b::rest) pos) (z0 tA tB'):=by
 intro wh af s σ H Q I h;refine isTrue_and (thn (ha af s σ H _ I h) λc s1 hup=>hup.el λH1 I1 q1=>?_);cases c with
 |true=>exact hb wh af s1 σ H1 Q I1 q1
 |false=>exact⟨H1,I1,q1⟩
theorem zl(ha:PT X a tA)(hb:PW X (.BoolOp .Or (b::rest) pos) tB'):PW X (.BoolOp .Or (a::b::rest) pos) (tOr tA tB'):=by
 intro wh af s σ H Q I h;refine isTrue_or (thn (ha af s σ H _ I h) λc s1 hup=>hup.el λH1 I1 q1=>?_);cases c with
 |true=>exact⟨H1,I1,q1⟩
 |false=>exact hb wh af s1 σ H1 Q I1 q1
theorem xv(ha:PT X a tA):PT X (.UnaryOp .Not a pos) (zN tA):=by
 intro af s σ H Q I h;exact isTrue_not (ha af s σ H (λc H1=>Q (!c) H1) I h)
def zF(ta tb:TE):TE:=λσ H Q=>ta σ H λx H1=>∃c,x=.bl c/\if c=true then tb σ H1 Q else Q (.bl false) H1
def y9(ta:TE):TE:=λσ H Q=>ta σ H λx H1=>∃c,x=.bl c/\Q (.bl (!c)) H1
theorem xH{op}{t:TE}(h:PE X a t):PE X (.BoolOp op [a] pos) t:=λaf s σ H Q I hw=>BoolOp_one (h af s σ H Q I hw)
theorem wf(ha:PE X a ta)(hb:PE X (.BoolOp .And (b::rest) pos) tb):PE X (.BoolOp .And (a::b::rest) pos) (zF ta tb):=by
 intro af s σ H Q I h;refine BoolOp_and (thn (ha af s σ H _ I h) λv s1 hup=>hup.el λx H1 I1 r1 q1=>?_);obtain⟨c,rfl,q1⟩:=q1;cases r1;refine K5 ?_;cases c with
 |true=>exact hb af s1 σ H1 Q I1 q1
 |false=>exact⟨.bl false,H1,I1,rfl,q1⟩
theorem wu(ha:PE X a ta):PE X (.UnaryOp .Not a pos) (y9 ta):=by
 intro af s σ H Q I h;refine UnaryOp_ (thn (ha af s σ H _ I h) λv s1 hup=>hup.el λx H1 I1 r1 q1=>?_);obtain⟨c,rfl,q1⟩:=q1;cases r1;exact not_of (K5 ⟨.bl (!c),H1,I1,rfl,q1⟩)
def tIf(t:TT)(ta tb:TE):TE:=λσ H Q=>t σ H λc H1=>if c=true then ta σ H1 Q else tb σ H1 Q
theorem sH{c:D0}(hc:PT X c tA)(ha:PE X a ta)(hb:PE X b tb):PE X (.IfExp c a b pos) (tIf tA ta tb):=by
 intro af s σ H Q I h;refine wpAny_IfExp (thn (hc af s σ H _ I h) λd s1 hup=>hup.el λH1 I1 q1=>?_);cases d with
 |true=>exact ha af s1 σ H1 Q I1 q1
 |false=>exact hb af s1 σ H1 Q I1 q1
end
def SqL(K:u8)(H:Hp)(a:A9)(xs:List V):Prop :=
 Rd H a (.lst xs) ∨
  ∃(o:Obj) (its:Array A0) (n:Nat),K.lookup a=some o/\o.cls=.type "list"/\o.dict=none/\o.data=.seq its n/\its.size<=A4/\aB xs its.toList
def SqT(K:u8)(H:Hp)(a:A9)(xs:List V):Prop :=
 Rd H a (.tup xs) ∨
  ∃(o:Obj) (its:Array A0) (n:Nat),K.lookup a=some o/\(o.cls=.type "tuple"/\o.dict=none)/\o.data=.seq its n/\its.size<=A4/\aB xs its.toList
noncomputable def Ad:A0->Option V
 |.none=>some .non
 |.bool b=>some (.bl b)
 |.int i _=>some (.int i)
 |.str x _=>some (.str x)
 |.bytes b _=>some (.byt b)
 |.float b _=>some (.flt b)
 |.ref a=>some (.ref a)
 |.type n=>some (.ty n)
 |_=>none
theorem aL.abs{x:V}{u:A0}(r:aL x u):Ad u=some x:=by
 cases x with
 |non=>cases r;rfl
 |bl _=>cases r;rfl
 |int _=>obtain⟨t,rfl⟩:=r;rfl
 |str _=>obtain⟨t,rfl⟩:=r;rfl
 |byt _=>obtain⟨t,rfl⟩:=r;rfl
 |flt _=>obtain⟨t,rfl⟩:=r;rfl
 |ref _=>cases r;rfl
 |ty _=>cases r;rfl
theorem aL.inj{x y:V}{u:A0}(r:aL x u)(q:aL y u):x=y:=K7 (r.abs.symm.trans q.abs)
theorem aB.inj:∀{xs ys:List V}{us:List A0},aB xs us->aB ys us->xs=ys
 |_,_,_,.nil,.nil=>rfl
 |_,_,_,.cons r t,.cons r' t'=>by rw[r.inj r',aB.inj t t']
section
variable{X:Cx}{af:List (A9×Obj)}{σ:St}{H:Hp}{s:A2}{a:A9}{xs ys:List V}
theorem SqL.of{K:u8}(h:H a=some (.lst xs)):SqL K H a xs:=.inl (.inl h)
theorem SqT.of{K:u8}(h:H a=some (.tup xs)):SqT K H a xs:=.inl (.inl h)
theorem Inv.list(I:Inv X af σ H s)(h:SqL X.K H a xs):∃its:List A0,aB xs its/\PlainL s.heap a its.toArray/\xs.length<=A4:=by
 rcases h with h|⟨o,its,n,hk,hc,hd,hs,hz,r⟩
 ·obtain⟨z,its,n,r,e⟩:=h.ok I.hok;exact⟨its,r,⟨_,n,e,rfl,rfl,rfl⟩,z⟩
 ·refine⟨its.toList,r,⟨o,n,I.kIn a o hk,hc,hd,by simpa using hs⟩,?_⟩;have e:=r.length;simp only[R5]at e
  lia
theorem Inv.tuple(I:Inv X af σ H s)(h:SqT X.K H a xs):∃its:List A0,aB xs its/\ad2 s.heap a its.toArray/\xs.length<=A4:=by
 rcases h with h|⟨o,its,n,hk,hc,hs,hz,r⟩
 ·obtain⟨z,its,r,p⟩:=h.ok I.hok;exact⟨its,r,p.tup,z⟩
 ·refine⟨its.toList,r,⟨o,I.kIn a o hk,hc.1,n,by simpa using hs⟩,?_⟩;have e:=r.length;simp only[R5]at e
  lia
theorem Inv.list_inj(I:Inv X af σ H s)(h:SqL X.K H a xs)(h':SqL X.K H a ys):xs=ys:=by
 obtain⟨its,r,⟨o,n,e,_,_,d⟩,_⟩:=I.list h;obtain⟨its',r',⟨o',n',e',_,_,d'⟩,_⟩:=I.list h';rw[e]at e';cases e';rw[d]at d';injection d' with d1 _
 have:its=its':=by simpa using congrArg Array.toList d1
 subst this;exact r.inj r'
theorem Inv.tuple_inj(I:Inv X af σ H s)(h:SqT X.K H a xs)(h':SqT X.K H a ys):xs=ys:=by
 obtain⟨its,r,⟨o,e,_,n,d⟩,_⟩:=I.tuple h;obtain⟨its',r',⟨o',e',_,n',d'⟩,_⟩:=I.tuple h';rw[e]at e';cases e';rw[d]at d';injection d' with d1 _
 have:its=its':=by simpa using congrArg Array.toList d1
 subst this;exact r.inj r'
end
abbrev Cx.wish(X:Cx)(E:A0->A2->Prop):Cx:={ X with xe:=E }
abbrev Cx.nox(X:Cx):Cx:=X.wish λ_ _=>False
theorem Cx.Ok.wish{X:Cx}(ok:X.Ok)(E:A0->A2->Prop):(X.wish E).Ok :=
 ⟨ok.mod,ok.kind,ok.glob,ok.blt,ok.above,ok.inj,ok.has,ok.cab,ok.hd,ok.frames,ok.stk,ok.exf,ok.bs,ok.bsz,ok.noex,ok.exfs,ok.funs,ok.frf⟩
theorem Cx.Ok.unwish{X:Cx}{E:A0->A2->Prop}(ok:(X.wish E).Ok):X.Ok :=
 ⟨ok.mod,ok.kind,ok.glob,ok.blt,ok.above,ok.inj,ok.has,ok.cab,ok.hd,ok.frames,ok.stk,ok.exf,ok.bs,ok.bsz,ok.noex,ok.exfs,ok.funs,ok.frf⟩
section
variable{X:Cx}{af:List (A9×Obj)}{σ:St}{H:Hp}{s:A2}{E:A0->A2->Prop}
theorem Inv.wish(I:Inv X af σ H s)(E:A0->A2->Prop):Inv (X.wish E) af σ H s:=⟨I.ok.wish E,I.os,I.bare,I.base,I.loc,I.cell,I.free,I.freeC,I.pin,I.hok,I.len⟩
theorem Inv.unwish(I:Inv (X.wish E) af σ H s):Inv X af σ H s:=⟨I.ok.unwish,I.os,I.bare,I.base,I.loc,I.cell,I.free,I.freeC,I.pin,I.hok,I.len⟩
theorem SP.unwish{D:nZ}{f:Flow}{s':A2}(h:SP (X.wish E) af D f s'):SP X af D f s':=by
 cases f with
 |next=>obtain⟨σ',H',I,q⟩:=h;exact⟨σ',H',I.unwish,q⟩
 |brk=>obtain⟨σ',H',I,q⟩:=h;exact⟨σ',H',I.unwish,q⟩
 |cont=>obtain⟨σ',H',I,q⟩:=h;exact⟨σ',H',I.unwish,q⟩
 |ret u=>obtain⟨v,σ',H',I,r,q⟩:=h;exact⟨v,σ',H',I.unwish,r,q⟩
theorem PSs.nox{st:List N5}{t:TS}(h:PSs X.nox st t):PSs X st t:=λaf s σ H D I hw =>
 I0 (h af s σ H D (I.wish _) hw) (λ_ _ q=>q.unwish) λ_ _ z=>K0 z
end
section
variable{X:Cx}{st:N5}{rest:List N5}{t u:TS}{e:D0}{te:TE}{pos:Pos}
def zI:TS:=λD σ H=>D.nx σ H
def z6(t u:TS):TS:=λD σ H=>t { D with nx:=u D } σ H
theorem pP:PSs X [] zI:=λ_ _ σ H _ I h=>W0 ⟨σ,H,I,h⟩
theorem jJ(h1:PS X st t)(h2:PSs X rest u):PSs X (st::rest) (z6 t u):=by
 intro af s σ H D I h;refine wpAny_execs_cons (thn (h1 af s σ H { D with nx:=u D } I h) λf s1 q=>?_);cases f with
 |next =>
  obtain⟨σ',H',I',q⟩:=q;exact h2 af s1 σ' H' D I' q
 |ret v=>exact q
 |brk=>exact q
 |cont=>exact q
theorem ji(h1:PS X st t):PSs X [st] t:=by
 intro af s σ H D I h;refine wpAny_execs_cons (thn (h1 af s σ H D I h) λf s1 q=>?_);cases f with
 |next=>exact W0 q
 |ret v=>exact q
 |brk=>exact q
 |cont=>exact q
theorem Inv.quiet{af:List (A9×Obj)}{σ:St}{H:Hp}{s:A2}(I:Inv X af σ H s):interactive X.env=false:=by simp[interactive,I.ok.kind]
def yl(te:TE):TS:=λD σ H=>te σ H λ_ H1=>D.nx σ H1
theorem pG(he:PE X e te)(hs:Z3 e none pos.line X.env=V1 false:=by rfl):PS X (.Expr e pos) (yl te):=by
 intro af s σ H D I h;exact wpAny_Expr_any (thn (he af s σ H _ I h) λv s1 hup=>hup.el λx H1 I1 r1 q1=>⟨σ,H1,I1,q1⟩) I.quiet hs
def ye(te:TE):TS:=λD σ H=>te σ H D.rt
theorem l9(he:PE X e te):PS X (.Return (some e) pos) (ye te):=by
 intro af s σ H D I h;exact wpAny_Return_some (thn (he af s σ H _ I h) λv s1 hup=>hup.el λx H1 I1 r1 q1=>⟨x,σ,H1,I1,r1,q1⟩)
def Ag(c:TT)(t u:TS):TS:=λD σ H=>c σ H λb H1=>if b=true then t D σ H1 else u D σ H1
theorem vT{c:D0}{a b:List N5}{tc:TT}(hc:PT X c tc)(ha:PSs X a t)(hb:PSs X b u):PS X (.If c a b pos) (Ag tc t u):=by
 intro af s σ H D I h;refine wpAny_If (thn (hc af s σ H _ I h) λd s1 hup=>hup.el λH1 I1 q1=>?_);cases d with
 |true=>exact ha af s1 σ H1 D I1 q1
 |false=>exact hb af s1 σ H1 D I1 q1
end
abbrev TG:=V->St->Hp->(St->Hp->Prop)->Prop
abbrev TGs:=List V->St->Hp->(St->Hp->Prop)->Prop
def PG(X:Cx)(target:D0)(t:TG):Prop :=
 ∀(af:List (A9×Obj)) (s:A2) (σ:St) (H:Hp) (v:V) (u:A0) (Q:St->Hp->Prop),Inv X af σ H s->aL v u->t v σ H Q ->
  C1 (E2 X.prog X.w) X.A (Z4 target X.env u) (λ_ s'=>∃ σ' H',Inv X af σ' H' s'/\Q σ' H') X.xe s
def PGs(X:Cx)(ts:List D0)(t:TGs):Prop :=
 ∀(af:List (A9×Obj)) (s:A2) (σ:St) (H:Hp) (vs:List V) (us:List A0) (Q:St->Hp->Prop),Inv X af σ H s->aB vs us->t vs σ H Q ->
  C1 (E2 X.prog X.w) X.A (assignInOrder ((Q5 ts X.env).map (·.2)) us) (λ_ s'=>∃ σ' H',Inv X af σ' H' s'/\Q σ' H') X.xe s
abbrev TIp:=V->V->Hp->VK->Prop
def PIp(X:Cx)(op:ad0)(t:TIp):Prop :=
 ∀(af:List (A9×Obj)) (s:A2) (σ:St) (H:Hp) (x y:V) (v u:A0) (Q:VK),Inv X af σ H s->aL x v->aL y u->t x y H Q ->
  C1 (E2 X.prog X.w) X.A (ad4 op v u) (EP X af σ Q) X.xe s
section
variable{X:Cx}{pos:Pos}
def nc(i:Nat):TG:=λv σ H Q=>Q (σ.set i (some v)) H
theorem pA{i:Nat}{x:Str}(hN:X.N.Nodup)(hi:X.N[i]?=some x)(hx:Loc X.env.scope x)(hf:X.fn x=true∨X.env.scope.names.lookup x=some .local:=by first|exact .inl rfl|exact .inr rfl|assumption):PG X (.Name x pos) (nc i):=by
 intro af s σ H v u Q I r h;exact wpAny_assign_Name (jZ I hN hi hx r (λs' I'=>⟨_,H,I',h⟩) hf)
def zy:TGs:=λvs σ H Q=>vs=[]/\Q σ H
def vH(t:TG)(u:TGs):TGs:=λvs σ H Q=>∃v r,vs=v::r/\t v σ H λσ' H'=>u r σ' H' Q
theorem uD:PGs X [] zy:=by
 intro af s σ H vs us Q I r h;obtain⟨e,h⟩:=h;subst e;cases r;exact assignInOrder_nil ⟨σ,H,I,h⟩
theorem sg{e:D0}{es:List D0}{t:TG}{u:TGs}(h1:PG X e t)(h2:PGs X es u)
  (hs:(Q5 (e::es) X.env).map (·.2)=Z4 e X.env::(Q5 es X.env).map (·.2):=by rfl):PGs X (e::es) (vH t u):=by
 intro af s σ H vs us Q I r h;obtain⟨v,vr,e1,h⟩:=h;subst e1;cases r with
 |cons r rr =>
  rw[hs];refine assignInOrder_cons (thn (h1 af s σ H _ _ _ I r h) λ_ s1 ⟨σ1,H1,I1,q1⟩=>?_);exact h2 af s1 σ1 H1 _ _ Q I1 rr q1
def zj(K:u8)(n:Nat)(t:TGs):TG:=λv σ H Q=>∃a xs,v=.ref a/\SqT K H a xs/\xs.length=n/\t xs σ H Q
theorem vY{es:List D0}{k:Nat}{t:TGs}{n:Nat}(hc:X.calm=true)(h:PGs X es t)
  (hn:(Q5 es X.env).length=n:=by rfl) (hst:(Q5 es X.env).findIdx? (·.1)=none:=by rfl):PG X (.Tuple es k pos) (zj X.K n t):=by
 intro af s σ H v u Q I r hw;obtain⟨a,xs,e1,hq,hl,hw⟩:=hw;subst e1;cases r;obtain⟨its,rv,ht,hz⟩:=I.tuple hq;refine assign_Tuple_tuple (I.ok.hd hc) ht (by simp[hn,<-hl,rv.length]) hst λh' hx=>?_;have I1:Inv X af σ H { s with heap:=h' }:=I.kept (t':=s.toks) λb o e=>hx b o (E4 (B4 e)) e;exact h af _ σ H xs _ Q I1 (by simpa using rv) hw
def wA(te:TE)(g:TG):TS:=λD σ H=>te σ H λx H1=>g x σ H1 D.nx
theorem sS{tg e:D0}{te:TE}{g:TG}(he:PE X e te)(hg:PG X tg g)(hs:swapsWithSole [tg] e pos.line X.env=V1 false:=by rfl)(hw:swappedStores [tg] e X.env=V1 none:=by rfl)
  (h1:(Q5 [tg] X.env).map (·.2)=[Z4 tg X.env]:=by rfl):PS X (.Assign [tg] e pos) (wA te g):=by
 intro af s σ H D I h;refine wpAny_Assign_stores (thn (he af s σ H _ I h) λv s1 hup=>hup.el λx H1 I1 r1 q1=>?_) hs hw;rw[h1];exact thn (hg af s1 σ H1 x v _ I1 r1 q1) λ_ s2 q=>q
theorem wR{i:Nat}{x:Str}{e:D0}{te:TE}{pos':Pos}(hN:X.N.Nodup)(hi:X.N[i]?=some x)(hx:Loc X.env.scope x)(he:PE X e te)(hs:Z3 e (some (.Name x pos')) pos.line X.env=V1 false:=by rfl)(hf:X.fn x=true∨X.env.scope.names.lookup x=some .local:=by first|exact .inl rfl|exact .inr rfl|assumption):
  PS X (.Assign [.Name x pos'] e pos) (wA te (nc i)):=by
 intro af s σ H D I h;refine wpAny_Assign_Name (thn (he af s σ H _ I h) λv s1 hup=>hup.el λy H1 I1 r1 q1=>?_) hs;exact jZ I1 hN hi hx r1 (λs2 I2=>⟨_,H1,I2,q1⟩) hf
def zQ(i:Nat)(te:TE)(ti:TIp):TS:=λD σ H=>∃x,σ[i]?=some (some x)/\te σ H λy H1=>ti x y H1 λz H2=>D.nx (σ.set i (some z)) H2
theorem xc{i:Nat}{x:Str}{e:D0}{te:TE}{op:ad0}{ti:TIp}{pos':Pos}(hN:X.N.Nodup)(hi:X.N[i]?=some x)(hx:Loc X.env.scope x)(he:PE X e te)(ho:PIp X op ti)(hf:X.fn x=true∨X.env.scope.names.lookup x=some .local:=by first|exact .inl rfl|exact .inr rfl|assumption):
  PS X (.AugAssign (.Name x pos') op e pos) (zQ i te ti):=by
 intro af s σ H D I h;obtain⟨v,e1,h⟩:=h;obtain⟨m,hn,hl⟩:=I.loc;have vis:Vis X.env.scope x:=by rcases hx with k|k;exact .inl k;exact .inr (.inl k)
 obtain⟨u,r,l⟩:=hl i x v hi e1 vis;refine wpAny_AugAssign_Name ?_;have go:C1 (E2 X.prog X.w) X.A (S7 e X.env) (λw s₂=>C1 (E2 X.prog X.w) X.A (ad4 op u w) (λr s₃=>C1 (E2 X.prog X.w) X.A (storeName X.env x r) (λ_=>SP X af D .next) X.xe s₃) X.xe s₂) X.xe s:=by
  refine thn (he af s σ H _ I h) λw s1 hup=>hup.el λy H1 I1 r1 q1=>?_;refine thn (ho af s1 σ H1 v y u w _ I1 r r1 q1) λz s2 hup=>hup.el λzv H2 I2 r2 q2=>?_;exact jZ I2 hN hi hx r2 (λs3 I3=>⟨_,H2,I3,q2⟩) hf
 rcases l with⟨hk,hm⟩|⟨hk,c,hc,hcell⟩
 ·exact wpAny_loadName_local I.ok.kind hk hn hm go
 ·rcases hk with hk|hk
  ·exact wpAny_loadName_cell I.ok.kind hk hc hcell go
  ·rcases hx with k|k
   ·have:X.env.scope.names.lookup x=some .free:=hk;rw[k]at this;cases this
   ·have:X.env.scope.names.lookup x=some .free:=hk;rw[k]at this;cases this
def ipI(f:Int->Int->Int):TIp:=λx y H Q=>∃i j,x=.int i/\y=.int j/\Q (.int (f i j)) H
theorem xK:PIp X .Add (ipI λi j=>i+j):=by
 intro af s σ H x y v u Q I r1 r2 h;obtain⟨i,j,e1,e2,q⟩:=h;subst e1;subst e2;obtain⟨t,rfl⟩:=r1;obtain⟨t',rfl⟩:=r2;exact iadd_int ⟨.int _,H,I.tok _,⟨_,rfl⟩,q⟩
end
section
variable{X:Cx}{pos:Pos}
def xo(c:TT)(tb:TS):TS:=λD σ H=>∃W:Nat->St->Hp->Prop,(∃m,W m σ H)/\∀m σ H,W m σ H ->
 c σ H λb H1=>if b=true then ∃N:St->Hp->Prop,(∀ σ' H',N σ' H'->∃m',m'<m/\W m' σ' H')/\tb { D with nx:=N,ct:=N,bk:=D.nx } σ H1 else D.nx σ H1
theorem rn{c:D0}{body:List N5}{tc:TT}{tb:TS}(hp:K8 (E2 X.prog X.w) X.A X.env X.xe)(hc:PT X c tc)(hb:PSs X body tb):PS X (.While c body [] pos) (xo tc tb):=by
 intro af s σ H D I h;obtain⟨W,⟨m0,w0⟩,turn⟩:=h;refine wpAny_While (codeAny_whileLoop (λn s'=>∃ σ' H',Inv X af σ' H' s'/\W n σ' H') ?_ m0 ⟨σ,H,I,w0⟩);rintro n s1 ⟨σ1,H1,I1,w1⟩;refine Q6 hp (thn (hc af s1 σ1 H1 _ I1 (turn n σ1 H1 w1)) λb s2 hup=>hup.el λH2 I2 q2=>?_);cases b with
 |true =>
  obtain⟨N,hN,q2⟩:=q2;rw[if_pos rfl];refine Q6 hp (thn (hb af s2 σ1 H2 _ I2 q2) λf s3 q3=>?_);cases f with
  |next =>
   obtain⟨σ3,H3,I3,n3⟩:=q3;obtain⟨m',hm,w3⟩:=hN σ3 H3 n3;exact⟨m',hm,σ3,H3,I3,w3⟩
  |cont =>
   obtain⟨σ3,H3,I3,n3⟩:=q3;obtain⟨m',hm,w3⟩:=hN σ3 H3 n3;exact⟨m',hm,σ3,H3,I3,w3⟩
  |brk=>exact q3
  |ret v=>exact q3
 |false =>
  rw[if_neg F0];exact W0 ⟨σ1,H2,I2,q2⟩
end
structure It where
 go:Nat->Hp->Prop
 yld:Nat->Hp->V->Hp->Prop
 stop:Nat->Hp->Prop
def dB(X:Cx)(af:List (A9×Obj))(H:Hp)(b:A9):Prop :=
 H b=none/\b≠X.env.locals/\b∉X.fs/\(b∈X.ex∨X.s₀.heap.objs.size<=b)/\(∀x c,X.env.cells.lookup x=some c->c≠b)/\∀p∈X.pn++af,p.1≠b
theorem Inv.fpOk{X:Cx}{af:List (A9×Obj)}{σ:St}{H H':Hp}{s:A2}{b:A9}(I:Inv X af σ H s)(hb:s.heap.objs.size<=b)(hn:H' b=none):dB X af H' b:=by
 refine⟨hn,X0 (B5 I.lt hb),I.nofs hb,.inr (H0 I.sz hb),λx c e z=>?_,λp hp z=>?_⟩
 ·obtain⟨v,q⟩:=I.cell x c e;exact absurd (B5 q.lt (by rw[z];exact hb)) (P1 _)
 ·exact absurd (B5 (B4 (I.pin p hp).1) (by rw[z];exact hb)) (P1 _)
structure mx(P:C6) (w:J1) (K:u8) (tg:D0) (J:It) (fp:List A9) (it:A9) (tn:Nat->D6->Prop):Prop where
 mem:it∈fp
 obj:∀i h,tn i h->∀b∈fp,∃o,h.get? b=some o/\∀v,o.data≠.cell v
 keep:∀i h h',tn i h->(∀b∈fp,∀o,h.get? b=some o->h'.get? b=some o)->tn i h'
 item:∀(X:Cx),X.prog=P->X.w=w->X.K=K->X.calm=true->∀(i:Nat) (af:List (A9×Obj)) (s:A2) (σ:St) (H:Hp) (E:A0->A2->Prop),Inv X af σ H s->(∀b∈fp,dB X af H b)->tn i s.heap->J.go i H ->
  C1 (E2 P w) X.A (pyNext (.ref it)) (λr s1=>∃u,r=some u /\
   C1 (E2 P w) X.A (T9 tg (.ref it) u) (λ_ s2=>∃x H',Inv X af σ H' s2/\aL x u/\J.yld i H x H'/\tn (i+1) s2.heap/\∀b∈fp,H' b=none) E s1) E s
 done:∀(X:Cx),X.prog=P->X.w=w->X.K=K->X.calm=true->∀(i:Nat) (af:List (A9×Obj)) (s:A2) (σ:St) (H:Hp) (E:A0->A2->Prop),Inv X af σ H s->(∀b∈fp,dB X af H b)->tn i s.heap->J.stop i H ->
  C1 (E2 P w) X.A (pyNext (.ref it)) (λr s1=>r=none/\Inv X af σ H s1) E s
 self:∀(A:E7) (i:Nat) (s:A2) (Q:A0->A2->Prop) (E:A0->A2->Prop),tn i s.heap->Q (.ref it) s->C1 (E2 P w) A (pyIter (.ref it)) Q E s
abbrev TI:=St->Hp->(It->Hp->Prop)->Prop
def PIE(X:Cx)(af:List (A9×Obj))(σ:St)(tg:D0)(R:It->Hp->Prop)(itv:A0)(s2:A2):Prop :=
 ∃(it:A9) (fp:List A9) (tn:Nat->D6->Prop) (J:It) (H':Hp),itv=.ref it/\Inv X af σ H' s2/\mx X.prog X.w X.K tg J fp it tn/\tn 0 s2.heap/\(∀b∈fp,dB X af H' b)/\R J H'
def PI(X:Cx)(tg iter:D0)(wi:TI):Prop :=
 ∀(af:List (A9×Obj)) (s:A2) (σ:St) (H:Hp) (R:It->Hp->Prop),Inv X af σ H s->wi σ H R ->
  C1 (E2 X.prog X.w) X.A (S7 iter X.env) (λv s1=>C1 (E2 X.prog X.w) X.A (pyIter v) (PIE X af σ tg R) X.xe s1) X.xe s
theorem qa{M:Model}{A:E7}{E:A0->A2->Prop}{s:A2}{tg:D0}{it:A9}{u:A0}{o:Obj}{n:String}{vs:Array A0}{Q:Unit->A2->Prop}(ho:s.heap.get? it=some o)(hc:o.cls=.type n)(hd:o.data=.fields vs)
    (hn:["enumerate","zip","dict_itemiterator","dict_reverseitemiterator","odict_iterator","itertools.zip_longest","itertools.pairwise"].contains n=false) (hQ:Q () s):C1 M A (T9 tg (.ref it) u) Q E s:=by
  unfold T9;cases tg<;>first
    |exact A3 hQ
    |(cases u<;>first
        |exact A3 hQ
        | (refine o0 (wpAny_load ho ?_)
           rw[hc,hd];show C1 M A (if(["enumerate","zip","dict_itemiterator","dict_reverseitemiterator","odict_iterator","itertools.zip_longest","itertools.pairwise"].contains n&&vs[0]?==some (Z5 _))=true then _ else _) Q E s;rw[if_neg (by intro h;rw[hn,E6]at h;cases h)];exact A3 hQ))
def Itl(K:u8)(a:A9):It :=
 ⟨λi H=>∃xs x,SqL K H a xs/\xs[i]?=some x,λi H x H'=>H'=H/\∀xs,SqL K H a xs->xs[i]?=some x,λi H=>∃xs,SqL K H a xs/\xs.length<=i⟩
def Itt(K:u8)(a:A9):It :=
 ⟨λi H=>∃xs x,SqT K H a xs/\xs[i]?=some x,λi H x H'=>H'=H/\∀xs,SqT K H a xs->xs[i]?=some x,λi H=>∃xs,SqT K H a xs/\xs.length<=i⟩
def Itr(lo:Int)(n:Nat):It:=⟨λi _=>i<n,λi H x H'=>H'=H/\x=.int (lo+i),λi _=>n<=i⟩
theorem lT{P:C6}{w:J1}{K:u8}{tg:D0}(a it:A9):mx P w K tg (Itl K a) [it] it (λi h=>h.IsListIter it a i) where
 mem:=by simp
 obj:=λi h st b hb=>by
  have e:b=it:=by simpa using hb
  subst e;obtain⟨o,e,c,d⟩:=st;exact⟨o,e,λv z=>by rw[d]at z;cases z⟩
 keep:=λi h h' st k=>st.at λo e=>k it (by simp) o e
 item:=by
  intro X hP hw hK hc i af s σ H E I hf st hg;subst hP hw hK;obtain⟨xs,x,hq,hx⟩:=hg;obtain⟨its,rv,p,hz⟩:=I.list hq;obtain⟨u,hu,ru⟩:=rv.get hx;obtain⟨f0,f1,f2,f3,f4,f5⟩:=hf it (by simp);refine wpAny_pyNext_list_item st p.isList (x:=u) (by simpa using hu) λh' st' sb=>?_;have I1:Inv X af σ H { s with heap:=h' }:=I.turned (t':=s.toks) (λb o hb e=>(sb.2 b hb).trans e) f0 f1 f3 f4 f5;obtain⟨o,e,c,d⟩:=id st';exact⟨u,rfl,qa (s:={ s with heap:=h' }) e c d (by decide) ⟨x,H,I1,ru,⟨rfl,λys hy=>by rw[I.list_inj hy hq];exact hx⟩,st',λb hb=>(hf b hb).1⟩⟩
 done:=by
  intro X hP hw hK hc i af s σ H E I hf st hg;subst hP hw hK;obtain⟨xs,hq,hx⟩:=hg;obtain⟨its,rv,p,hz⟩:=I.list hq;obtain⟨f0,f1,f2,f3,f4,f5⟩:=hf it (by simp);have hl:=rv.length;exact wpAny_pyNext_list_end (I.ok.hd hc) st p.isList (by simp;lia) λh' eb=>⟨rfl,I.turned (t':=s.toks) (λb o hb e=>eb b o hb e) f0 f1 f3 f4 f5⟩
 self:=λ_ _ _ _ _ st h=>wpAny_pyIter_listiter st h
theorem pd{P:C6}{w:J1}{K:u8}{tg:D0}(a it:A9):mx P w K tg (Itt K a) [it] it (λi h=>h.IsTupleIter it a i) where
 mem:=by simp
 obj:=λi h st b hb=>by
  have e:b=it:=by simpa using hb
  subst e;obtain⟨o,e,c,d⟩:=st;exact⟨o,e,λv z=>by rw[d]at z;cases z⟩
 keep:=λi h h' st k=>st.at λo e=>k it (by simp) o e
 item:=by
  intro X hP hw hK hc i af s σ H E I hf st hg;subst hP hw hK;obtain⟨xs,x,hq,hx⟩:=hg;obtain⟨its,rv,p,hz⟩:=I.tuple hq;obtain⟨u,hu,ru⟩:=rv.get hx;obtain⟨f0,f1,f2,f3,f4,f5⟩:=hf it (by simp);refine wpAny_pyNext_tuple_item st (show s.heap.IsTuple a its.toArray from p) (x:=u) (by simpa using hu) λh' st' sb=>?_;have I1:Inv X af σ H { s with heap:=h' }:=I.turned (t':=s.toks) (λb o hb e=>(sb.2 b hb).trans e) f0 f1 f3 f4 f5;obtain⟨o,e,c,d⟩:=id st';exact⟨u,rfl,qa (s:={ s with heap:=h' }) e c d (by decide) ⟨x,H,I1,ru,⟨rfl,λys hy=>by rw[I.tuple_inj hy hq];exact hx⟩,st',λb hb=>(hf b hb).1⟩⟩
 done:=by
  intro X hP hw hK hc i af s σ H E I hf st hg;subst hP hw hK;obtain⟨xs,hq,hx⟩:=hg;obtain⟨its,rv,p,hz⟩:=I.tuple hq;obtain⟨f0,f1,f2,f3,f4,f5⟩:=hf it (by simp);have hl:=rv.length;exact wpAny_pyNext_tuple_end (I.ok.hd hc) st (show s.heap.IsTuple a its.toArray from p) (by simp;lia) λh' eb=>⟨rfl,I.turned (t':=s.toks) (λb o hb e=>eb b o hb e) f0 f1 f3 f4 f5⟩
 self:=λ_ _ _ _ _ st h=>wpAny_pyIter_tupleiter st h
theorem oM{P:C6}{w:J1}{K:u8}{tg:D0}(it:A9)(lo:Int)(n:Nat):mx P w K tg (Itr lo n) [it] it (λi h=>IsRangeIter h it (lo+(i:Nat)*1) ((n:Int)-(i:Nat)) 1) where
 mem:=by simp
 obj:=λi h st b hb=>by
  have e:b=it:=by simpa using hb
  subst e;exact⟨_,st,λv z=>by
   have z':T4 _=ae0.cell v:=z;cases z'⟩
 keep:=λi h h' st k=>k it (by simp) _ st
 item:=by
  intro X hP hw hK hc i af s σ H E I hf st hg;subst hP hw hK;obtain⟨f0,f1,f2,f3,f4,f5⟩:=hf it (by simp);have W:=Walks.range (prog:=X.prog) (w:=X.w) (I.ok.hd hc) it lo 1 n;refine W.item i s _ _ hg st λv h' tk hv st' kk=>?_;obtain⟨t,rfl⟩:=hv;have I1:Inv X af σ H { s with heap:=h',toks:=tk }:=I.turned (λb o hb e=>kk b o (by simpa using hb) e) f0 f1 f3 f4 f5;refine⟨_,rfl,qa (s:={ s with heap:=h',toks:=tk }) (n:="range_iterator") st' rfl rfl (by decide) ⟨.int (lo+i),H,I1,⟨t,?_⟩,⟨rfl,rfl⟩,st',λb hb=>(hf b hb).1⟩⟩;rw[Int.mul_one]
 done:=by
  intro X hP hw hK hc i af s σ H E I hf st hg;subst hP hw hK;obtain⟨f0,f1,f2,f3,f4,f5⟩:=hf it (by simp);exact wpAny_pyNext_range_end (I.ok.hd hc) st (by have:n<=i:=hg;lia) λh' eb=>⟨rfl,I.turned (t':=s.toks) (λb o hb e=>eb b o hb e) f0 f1 f3 f4 f5⟩
 self:=λ_ _ _ _ _ st h=>wpAny_pyIter_rangeiter st h
section
variable{X:Cx}{tg:D0}
theorem nJ{af:List (A9×Obj)}{σ:St}{H:Hp}{s:A2}{R:It->Hp->Prop}{E:A0->A2->Prop}{lo hi:Int}{t u v:Tok}{tk:Nat}(I:Inv X af σ H s)(h1:-(2 ^ 62)<=lo)(h2:lo<2 ^ 62)(h3:-(2 ^ 62)<=hi)(h4:hi<2 ^ 62)
  (q:R (Itr lo (hi-lo).toNat) H):C1 (E2 X.prog X.w) X.A (pyIter (.ref s.heap.objs.size)) (PIE X af σ tg R) E { s with heap:=s.heap.push { cls:=.type "range",data:=.fields #[.int lo t,.int hi u,.int 1 v] },toks:=tk }:=by
 refine wpAny_pyIter_range (IsRange.new ..) (small_one h1 h2 h3 h4) ?_;have I1:Inv X af σ H { s with heap:=s.heap.push { cls:=.type "range",data:=.fields #[.int lo t,.int hi u,.int 1 v] },toks:=tk }:=I.kept λb o e=>A1 _ e;refine⟨(s.heap.push { cls:=.type "range",data:=.fields #[.int lo t,.int hi u,.int 1 v] }).objs.size,[(s.heap.push { cls:=.type "range",data:=.fields #[.int lo t,.int hi u,.int 1 v] }).objs.size],_,_,H,rfl,
  I1.kept (t':=tk) λb o e=>A1 _ e,oM _ lo (hi-lo).toNat,?_,λb hb=>?_,q⟩
 ·have e1:lo+((0:Nat):Int)*1=lo:=by simp
  have e2:(((hi-lo).toNat:Nat):Int)-((0:Nat):Int)=D1.Range.rangeSize lo hi 1:=by rw[rangeSize_one];split<;>lia
  show IsRangeIter _ _ (lo+((0:Nat):Int)*1) ((((hi-lo).toNat:Nat):Int)-((0:Nat):Int)) 1;rw[e1,e2];exact C3 _ rfl
 ·have e:b=(s.heap.push { cls:=.type "range",data:=.fields #[.int lo t,.int hi u,.int 1 v] }).objs.size:=by simpa using hb
  subst e;exact I1.fpOk (B6 _) (I1.hok.fresh (B6 _))
def yT(ta:TA):TI:=λσ H R=>ta σ H λvs H1=>∃j:Int,vs=[.int j]/\-(2 ^ 62)<=j/\j<2 ^ 62/\R (Itr 0 j.toNat) H1
def y7(ta:TA):TI:=λσ H R=>ta σ H λvs H1=>∃i j:Int,vs=[.int i,.int j]/\(-(2 ^ 62)<=i/\i<2 ^ 62/\-(2 ^ 62)<=j/\j<2 ^ 62)/\R (Itr i (j-i).toNat) H1
theorem qv{a:D0}{ta:TA}{p pos:Pos}(hg:Gl X "range")(hm:X.mg "range"=none)(ha:PA X [a] ta)(hs:B1 [a] X.env=[(false,S7 a X.env)]:=by rfl):PI X tg (.Call (.Name "range" p) [a] [] pos) (yT ta):=by
 intro af s σ H R I h;refine Call_ (iJ I hg hm boot_range (O3 (thn (ha pos af s σ H _ I h) λus s1 hup=>hup.el λvs H1 I1 r1 q1=>?_) hs rfl));obtain⟨j,e,q1,q2,q⟩:=q1;subst e;cases r1 with
 |cons r rr =>
  cases rr;obtain⟨t,rfl⟩:=r;exact call_range_1 (nJ I1 (by lia) (by lia) q1 q2 (by simpa using q))
theorem rj{a b:D0}{ta:TA}{p pos:Pos}(hg:Gl X "range")(hm:X.mg "range"=none)(ha:PA X [a,b] ta)(hs:B1 [a,b] X.env=[(false,S7 a X.env),(false,S7 b X.env)]:=by rfl)(hs2:B1 [b] X.env=[(false,S7 b X.env)]:=by rfl):
  PI X tg (.Call (.Name "range" p) [a,b] [] pos) (y7 ta):=by
 intro af s σ H R I h;refine Call_ (iJ I hg hm boot_range (O3 (thn (ha pos af s σ H _ I h) λus s1 hup=>hup.el λvs H1 I1 r1 q1=>?_) (by rw[hs,hs2]) (by rw[hs2];rfl)));obtain⟨i,j,e,⟨q1,q2,q3,q4⟩,q⟩:=q1;subst e;cases r1 with
 |cons r rr =>
  cases rr with
  |cons r' rr =>
   cases rr;obtain⟨t,rfl⟩:=r;obtain⟨t',rfl⟩:=r';exact call_range_2 (nJ I1 q1 q2 q3 q4 q)
def Al(wi:TI)(g:TG)(tb:TS):TS:=λD σ H=>wi σ H λJ H1=>∃W:Nat->Nat->St->Hp->Prop,(∃m,W 0 m σ H1)/\∀i m σ H,W i m σ H ->
 (J.stop i H/\D.nx σ H)∨(J.go i H/\∃N:St->Hp->Prop,(∀ σ' H',N σ' H'->∃m',m'<m/\W (i+1) m' σ' H')/\∀x H',J.yld i H x H'->g x σ H' λσ2 H2=>tb { D with nx:=N,ct:=N,bk:=D.nx } σ2 H2)
def gk(fp:List A9)(h:D6):List (A9×Obj):=fp.filterMap λb=>(h.get? b).map λo=>(b,o)
theorem eA{fp:List A9}{h:D6}{b:A9}{o:Obj}(hb:b∈fp)(e:h.get? b=some o):(b,o)∈gk fp h:=P2.mpr ⟨b,hb,by rw[e];rfl⟩
theorem lj{fp:List A9}{h:D6}{p:A9×Obj}(hp:p∈gk fp h):p.1∈fp/\h.get? p.1=some p.2:=by
 obtain⟨b,hb,e⟩:=P2.mp hp;cases q:h.get? b with
 |none=>rw[q]at e;cases e
 |some o =>
  rw[q]at e;have e':(b,o)=p:=K7 e;subst e';exact⟨hb,q⟩
theorem Inv.pinned{af:List (A9×Obj)}{σ:St}{H:Hp}{s:A2}{fp:List A9}(I:Inv X af σ H s)(hf:∀b∈fp,dB X af H b)(ho:∀b∈fp,∃o,s.heap.get? b=some o/\∀v,o.data≠.cell v):Inv X (af++gk fp s.heap) σ H s :=
 I.pins_of λp hp=>(C0.mp hp).elim (λz=>I.pin p (D2 _ z)) λz=>by
  obtain⟨hb,e⟩:=lj z;obtain⟨f0,f1,f2,_⟩:=hf p.1 hb;obtain⟨o,e',d⟩:=ho p.1 hb;rw[e]at e';cases e';exact⟨e,f0,f1,f2,d⟩
theorem Inv.unpinned{af pl:List (A9×Obj)}{σ:St}{H:Hp}{s:A2}(I:Inv X (af++pl) σ H s):Inv X af σ H s:=I.pins_of λp hp=>I.pin p (D2 _ (K2 _ hp))
theorem tw{iter:D0}{body:List N5}{wi:TI}{g:TG}{tb:TS}{pos:Pos}(hp:K8 (E2 X.prog X.w) X.A X.env X.xe)(hc:X.calm=true)(hi:PI X tg iter wi)(hg:PG X tg g)(hb:PSs X body tb)
  (hs:∀x,N9 iter X.env x=V1 x:=by intro _;rfl):PS X (.For tg iter body [] pos) (Al wi g tb):=by
 intro af s σ H D I h;refine wpAny_For (thn (hi af s σ H _ I h) λv s1 h1=>thn h1 λitv s2 h2=>?_) hs;obtain⟨it,fp,tn,J,H2,e,I2,T,st2,f2,W,⟨m0,w0⟩,turn⟩:=h2;subst e
 -- what stays true of the iterator's objects through the loop
 have stat:∀{H':Hp},(∀b∈fp,H' b=none)->∀b∈fp,dB X af H' b:=λhn b hb=>⟨hn b hb,(f2 b hb).2⟩;refine codeAny_forLoop_any (λn s'=>∃i σ' H',Inv X af σ' H' s'/\tn i s'.heap/\(∀b∈fp,H' b=none)/\W i n σ' H') ?_ m0 ⟨0,σ,H2,I2,st2,λb hb=>(f2 b hb).1,w0⟩;rintro n s3 ⟨i,σ3,H3,I3,st3,fr3,w3⟩;rcases turn i n σ3 H3 w3 with⟨stop,qn⟩|⟨go,N,hN,step⟩
 ·refine Q6 hp (thn (T.done X rfl rfl rfl hc i af s3 σ3 H3 X.xe I3 (stat fr3) st3 stop) λr s4 ⟨hr,I4⟩=>?_);subst hr;exact W0 ⟨σ3,H3,I4,qn⟩
 ·refine Q6 hp (thn (T.item X rfl rfl rfl hc i af s3 σ3 H3 X.xe I3 (stat fr3) st3 go) λr s4 ⟨u,hr,h4⟩=>?_);subst hr;refine Q6 hp (thn h4 λ_ s5 ⟨x,H5,I5,r5,y5,st5,fr5⟩=>?_);have I5':=I5.pinned (stat fr5) (T.obj _ _ st5);refine Q6 hp (thn (hg _ s5 σ3 H5 x u _ I5' r5 (step x H5 y5)) λ_ s6 ⟨σ6,H6,I6,q6⟩=>?_);refine Q6 hp (thn (hb _ s6 σ6 H6 _ I6 q6) λf s7 q7=>?_);have again:∀{σ7:St} {H7:Hp},Inv X (af++gk fp s5.heap) σ7 H7 s7->N σ7 H7->∃m,m<n/\∃i σ' H',Inv X af σ' H' s7/\tn i s7.heap/\(∀b∈fp,H' b=none)/\W i m σ' H':=λ{σ7 H7} I7 n7=>by
   obtain⟨m',hm,w7⟩:=hN σ7 H7 n7;refine⟨m',hm,i+1,σ7,H7,I7.unpinned,T.keep _ _ _ st5 λb hb o e=>(I7.pin (b,o) (D2 _ (D2 _ (eA hb e)))).1,λb hb=>?_,w7⟩;obtain⟨o,e,d⟩:=T.obj _ _ st5 b hb;exact(I7.pin (b,o) (D2 _ (D2 _ (eA hb e)))).2.1
  cases f with
  |next=>obtain⟨σ7,H7,I7,n7⟩:=q7;exact again I7 n7
  |cont=>obtain⟨σ7,H7,I7,n7⟩:=q7;exact again I7 n7
  |brk=>obtain⟨σ7,H7,I7,q7⟩:=q7;exact⟨σ7,H7,I7.unpinned,q7⟩
  |ret v=>obtain⟨x7,σ7,H7,I7,r7,q7⟩:=q7;exact⟨x7,σ7,H7,I7.unpinned,r7,q7⟩
end
abbrev R2:=V->V->Hp->VK->Prop
def OpR(X:Cx)(f:A0->A0->Sem A0)(r:R2):Prop :=
 ∀(af:List (A9×Obj)) (s:A2) (σ:St) (H:Hp) (x y:V) (v u:A0) (Q:VK),Inv X af σ H s->aL x v->aL y u->r x y H Q ->
  C1 (E2 X.prog X.w) X.A (f v u) (EP X af σ Q) X.xe s
def UnR(X:Cx)(f:A0->Sem A0)(r:V->Hp->VK->Prop):Prop :=
 ∀(af:List (A9×Obj)) (s:A2) (σ:St) (H:Hp) (x:V) (v:A0) (Q:VK),Inv X af σ H s->aL x v->r x H Q ->
  C1 (E2 X.prog X.w) X.A (f v) (EP X af σ Q) X.xe s
def cD(X:Cx)(f:A0)(r:List V->Hp->VK->Prop):Prop :=
 ∀(af:List (A9×Obj)) (s:A2) (σ:St) (H:Hp) (xs:List V) (us:List A0) (Q:VK),Inv X af σ H s->aB xs us->r xs H Q ->
  C1 (E2 X.prog X.w) X.A (call f us) (EP X af σ Q) X.xe s
def tOp(r:R2)(ta tb:TE):TE:=λσ H Q=>ta σ H λx H1=>tb σ H1 λy H2=>r x y H2 Q
def tUn(r:V->Hp->VK->Prop)(ta:TE):TE:=λσ H Q=>ta σ H λx H1=>r x H1 Q
def rI(C:Int->Int->Prop)(g:Int->Int->V):R2:=λx y H Q=>∃i j,x=.int i/\y=.int j/\C i j/\Q (g i j) H
def rI0(g:Int->Int->V):R2:=λx y H Q=>∃i j,x=.int i/\y=.int j/\Q (g i j) H
def rU(g:Int->V):V->Hp->VK->Prop:=λx H Q=>∃i,x=.int i/\Q (g i) H
section
variable{X:Cx}{a b c:D0}{ta tb tc:TE}{pos:Pos}
theorem v8(ha:PE X a ta)(hb:PE X b tb){af:List (A9×Obj)}{s:A2}{σ:St}{H:Hp}{R:V->V->Hp->Prop}(I:Inv X af σ H s)
  (h:ta σ H λx H1=>tb σ H1 λy H2=>R x y H2) {Q:A0->A2->Prop} {f:A0->A0->Sem A0}
  (hf:∀v u s2 x y H2,Inv X af σ H2 s2->aL x v->aL y u->R x y H2->C1 (E2 X.prog X.w) X.A (f v u) Q X.xe s2) :
  C1 (E2 X.prog X.w) X.A (S7 a X.env) (λv s₁=>C1 (E2 X.prog X.w) X.A (S7 b X.env) (λu s₂=>C1 (E2 X.prog X.w) X.A (f v u) Q X.xe s₂) X.xe s₁) X.xe s:=by
 refine thn (ha af s σ H _ I h) λv s1 hup=>hup.el λx H1 I1 r1 q1=>?_;refine thn (hb af s1 σ H1 _ I1 q1) λu s2 hup=>hup.el λy H2 I2 r2 q2=>?_;exact hf v u s2 x y H2 I2 r1 r2 q2
theorem yB{op:ad0}{r:R2}(ho:OpR X (N1 op) r)(ha:PE X a ta)(hb:PE X b tb):PE X (.BinOp a op b pos) (tOp r ta tb):=by
 intro af s σ H Q I h;exact wpAny_BinOp (v8 ha hb I h λv u s2 x y H2 I2 rx ry q=>ho af s2 σ H2 x y v u Q I2 rx ry q)
theorem y8{op:UnaryOp}{r:V->Hp->VK->Prop}(ho:UnR X (unaryOp op) r)(ha:PE X a ta):PE X (.UnaryOp op a pos) (tUn r ta):=by
 intro af s σ H Q I h;exact UnaryOp_ (thn (ha af s σ H _ I h) λv s1 hup=>hup.el λx H1 I1 r1 q1=>ho af s1 σ H1 x v Q I1 r1 q1)
theorem opI{f:A0->A0->Sem A0}{C:Int->Int->Prop}{g:Int->Int->Int}
  (rule:∀(i j:Int) (t u:Tok) (s:A2) (Q:A0->A2->Prop) (E:A0->A2->Prop),C i j->Q (.int (g i j) s.toks) { s with toks:=s.toks+1 }->C1 (E2 X.prog X.w) X.A (f (.int i t) (.int j u)) Q E s) :
  OpR X f (rI C λi j=>.int (g i j)):=by
 intro af s σ H x y v u Q I rx ry h;obtain⟨i,j,rfl,rfl,hc,q⟩:=h;obtain⟨t,rfl⟩:=rx;obtain⟨t',rfl⟩:=ry;exact rule i j t t' s _ _ hc ⟨.int (g i j),H,I.tok _,⟨_,rfl⟩,q⟩
theorem ze{f:A0->A0->Sem A0}{g:Int->Int->Int}
  (rule:∀(i j:Int) (t u:Tok) (s:A2) (Q:A0->A2->Prop) (E:A0->A2->Prop),Q (.int (g i j) s.toks) { s with toks:=s.toks+1 }->C1 (E2 X.prog X.w) X.A (f (.int i t) (.int j u)) Q E s) :
  OpR X f (rI0 λi j=>.int (g i j)):=by
 intro af s σ H x y v u Q I rx ry h;obtain⟨i,j,rfl,rfl,q⟩:=h;obtain⟨t,rfl⟩:=rx;obtain⟨t',rfl⟩:=ry;exact rule i j t t' s _ _ ⟨.int (g i j),H,I.tok _,⟨_,rfl⟩,q⟩
theorem uU{f:A0->A0->Sem A0}{g:Int->Int->Bool}
  (rule:∀(i j:Int) (t u:Tok) (s:A2) (Q:A0->A2->Prop) (E:A0->A2->Prop),Q (.bool (g i j)) s->C1 (E2 X.prog X.w) X.A (f (.int i t) (.int j u)) Q E s) :
  OpR X f (rI0 λi j=>.bl (g i j)):=by
 intro af s σ H x y v u Q I rx ry h;obtain⟨i,j,rfl,rfl,q⟩:=h;obtain⟨t,rfl⟩:=rx;obtain⟨t',rfl⟩:=ry;exact rule i j t t' s _ _ ⟨.bl (g i j),H,I,rfl,q⟩
def mU(i j:Int):Prop:=0<j/\j<1073741824
def kO(i j:Int):Prop:=0<=j/\j<=1000000/\i.natAbs<2 ^ 64
def iH(i j:Int):Prop:=(-(2 ^ 64)<i/\i<2 ^ 64)∨(-(2 ^ 64)<j/\j<2 ^ 64)
theorem iH.ok{i j:Int}(h:iH i j):IntMulOk i j:=by
 rcases h with⟨h1,h2⟩|⟨h1,h2⟩
 ·exact .of_left (intBits_le_64 h1 h2)
 ·exact .of_right (intBits_le_64 h1 h2)
theorem xi:OpR X (N1 .Add) (rI0 λi j=>.int (i+j)):=ze λ_ _ _ _ _ _ _ q=>add_int q
theorem xO:OpR X (N1 .Sub) (rI0 λi j=>.int (i-j)):=ze λ_ _ _ _ _ _ _ q=>sub_int q
theorem wC:OpR X (N1 .Mult) (rI iH λi j=>.int (i*j)):=opI λ_ _ _ _ _ _ _ hc q=>mul_int q hc.ok
theorem uc:OpR X (N1 .FloorDiv) (rI mU λi j=>.int (i / j)):=opI λi j _ _ _ _ _ hc q=>by
 have h1:(0:Int)<j:=hc.1;have h2:j<1073741824:=hc.2;exact floordiv_int (by lia) (by rw[Int.fdiv_eq_ediv_of_nonneg i (by lia)];exact q) (.inl (PyProof.noPylong_small (by lia)))
theorem wN:OpR X (N1 .Mod) (rI (λ_ j=>0<j) λi j=>.int (i % j)):=opI λi j _ _ _ _ _ hc q=>by
 have h1:(0:Int)<j:=hc;exact mod_int' (by lia) (by rw[Int.fmod_eq_emod_of_nonneg i (by lia)];exact q)
theorem wm:OpR X (N1 .Pow) (rI kO λi j=>.int (i ^ j.toNat)):=opI λ_ _ _ _ _ _ _ hc q=>pow_int_small hc.1 hc.2.1 hc.2.2 q
theorem unI{f:A0->Sem A0}{g:Int->Int}
  (rule:∀(i:Int) (t:Tok) (s:A2) (Q:A0->A2->Prop) (E:A0->A2->Prop),Q (.int (g i) s.toks) { s with toks:=s.toks+1 }->C1 (E2 X.prog X.w) X.A (f (.int i t)) Q E s) :
  UnR X f (rU λi=>.int (g i)):=by
 intro af s σ H x v Q I rx h;obtain⟨i,rfl,q⟩:=h;obtain⟨t,rfl⟩:=rx;exact rule i t s _ _ ⟨.int (g i),H,I.tok _,⟨_,rfl⟩,q⟩
theorem xY:UnR X (unaryOp .USub) (rU λi=>.int (-i)):=unI λ_ _ _ _ _ q=>neg_int q
end
section
variable{X:Cx}{a b c:D0}{ta tb tc:TE}{pos:Pos}
theorem mj{af:List (A9×Obj)}{σ:St}{H:Hp}{s:A2}{Q:VK}{k k':Bool}(I:Inv X af σ H s)(q:Q (.bl k) H)(e:k=k'):EP X af σ Q (.bool k') s:=by
 subst e;exact⟨.bl k,H,I,rfl,q⟩
theorem za:OpR X (E3 .Lt) (rI0 λi j=>.bl (decide (i<j))):=uU λ_ _ _ _ _ _ _ q=>lt_int q
theorem zp:OpR X (E3 .LtE) (rI0 λi j=>.bl (decide (i<=j))):=uU λ_ _ _ _ _ _ _ q=>le_int q
theorem zG:OpR X (E3 .Gt) (rI0 λi j=>.bl (decide (j<i))):=uU λ_ _ _ _ _ _ _ q=>gt_int q
theorem yu:OpR X (E3 .GtE) (rI0 λi j=>.bl (decide (j<=i))):=uU λ_ _ _ _ _ _ _ q=>ge_int q
theorem qk:OpR X (E3 .In) (λx y H Q=>∃i j,x=.str i/\y=.str j/\Q (.bl (!(R6 j i 0 j.length 1).isEmpty)) H):=by
 intro af s σ H x y v u Q I rx ry h;obtain⟨i,j,rfl,rfl,q⟩:=h;obtain⟨t,rfl⟩:=rx;obtain⟨t',rfl⟩:=ry;exact in_str (mj I q rfl)
theorem wV:OpR X (E3 .Is) (λx y H Q=>y=.non/\Q (.bl (decide (x=.non))) H):=by
 intro af s σ H x y v u Q I rx ry h;obtain⟨rfl,q⟩:=h;cases ry;refine is_none_gen (mj I q ?_);cases x<;>first
  |(cases rx;rfl)
  |(obtain⟨t,rfl⟩:=rx;rfl)
theorem vp:OpR X (E3 .IsNot) (λx y H Q=>y=.non/\Q (.bl (!decide (x=.non))) H):=by
 intro af s σ H x y v u Q I rx ry h;obtain⟨rfl,q⟩:=h;cases ry;refine isnot_none_gen (mj I q ?_);cases x<;>first
  |(cases rx;rfl)
  |(obtain⟨t,rfl⟩:=rx;rfl)
theorem ma:OpR X (E3 .NotIn) (λx y H Q=>∃i j,x=.str i/\y=.str j/\Q (.bl (!(!(R6 j i 0 j.length 1).isEmpty))) H):=by
 intro af s σ H x y v u Q I rx ry h;obtain⟨i,j,rfl,rfl,q⟩:=h;obtain⟨t,rfl⟩:=rx;obtain⟨t',rfl⟩:=ry;exact notIn_str (mj I q rfl)
theorem uT{op:ab6}{r:R2}(ho:OpR X (E3 op) r)(ha:PE X a ta)(hb:PE X b tb)(hm:N6 op b=false):PE X (.Compare a [op] [b] pos) (tOp r ta tb):=by
 intro af s σ H Q I h;exact wpAny_Compare1 (v8 ha hb I h λv u s2 x y H2 I2 rx ry q=>ho af s2 σ H2 x y v u Q I2 rx ry q) hm
def r8(t:TE):TT:=λσ H Q=>t σ H λx H'=>∃k,x=.bl k/\Q k H'
theorem vf{op:ab6}{r:R2}(ho:OpR X (E3 op) r)(ha:PE X a ta)(hb:PE X b tb)(hm:N6 op b=false):PT X (.Compare a [op] [b] pos) (r8 (tOp r ta tb)):=by
 intro af s σ H Q I h;refine wpAny_isTrue_Compare1 (thn (ha af s σ H _ I h) λv s1 hup=>hup.el λx H1 I1 r1 q1=>thn (hb af s1 σ H1 _ I1 q1) λu s2 hup=>hup.el λy H2 I2 r2 q2 =>
  thn (ho af s2 σ H2 x y v u _ I2 r1 r2 q2) λc s3 ⟨z,H3,I3,r3,k,e,q3⟩=>?_) hm
 subst e;cases r3;exact K5 ⟨H3,I3,q3⟩
def rq(r r':R2)(ta tb tc:TE):TE:=λσ H Q=>ta σ H λx H1=>tb σ H1 λy H2=>r x y H2 λz H3=>∃k,z=.bl k /\
 (if k=true then tc σ H3 λw' H4=>r' y w' H4 Q else Q (.bl false) H3)
theorem sR{op op':ab6}{r r':R2}(ho:OpR X (E3 op) r)(ho':OpR X (E3 op') r')(ha:PE X a ta)(hb:PE X b tb)(hc:PE X c tc)
  (hm:ad5 [op,op'] [b,c]=false:=by with_unfolding_all rfl):PE X (.Compare a [op,op'] [b,c] pos) (rq r r' ta tb tc):=by
 intro af s σ H Q I h;refine Compare_chain (thn (ha af s σ H _ I h) λv s1 hup=>hup.el λx H1 I1 r1 q1=>chain_link (thn (hb af s1 σ H1 _ I1 q1) λu s2 hup=>hup.el λy H2 I2 r2 q2 =>
  thn (ho af s2 σ H2 x y v u _ I2 r1 r2 q2) λd s3 ⟨z,H3,I3,r3,k,e,q3⟩=>?_)) hm
 subst e;cases r3;refine K5 ?_;cases k with
 |false=>exact ite_ff ⟨.bl false,H3,I3,rfl,q3⟩
 |true=>exact ite_tt (chain_last (thn (hc af s3 σ H3 _ I3 q3) λw' s4 ⟨z',H4,I4,r4,q4⟩=>ho' af s4 σ H4 y z' u w' Q I4 r2 r4 q4))
theorem rF{op op':ab6}{r r':R2}(ho:OpR X (E3 op) r)(ho':OpR X (E3 op') r')(ha:PE X a ta)(hb:PE X b tb)(hc:PE X c tc)
  (hm:ad5 [op,op'] [b,c]=false:=by with_unfolding_all rfl):PT X (.Compare a [op,op'] [b,c] pos) (r8 (rq r r' ta tb tc)):=by
 intro af s σ H Q I h;refine isTrue_chain (thn (ha af s σ H _ I h) λv s1 hup=>hup.el λx H1 I1 r1 q1=>test_link (thn (hb af s1 σ H1 _ I1 q1) λu s2 hup=>hup.el λy H2 I2 r2 q2 =>
  thn (ho af s2 σ H2 x y v u _ I2 r1 r2 q2) λd s3 ⟨z,H3,I3,r3,k,e,q3⟩=>?_)) hm
 subst e;cases r3;refine K5 ?_;cases k with
 |false =>
  obtain⟨k',e',q'⟩:=q3;cases e';exact ite_ff ⟨H3,I3,q'⟩
 |true =>
  refine ite_tt (test_last (thn (hc af s3 σ H3 _ I3 q3) λw' s4 ⟨z',H4,I4,r4,q4⟩=>thn (ho' af s4 σ H4 y z' u w' _ I4 r2 r4 q4) λd' s5 ⟨z2,H5,I5,r5,k2,e2,q5⟩=>?_));subst e2;cases r5;exact K5 ⟨H5,I5,q5⟩
theorem jV:(A4:Nat)<2 ^ 63:=by rw[sizeLine_eq];decide
theorem oP:OpR X (N1 .Add) (λx y H Q=>∃i j,x=.str i/\y=.str j/\i.length+j.length<=A4/\Q (.str (i++j)) H):=by
 intro af s σ H x y v u Q I rx ry h;obtain⟨i,j,rfl,rfl,hz,q⟩:=h;obtain⟨t,rfl⟩:=rx;obtain⟨t',rfl⟩:=ry;exact add_str (λt' tk=>⟨.str (i++j),H,I.tok _,⟨_,rfl⟩,q⟩) hz
theorem ou{x:V}{us:List A0}(r:aB [x] us):∃u,us=[u]/\aL x u:=by
 cases r with
 |cons r1 r2=>cases r2;exact⟨_,rfl,r1⟩
theorem sA:cD X (.builtin "abs") (λxs H Q=>∃i,xs=[.int i]/\Q (.int (if i<0 then -i else i)) H):=by
 intro af s σ H xs us Q I r h;obtain⟨i,rfl,q⟩:=h;obtain⟨u,rfl,t,rfl⟩:=ou r;exact call_abs_int λu tk=>⟨.int (if i<0 then -i else i),H,I.tok _,⟨_,rfl⟩,q⟩
end
structure bw(k:Nat) (A:E7):Prop where
 hd:A.handled=none
 dp:A.depth+3*k+5<recursionLimit
 un:A.units+16*k+200<ad6
theorem bw.mono{j k:Nat}{A:E7}(r:bw k A)(h:j<=k):bw j A:=⟨r.hd,by have:=r.dp;lia,by have:=r.un;lia⟩
theorem bw.deeper{k:Nat}{A:E7}(r:bw (k+1) A)(env:Env):bw k (A.deeper env) :=
 ⟨r.hd,by have:=r.dp;show A.depth+1+3*k+5<_;lia,by have:=r.un;show A.units+3+16*k+200<_;lia⟩
theorem bw.in1{k:Nat}{A:E7}(r:bw (k+1) A):bw k A.in1 :=
 ⟨r.hd,by have:=r.dp;show A.depth+3*k+5<_;lia,by have:=r.un;show A.units+1+16*k+200<_;lia⟩
theorem oG{A:E7}{C:A9}{us:List A0}{kw:List (Str×A0)}:(A.under (.builtin "type.__call__" ⟨.ref C::us,kw⟩)).depth=A.depth+1:=by
 first|rfl|simp[E7.under,Code.weight,Code.isCreation,Code.isGuard,Code.isCaller,Code.frames,Code.isFrame,guardIds]
theorem o2{A:E7}{C:A9}{us:List A0}{kw:List (Str×A0)}:(A.under (.builtin "type.__call__" ⟨.ref C::us,kw⟩)).units=A.units+1:=by
 first|rfl|simp[E7.under,Code.cUnits,Code.frames,Code.isFrame]
theorem bw.make{k:Nat}{A:E7}(r:bw (k+1) A)(C:A9)(us:List A0)(kw:List (Str×A0)):bw k (A.under (.builtin "type.__call__" ⟨.ref C::us,kw⟩)) :=
 ⟨r.hd,by have:=r.dp;rw[oG];lia,by have:=r.un;rw[o2];lia⟩
theorem bw.depth{k:Nat}{A:E7}(r:bw k A):A.depth<recursionLimit:=by have:=r.dp;lia
theorem bw.units{k:Nat}{A:E7}(r:bw k A):A.units+64<ad6:=by have:=r.un;lia
def wI:TA:=λ_ H Q=>Q [] H
def pC(ta:TE)(tr:TA):TA:=λσ H Q=>ta σ H λx H1=>tr σ H1 λxs H2=>Q (x::xs) H2
section
variable{X:Cx}{e:D0}{es:List D0}{te:TE}{t:TA}{pos:Pos}
theorem jO:PA X [] wI:=λ_ _ _ _ H Q I h=>Calls.spliced_nil ⟨[],H,I,.nil,h⟩
theorem er(ha:PE X e te)(hr:PA X es t)(hs:B1 (e::es) X.env=(false,S7 e X.env)::B1 es X.env:=by rfl):PA X (e::es) (pC te t):=by
 intro pos af s σ H Q I h;rw[hs];show C1 _ _ (spliced ((false,S7 e X.env)::Q4 pos (B1 es X.env))) _ _ s;refine Calls.spliced_cons (thn (ha af s σ H _ I h) λu s1 hup=>hup.el λx H1 I1 r1 q1=>?_);exact thn (hr pos af s1 σ H1 _ I1 q1) λus s2 hup=>hup.el λxs H2 I2 r2 q2=>⟨x::xs,H2,I2,.cons r1 r2,q2⟩
def Ah(t:TA):TE:=λσ H Q=>t σ H λxs H1=>xs.length<=A4/\∀p,H1 p=none->Q (.ref p) (upd H1 p (.tup xs))
def Ac(t:TA):TE:=λσ H Q=>t σ H λxs H1=>xs.length<=A4/\∀p,H1 p=none->Q (.ref p) (upd H1 p (.lst xs))
theorem xT{x1}(h:PA X es t):PE X (.Tuple es x1 pos) (Ah t):=by
 intro af s σ H Q I hq;refine wpAny_Tuple_spliced (thn (h pos af s σ H _ I hq) λus s1 ⟨xs,H1,I1,r,z,q⟩=>⟨by rw[<-r.length];exact z,?_⟩);have hf:H1 s1.heap.objs.size=none:=I1.hok.fresh (B6 _);refine⟨.ref s1.heap.objs.size,upd H1 s1.heap.objs.size (.tup xs),I1.laid (t':=s1.toks) (λb u e=>A1 _ e) (B6 _) ?_,rfl,q _ hf⟩;exact⟨z,us,r,⟨_,C3 _ rfl,rfl,⟨_,rfl⟩,rfl⟩⟩
theorem rP(h:PA X es t):PE X (.List es pos) (Ac t):=by
 intro af s σ H Q I hq;refine wpAny_List_spliced (thn (h pos af s σ H _ I hq) λus s1 ⟨xs,H1,I1,r,z,q⟩=>⟨by rw[<-r.length];exact z,?_⟩);have hf:H1 s1.heap.objs.size=none:=I1.hok.fresh (B6 _);refine⟨.ref s1.heap.objs.size,upd H1 s1.heap.objs.size (.lst xs),I1.laid (t':=s1.toks) (λb u e=>A1 _ e) (B6 _) ?_,rfl,q _ hf⟩;exact⟨z,us,0,r,C3 _ rfl⟩
end
abbrev Sp:=List V->Hp->VK->XK->Prop
abbrev CXT:=List Env->Hp->A2->XK->A0->A2->Prop
structure kK(P:C6) (w:J1) (K:u8) (mg:Str->Option A0) (base:D6) (A:E7) (outer:List Env) (s:A2) (H:Hp):Prop where
 frames:A.frames=some outer
 mod:Mod K mg base
 bs:∀b o,base.get? b=some o->s.heap.get? b=some o/\H b=none
 bsz:base.objs.size<=s.heap.objs.size
 funs:s.heap.FunFrames base outer
 frf:∀b∈frs outer,H b=none
 hok:HOk P w H s.heap
 bare:V3 s.gens
def CE(outer:List Env)(P:C6)(w:J1)(H:Hp)(s:A2)(Q:VK)(u:A0)(s':A2):Prop :=
 ∃v H',s'.os=s.os/\V3 s'.gens/\Un (frs outer) [] H H' s.heap s'.heap/\HOk P w H' s'.heap/\aL v u/\Q v H'
def CR(CX:CXT)(outer:List Env)(P:C6)(w:J1)(H:Hp)(s:A2)(Q:VK)(E:XK)(r:Result)(s':A2):Prop :=
 match r with
 |.ok (.ret u)=>CE outer P w H s Q u s'
 |.ok _=>False
 |.error e=>CX outer H s E e s'
structure aK(P:C6) (w:J1) (K:u8) (mg:Str->Option A0) (base:D6) (CX:CXT) (k:Nat) (f:A9) (fd:B2) (ps:List Str) (sp:Sp):Prop where
 len:∀vs H Q E,sp vs H Q E->vs.length=ps.length
 run:∀(A:E7) (outer:List Env) (s:A2) (H:Hp) (args:Args) (us:List A0) (vs:List V) (Q:VK) (E:XK),bw k A->kK P w K mg base A outer s H->ac6 s fd args (ps.zip us)->aB vs us->sp vs H Q E ->
  ab7 (E2 P w) A (.call (.ref f) args) (CR CX outer P w H s Q E) s
theorem kK.make{P:C6}{w:J1}{K:u8}{mg:Str->Option A0}{base:D6}{A:E7}{outer:List Env}{s:A2}{H:Hp}(e:kK P w K mg base A outer s H)(C:A9)(us:List A0)(kw:List (Str×A0)):
  kK P w K mg base (A.under (.builtin "type.__call__" ⟨.ref C::us,kw⟩)) outer s H:=⟨by first|exact e.frames|(simpa[E7.under,Code.envs,Code.isFrame,pushEnvs]using e.frames),e.mod,e.bs,e.bsz,e.funs,e.frf,e.hok,e.bare⟩
theorem kK.in1{P:C6}{w:J1}{K:u8}{mg:Str->Option A0}{base:D6}{A:E7}{outer:List Env}{s:A2}{H:Hp}(e:kK P w K mg base A outer s H):
  kK P w K mg base A.in1 outer s H:=⟨e.frames,e.mod,e.bs,e.bsz,e.funs,e.frf,e.hok,e.bare⟩
section
variable{X:Cx}{af:List (A9×Obj)}{σ:St}{H:Hp}{s s':A2}
theorem Inv.env0(I:Inv X af σ H s):kK X.prog X.w X.K X.mg X.base X.A X.stack s H :=
 ⟨I.ok.frames,I.ok.mod,I.bs,H0 I.ok.bsz I.sz,I.stack,I.stkFree,I.hok,I.bare⟩
theorem Inv.after{Q:VK}{u:A0}(I:Inv X af σ H s)(h:CE X.stack X.prog X.w H s Q u s'):EP X af σ Q u s':=by
 obtain⟨v,H',os,bare,un,hok,r,q⟩:=h;obtain⟨hh,g,d,t,os'⟩:=s';obtain rfl:os'=s.os:=os;exact⟨v,H',I.call (h':=hh) (g':=g) (d':=d) (t':=t) (ch:=[]) un hok bare (λb z=>absurd z (by simp)),r,q⟩
end
def yD(sp:Sp)(dvs:List V)(E:XK)(t:TA):TE:=λσ H Q=>t σ H λvs H1=>sp (vs++dvs) H1 Q E
def bS(K:u8)(fd:B2)(ps:List Str)(ds:List A0):Prop :=
 ∀(s:A2) (us:List A0),K.In s.heap->(us++ds).length=ps.length->ac6 s fd ⟨us,[]⟩ (ps.zip (us++ds))
theorem bS.all{K:u8}{fd:B2}{ps:List Str}(h:∀us:List A0,us.length=ps.length->bindArgs fd ⟨us,[]⟩=V1 (ps.zip us)):bS K fd ps []:=λs us _ hl=>by
 rw[M9]at hl ⊢;exact .of_eq (h us hl)
def oQ(CX:CXT)(X:Cx)(E:XK):Prop:=∀(af:List (A9×Obj)) (σ:St) (H:Hp) (s:A2) (e:A0) (s':A2),Inv X af σ H s->CX X.stack H s E e s'->X.xe e s'
section
variable{X:Cx}{CX:CXT}{k:Nat}{f C:A9}{fd:B2}{ps:List Str}{sp:Sp}{dvs:List V}{ds:List A0}{E:XK}{x m:Str}{p pos kr:Pos}{e o:D0}{es:List D0}{ta:TE}{t:TA}
theorem sU{af:List (A9×Obj)}{σ:St}{H:Hp}{s:A2}{Q:VK}{us:List A0}{vs:List V}(F:aK X.prog X.w X.K X.mg X.base CX k f fd ps sp)(hr:bw k X.A)(hb:bS X.K fd ps ds)(hd:aB dvs ds)(hx:oQ CX X E)
  (I:Inv X af σ H s) (r:aB vs us) (h:sp (vs++dvs) H Q E):C1 (E2 X.prog X.w) X.A (call (.ref f) us) (EP X af σ Q) X.xe s:=by
 have r2:aB (vs++dvs) (us++ds):=r.append hd;have hl:(us++ds).length=ps.length:=by rw[<-r2.length];exact F.len _ _ _ _ h
 refine Z6 (X1 (F.run X.A X.stack s H ⟨us,[]⟩ (us++ds) (vs++dvs) Q E hr I.env0 (hb s us I.kIn hl) r2 h) λr s' hq=>?_);cases r with
 |error e=>exact hx af σ H s e s' I hq
 |ok fl =>
  cases fl with
  |ret u=>exact I.after hq
  |next=>exact K0 hq
  |brk=>exact K0 hq
  |cont=>exact K0 hq
theorem uJ(F:aK X.prog X.w X.K X.mg X.base CX k f fd ps sp)(hr:bw k X.A)(hg:Gl X x)(hm:X.mg x=some (.ref f))(hk:K3 X.K (.ref f)=true)(hb:bS X.K fd ps ds)(hd:aB dvs ds)(hx:oQ CX X E)
  (ha:PA X (e::es) t) (hdb:(x==("__debug__":Str))=false:=by decide) (he:B1 (e::es) X.env=(false,S7 e X.env)::B1 es X.env:=by rfl) (hpl:(Q4 pos (B1 es X.env)).any (·.1)=false:=by rfl) :
  PE X (.Call (.Name x p) (e::es) [] pos) (yD sp dvs E t):=by
 intro af s σ H Q I h;refine P3 (dS I hg hm ?_ hdb);refine U0 (h₀:=X.base) I.ok.mod.kin hk (thn (ha pos af s σ H _ I h) λus s1 hup=>hup.el λvs H1 I1 r q=>⟨I1.kIn,?_⟩) he hpl;exact sU F hr hb hd hx I1 r q
end
structure ar(N P:List Str) (sc:T8):Prop where
 kind:sc.kind=.function
 co:sc.isCoroutine=false
 gen:sc.isGenerator=false
 nd:N.Nodup
 pre:N.take P.length=P
 par:∀x∈P,sc.names.lookup x=some .local∨sc.names.lookup x=some .cell
 nofree:∀y∈sc.names,y.2≠.free
theorem lR{X4:Str->Option J6}{x:Str}:∀{binds:List (Str×A0)}{m:Str->Option A0},(∀v,(x,v)∉binds)->bindL X4 binds m x=m x
 |[],_,_=>rfl
 |(n,v)::r,m,h=>by
  unfold bindL;rw[lR λw hw=>h w (C7 _ hw)]
  split
  ·have:x≠n:=by rintro rfl;exact h v J5
   simp[this]
  ·rfl
theorem lz{X4:Str->Option J6}{x:Str}:∀{binds:List (Str×A0)}{m:Str->Option A0},(∀v,(x,v)∉binds)->bindC X4 binds m x=m x
 |[],_,_=>rfl
 |(n,v)::r,m,h=>by
  unfold bindC;rw[lz λw hw=>h w (C7 _ hw)]
  split
  ·rfl
  ·have:x≠n:=by rintro rfl;exact h v J5
   simp[this]
theorem kX{X4:Str->Option J6}{x:Str}{v:A0}:∀{P:List Str}{vs:List A0}{i:Nat}{m:Str->Option A0},P.Nodup->P[i]?=some x->vs[i]?=some v->X4 x=some .local ->
  bindL X4 (P.zip vs) m x=some v
 |[],_,_,_,_,h,_,_=>by simp at h
 |_::_,[],_,_,_,_,h,_=>by simp at h
 |p::P,w::vs,0,m,nd,h1,h2,hk=>by
  simp at h1 h2;subst h1;subst h2;show bindL X4 ((p,w)::P.zip vs) m p=_;unfold bindL;rw[lR λv hv=>(U1.mp nd).1 (List.of_mem_zip hv).1,if_pos hk];simp
 |p::P,w::vs,i+1,m,nd,h1,h2,hk=>by
  show bindL X4 ((p,w)::P.zip vs) m x=_;unfold bindL;exact kX (i:=i) (U1.mp nd).2 (by simpa using h1) (by simpa using h2) hk
theorem k8{X4:Str->Option J6}{x:Str}{v:A0}:∀{P:List Str}{vs:List A0}{i:Nat}{m:Str->Option A0},P.Nodup->P[i]?=some x->vs[i]?=some v->X4 x≠some .local ->
  bindC X4 (P.zip vs) m x=some v
 |[],_,_,_,_,h,_,_=>by simp at h
 |_::_,[],_,_,_,_,h,_=>by simp at h
 |p::P,w::vs,0,m,nd,h1,h2,hk=>by
  simp at h1 h2;subst h1;subst h2;show bindC X4 ((p,w)::P.zip vs) m p=_;unfold bindC;rw[lz λv hv=>(U1.mp nd).1 (List.of_mem_zip hv).1,if_neg hk];simp
 |p::P,w::vs,i+1,m,nd,h1,h2,hk=>by
  show bindC X4 ((p,w)::P.zip vs) m x=_;unfold bindC;exact k8 (i:=i) (U1.mp nd).2 (by simpa using h1) (by simpa using h2) hk
def eI(N:List Str)(vs:List V):St:=vs.map some++B3 (N.length-vs.length) none
noncomputable def j8(CX:CXT)(P:C6)(w:J1)(K:u8)(mg:Str->Option A0)(base:D6)(N:List Str)(qual:Str)(scope:T8)(f:A9)(cd:A0)(A:E7)(outer:List Env)(s:A2)(H:Hp)(E:XK):Cx where
 prog:=P
 w:=w
 K:=K
 mg:=mg
 base:=base
 A:=A.deeper (U2 qual scope s.heap.objs.size f cd)
 N:=N
 s₀:=s
 H₀:=H
 env:=U2 qual scope s.heap.objs.size f cd
 outer:=outer
 stack:=U2 qual scope s.heap.objs.size f cd::outer
 ex:=[]
 calm:=true
 fn:=λ_=>true
 pn:=[]
 xe:=λe s'=>C1 (E2 P w) (A.deeper (U2 qual scope s.heap.objs.size f cd)) (leaving (U2 qual scope s.heap.objs.size f cd) e) (λ_ s''=>CX outer H s E e s'') (λe' s''=>CX outer H s E e' s'') s'
theorem n9{sc:T8}{n:Nat}{x:Str}(h:sc.names.lookup x=some .cell):∃c,(ad7 n sc.names []).lookup x=some c:=by
 have q:=PySem.W.cellsFrom_some sc.names n [] (.inl h);exact Option.isSome_iff_exists.mp q
theorem rk{CX:CXT}{P:C6}{w:J1}{K:u8}{mg:Str->Option A0}{base:D6}{N ps:List Str}{qual:Str}{scope:T8}{f:A9}{cd:A0}{A:E7}{outer:List Env}{s s1:A2}{H:Hp}{E:XK}{us:List A0}{vs:List V}
  (S:ar N ps scope) (hd:A.handled=none) (e0:kK P w K mg base A outer s H) (hl:vs.length=ps.length) (r:aB vs us)
  (x:InCallC s s.heap.objs.size (bindL (U2 qual scope s.heap.objs.size f cd).kindOf (ps.zip us) λ_=>none) (ad7 (s.heap.objs.size+1) scope.names []) (bindC (U2 qual scope s.heap.objs.size f cd).kindOf (ps.zip us) λ_=>none) s1) :
  Inv (j8 CX P w K mg base N qual scope f cd A outer s H E) [] (eI N vs) H s1:=by
 have hpl:ps.length<=N.length:=by have:=congrArg Z9 S.pre;rw[D5]at this;lia
 obtain⟨h1,tk,rfl,hk⟩:=x.done;have noA:∀b:A9,b∉(j8 CX P w K mg base N qual scope f cd A outer s H E).ex:=λb z=>absurd (show b∈([]:List A9)from z) (by simp);refine⟨⟨e0.mod,S.kind,rfl,rfl,B6 _,λy z c h1 h2=>?_,λy hy=>?_,λy c _ h=>?_,λ_=>hd,E7.frames_deeper e0.frames,.inr ⟨rfl,rfl⟩,λb z=>absurd z (noA b),e0.bs,e0.bsz,λb _ _=>noA b,λb z=>absurd z (noA b),e0.funs,e0.frf⟩,
  rfl,e0.bare,Un.kept hk,⟨_,x.toInCall.ns,λi y v h1 h2 h3=>?_⟩,λy c h=>⟨_,x.cell y c h⟩,e0.hok.fresh (B6 _),λy c h=>?_,λp hp=>absurd (show p∈([]:List (A9×Obj))from hp) (by simp),e0.hok.kept hk,?_⟩
 ·exact name_of_addr x.apart (J7 h1) (J7 h2)
 ·have hy:scope.names.lookup y=some .cell∨scope.names.lookup y=some .free:=hy;rcases hy with hy|hy
  ·exact n9 hy
  ·exact absurd rfl (S.nofree _ (J7 hy))
 ·exact W9 (x.above y c (J7 h))
 ·have hi:i<vs.length:=by
   unfold eI at h2
   by_cases hi:i<vs.length
   ·exact hi
   ·rw[O7 (by simpa using hi)]at h2;rw[R7]at h2
    split at h2<;>cases h2
  have ha:vs[i]?=some v:=by
   unfold eI at h2;rw[E9 (by simpa using hi),K6]at h2;cases e:vs[i]? with
   |none=>rw[e]at h2;cases h2
   |some a=>rw[e]at h2;cases h2;rfl
  obtain⟨u,hu,rv⟩:=r.get ha;have hp:ps[i]?=some y:=by
   rw[<-S.pre,List.getElem?_take_of_lt (by lia)];exact h1
  have ndP:ps.Nodup:=by rw[<-S.pre];exact S.nd.sublist (List.take_sublist _ _)
  refine⟨u,rv,?_⟩;rcases S.par y (F5 hp)with k|k
  ·exact .inl ⟨k,kX ndP hp hu k⟩
  ·obtain⟨c,e⟩:=n9 (n:=s.heap.objs.size+1) k;refine .inr ⟨.inl k,c,e,?_⟩;have q:=x.cell y c e;rw[k8 ndP hp hu (by show scope.names.lookup y≠_;rw[k];decide)]at q;exact q
 ·exact e0.hok.fresh (W9 (x.above y c (J7 h)))
 ·unfold eI;show _=N.length;rw[C8,A5,List.length_replicate]
  lia
theorem vL{CX:CXT}{P:C6}{w:J1}{K:u8}{mg:Str->Option A0}{base:D6}{k:Nat}{f:A9}{name qual:Str}{params:Arguments}{body:List N5}{scope:T8}{dV kV doc pm cdv ct oc:A0}{an od:Option A9}
  {osl:Array (Option A0)} {N ps:List Str} {sp:Sp} (lk:K.lookup f=some ⟨oc,od,.func (P4 name qual params body scope dV kV doc pm an cdv ct),osl⟩) (hcd:S2 K cdv qual=true) (S:ar N ps scope)
  (len:∀vs H Q E,sp vs H Q E->vs.length=ps.length)
  (hbody:∀ (A:E7) (outer:List Env) (s:A2) (H:Hp) (vs:List V) (Q:VK) (E:XK),bw k (A.deeper (U2 qual scope s.heap.objs.size f cdv)) → sp vs H Q E →
   ∃t,PSs (j8 CX P w K mg base N qual scope f cdv A outer s H E) body t/\t { nx:=λ_ H'=>Q .non H',rt:=Q } (eI N vs) H) :
  aK P w K mg base CX (k+1) f (P4 name qual params body scope dV kV doc pm an cdv ct) ps sp:=by
 refine⟨len,λA outer s H args us vs Q E hr e0 hb r hsp=>?_⟩;have hl:=len _ _ _ _ hsp;have KX:K.In s.heap:=e0.mod.kin.keeps λb o e=>(e0.bs b o e).1;have lim:s.heap.NoLimit:=e0.mod.nolimit.keeps λb o e=>(e0.bs b o e).1;have hkind:∀y∈ps.zip us,scope.names.lookup y.1=some .local∨(scope.names.lookup y.1=some .cell/\((ad7 (s.heap.objs.size+1) scope.names []).lookup y.1).isSome=true):=λ⟨n,v⟩ hy=>by
  rcases S.par n (List.of_mem_zip hy).1 with q|q
  ·exact .inl q
  ·exact .inr ⟨q,PySem.W.cellsFrom_some _ _ _ (.inl q)⟩
 refine codeAny_call_function hr.depth (KX _ _ lk) rfl S.co S.gen rfl (PySem.W.codeRec_of KX hcd) (hb _ _ _ _ ?_);refine wpAny_newFunctionEnv_cells S.kind hkind λenv he s1 x=>?_;subst he;refine⟨lim.keeps x.toInCall.keep,codeAny_func ?_⟩;obtain⟨t,ht,hq⟩:=hbody A outer s H vs Q E (hr.deeper _) hsp;have I:Inv (j8 CX P w K mg base N qual scope f cdv A outer s H E) [] (eI N vs) H s1:=rk S hr.hd e0 hl r x;refine I0 (ht [] s1 (eI N vs) H _ I hq) (λfl s' hs=>?_) λe s' hs=>hs;have fin:∀{σ':St} {H':Hp} {v:V} {u:A0},Inv (j8 CX P w K mg base N qual scope f cdv A outer s H E) [] σ' H' s'->aL v u->Q v H'->CE outer P w H s Q u s' :=
  λ{σ' H' v u} J rv q=>⟨v,H',J.os,J.bare,J.base,J.hok,rv,q⟩
 cases fl with
 |ret u =>
  obtain⟨v,σ',H',J,rv,q⟩:=hs;exact fin J rv q
 |next =>
  obtain⟨σ',H',J,q⟩:=hs;exact fin (v:=V.non) (u:=C5) J rfl q
 |brk =>
  obtain⟨_,_,_,q⟩:=hs;exact K0 q
 |cont =>
  obtain⟨_,_,_,q⟩:=hs;exact K0 q
section
variable{X:Cx}{x:Str}{p pos:Pos}{e:D0}{es:List D0}{t:TA}{id T:String}{r:List V->Hp->VK->Prop}
def tCB(r:List V->Hp->VK->Prop)(t:TA):TE:=λσ H Q=>t σ H λvs H1=>r vs H1 Q
theorem mY(hc:cD X (.builtin id) r)(hg:Gl X x)(hm:X.mg x=none)(hv:N7 x=some (.builtin id))(ha:PA X (e::es) t)(hn:x≠"__name__":=by decide)(hdb:(x==("__debug__":Str))=false:=by decide)
  (he:B1 (e::es) X.env=(false,S7 e X.env)::B1 es X.env:=by rfl) (hpl:(Q4 pos (B1 es X.env)).any (·.1)=false:=by rfl):PE X (.Call (.Name x p) (e::es) [] pos) (tCB r t):=by
 intro af s σ H Q I h;refine P3 (iJ I hg hm hv ?_ hn hdb);exact PyProof.Rows.callWith_builtin1 (thn (ha pos af s σ H _ I h) λus s1 hup=>hup.el λvs H1 I1 r1 q1=>hc af s1 σ H1 vs us Q I1 r1 q1) he hpl
theorem kS(hc:cD X (.type T) r)(hg:Gl X x)(hm:X.mg x=none)(hv:N7 x=some (.type T))(ha:PA X (e::es) t)(hn:x≠"__name__":=by decide)(hdb:(x==("__debug__":Str))=false:=by decide)
  (he:B1 (e::es) X.env=(false,S7 e X.env)::B1 es X.env:=by rfl) (hpl:(Q4 pos (B1 es X.env)).any (·.1)=false:=by rfl):PE X (.Call (.Name x p) (e::es) [] pos) (tCB r t):=by
 intro af s σ H Q I h;refine P3 (iJ I hg hm hv ?_ hn hdb);exact O3 (thn (ha pos af s σ H _ I h) λus s1 hup=>hup.el λvs H1 I1 r1 q1=>hc af s1 σ H1 vs us Q I1 r1 q1) he hpl
end
end L2
namespace HT
open PySem PyProof.Rows
section
open PySem.SeqAt
open PySem.AutoSeq1 (wpAny_loadPart')
open PySem.MeetsSeq PySem.MeetsSeq2 PySem.MeetsSeq3
end
section
variable{prog:C6}{w:J1}{A:E7}{E:A0->A2->Prop}{s:A2}
theorem cat_tup{t b:A9}{vs ws:List A0}{Q:A0->A2->Prop}(ht:ad2 s.heap t vs.toArray)(hb:ad2 s.heap b ws.toArray)(hv:vs≠[])
  (h1:ws=[]->Q (.ref t) s) (h2:ws≠[]->Q (.ref s.heap.objs.size) { s with heap:=s.heap.push { cls:=.type "tuple",data:=.seq (vs++ws).toArray } })
  (hsz:vs.length+ws.length<=A4):C1 (E2 prog w) A (N1 .Add (.ref t) (.ref b)) Q E s:=by
 obtain⟨⟨cls,dd,data,sl⟩,ho,hc,n,hd⟩:=id ht;obtain⟨⟨cls2,dd2,data2,sl2⟩,ho2,hc2,n2,hd2⟩:=id hb;simp only at hc hd hc2 hd2;subst hc hd hc2 hd2;have e:vs.toArray++ws.toArray=(vs++ws).toArray:=by simp
 by_cases hw:ws=[]
 ·exact concat_meets ⟨_,ho,rfl⟩ ⟨_,ho2,rfl⟩ noFill_tuple_add seq_tuple_add PySem.F.slot_tuple_add PySem.F.entry_tuple_add (PySem.F.args_tuple_add_2 _ _)
   (tuple_addW1 t b vs.toArray ws.toArray n n2 dd dd2 sl sl2 (by simpa using hv) (by simp[hw])) ⟨ho,ho2,h1 hw⟩
 ·refine concat_meets ⟨_,ho,rfl⟩ ⟨_,ho2,rfl⟩ noFill_tuple_add seq_tuple_add PySem.F.slot_tuple_add PySem.F.entry_tuple_add (PySem.F.args_tuple_add_2 _ _)
   (tuple_addW2 t b vs.toArray ws.toArray n n2 dd dd2 sl sl2 (by simpa using hv) (by simpa using hw) (by rw[A6,A6];exact hsz)) ⟨ho,ho2,?_⟩
  rw[e];exact h2 hw
noncomputable def sIx(n d:Nat):Option Int->Nat
 |none=>d
 |some v=>if v<0 then(v+(n:Int)).toNat else min v.toNat n
theorem sIx_none(n d:Nat):sIx n d none=d:=rfl
theorem sIx_nat(n d k:Nat):sIx n d (some (k:Int))=min k n:=by
 show(if(k:Int)<0 then((k:Int)+(n:Int)).toNat else min (k:Int).toNat n)=min k n;rw[if_neg (by lia),L9]
theorem xp(n d:Nat)(hd:d<=n)(o:Option Int):sIx n d o<=n:=by
 cases o with
 |none=>exact hd
 |some v =>
  show(if v<0 then(v+(n:Int)).toNat else min v.toNat n)<=n
  by_cases hv:v<0
  ·rw[if_pos hv];lia
  ·rw[if_neg hv];exact Nat.min_le_right _ _
theorem pL(v:Int)(n d:Nat):(if v<0 then max (v+(n:Int)) 0 else min v (n:Int))=((sIx n d (some v):Nat):Int):=by
 show(if v<0 then max (v+(n:Int)) 0 else min v (n:Int))=(((if v<0 then(v+(n:Int)).toNat else min v.toNat n):Nat):Int)
 by_cases hv:v<0
 ·simp only[if_pos hv];lia
 ·simp only[if_neg hv];lia
theorem oN(lo hi:Option Int)(n:Nat):D1.Slice.sliceAdjust lo hi 1 (n:Int)=(((sIx n 0 lo:Nat):Int),((sIx n n hi:Nat):Int)):=by
 have h1:¬ ((1:Int)<0):=by lia
 unfold D1.Slice.sliceAdjust;simp only[h1,if_false];refine Prod.ext ?_ ?_
 ·cases lo with
  |none=>rfl
  |some v=>exact pL v n 0
 ·cases hi with
  |none=>rfl
  |some v=>exact pL v n n
theorem oY(i j:Nat):J4 (i:Int) (j:Int) 1=j-i:=by
 unfold J4;have h1:(1:Int) > 0:=by lia
 simp only[h1,if_true,Int.ediv_one]
 split<;>lia
theorem jY{v:A0}{o:Option Int}{Q:Option Int->A2->Prop}(p:aa9 v o)(h:Q o s):C1 (E2 prog w) A (D1.Slice.slicePartIndex v) Q E s:=by
 cases p with
 |none=>exact X7 h
 |int i t=>exact slicePart_int h
theorem dE{sl:A9}{vl vu:A0}{lo hi:Option Int}{n:Nat}{Q:Int×Int×Nat->A2->Prop}(hs:s.heap.IsSliceOf sl vl vu .none)(pl:aa9 vl lo)(pu:aa9 vu hi)
  (h:Q (((sIx n 0 lo:Nat):Int),1,sIx n n hi-sIx n 0 lo) s):C1 (E2 prog w) A (O8 (.ref sl) (V1 (n:Int))) Q E s:=by
 obtain⟨os,hos,hcs,hds⟩:=id hs;unfold O8 D1.Slice.sliceFields;refine o0 (o0 (K4 hos hds (x:=vl) rfl (o0 (K4 hos hds (x:=vu) rfl (o0 (K4 hos hds (x:=.none) rfl (A3 ?_)))))));refine o0 (X7 ?_);show C1 _ _ (if((1:Int)==0)=true then _ else _) _ _ s;rw[if_neg (by decide)];refine o0 (jY pl (o0 (jY pu (o0 (A3 ?_)))));show C1 _ _ (match D1.Slice.sliceAdjust lo hi 1 (n:Int)with|(lo,hi)=>V1 (lo,(1:Int),J4 lo hi 1)) _ _ s;rw[oN lo hi n];show C1 _ _ (V1 (((sIx n 0 lo:Nat):Int),(1:Int),J4 ((sIx n 0 lo:Nat):Int) ((sIx n n hi:Nat):Int) 1)) _ _ s;rw[oY];exact A3 h
theorem tQ(xs:Array A0)(i k:Nat):((N8 k).filterMap λ(m:Nat)=>xs[((i:Int)+(m:Int)*1).toNat]?).toArray=((xs.toList.drop i).take k).toArray:=by
 have e:(λ(m:Nat)=>xs[((i:Int)+(m:Int)*1).toNat]?)=λm=>xs[i+m]?:=by
  funext m;have:((i:Int)+(m:Int)*1).toNat=i+m:=by lia
  rw[this]
 rw[e];have:=pick_run xs i k;rw[List.filterMap_map]at this;have e2:((λx=>xs[x]?)∘λx=>i+x)=λm=>xs[i+m]?:=rfl;rw[e2]at this;rw[this]
theorem getItem_tuple_cut{t sl:A9}{items:Array A0}{vl vu:A0}{lo hi:Option Int}{Q:A0->A2->Prop}(ht:ad2 s.heap t items)(hs:s.heap.IsSliceOf sl vl vu .none)(pl:aa9 vl lo)(pu:aa9 vu hi)
  (hw:¬ (sIx items.size 0 lo=0/\sIx items.size items.size hi=items.size))
  (h:Q (.ref s.heap.objs.size) { s with heap:=s.heap.push { cls:=.type "tuple",data:=.seq ((items.toList.drop (sIx items.size 0 lo)).take (sIx items.size items.size hi-sIx items.size 0 lo)).toArray } })
  (hsz:items.size<=A4):C1 (E2 prog w) A (X8 (.ref t) (.ref sl)) Q E s:=by
 have htake:sizeOk (.seq ((items.toList.drop (sIx items.size 0 lo)).take (sIx items.size items.size hi-sIx items.size 0 lo)).toArray):=by
  show((items.toList.drop (sIx items.size 0 lo)).take (sIx items.size items.size hi-sIx items.size 0 lo)).toArray.size<=A4;rw[A6,D5,F6,R5]
  lia
 have hj:sIx items.size items.size hi<=items.size:=xp _ _ (B6 _) hi;obtain⟨os,hos,hcs,hds⟩:=id hs;have hTs:s.TypeIs (.ref sl) "slice":=⟨os,hos,hcs⟩;unfold X8
 try with_reducible refine M7 ?_
 first|refine o0 (A3 ?_)|skip
 refine o0 (U7 ht.typeIs (by decide) ?_);refine o0 (K9 (name:=D3 "__getitem__") ht.typeIs D4
  (S1 D4 ht.typeIs entry_tuple_getitem ?_ (args_tuple_getitem _ _)))
 show C1 _ _ (O9 (.ref t) >>= _) _ _ s;refine o0 (aa0 ht ?_);refine o0 (T6 hTs ?_);rw[if_pos (by decide)];refine o0 (dE hs pl pu ?_);have hno:¬ ((((sIx items.size 0 lo:Nat):Int)==0&&(1:Int)==1&&(sIx items.size items.size hi-sIx items.size 0 lo)==items.size)=true):=by
  intro q;rw[B8,B8]at q;have q1:((sIx items.size 0 lo:Nat):Int)=0:=eq_of_beq q.1.1;have q2:sIx items.size items.size hi-sIx items.size 0 lo=items.size:=eq_of_beq q.2;exact hw ⟨by lia,by lia⟩
 show C1 _ _ (if(((sIx items.size 0 lo:Nat):Int)==0&&(1:Int)==1&&(sIx items.size items.size hi-sIx items.size 0 lo)==items.size)=true then _ else _) _ _ s;rw[if_neg hno,tQ]
 first
  |exact o0 (m:=D9 _) (F3 (A3 ⟨_,rfl,A3 h⟩) htake)
  |exact o0 (m:=D9 _) (F3 (o0 (A3 (A3 ⟨_,rfl,A3 h⟩))) htake)
  |exact o0 (o0 (m:=D9 _) (F3 (A3 (A3 ⟨_,rfl,A3 h⟩)) htake))
  |exact o0 (o0 (m:=D9 _) (F3 (A3 ⟨_,rfl,A3 h⟩) htake))
end
end HT
namespace L2
open PySem PySem.Spec PyProof.Rows
abbrev TO:=St->Hp->(Option Int->Hp->Prop)->Prop
def PO(X:Cx)(e:Option D0)(t:TO):Prop :=
 ∀(af:List (A9×Obj)) (s:A2) (σ:St) (H:Hp) (Q:Option Int->Hp->Prop),Inv X af σ H s->t σ H Q ->
  C1 (E2 X.prog X.w) X.A (evalPart e X.env) (λu s'=>∃o H',Inv X af σ H' s'/\aa9 u o/\Q o H') X.xe s
def ut:TO:=λ_ H Q=>Q none H
def yI(t:TE):TO:=λσ H Q=>t σ H λx H1=>∃i,x=.int i/\Q (some i) H1
section
variable{X:Cx}{e:D0}{te:TE}{lo hi:Option D0}{tl th:TO}{pos p2:Pos}
theorem uE:PO X none ut:=by
 intro af s σ H Q I h;rw[aa1];exact A3 ⟨none,H,I,.none,h⟩
theorem tV(h:PE X e te):PO X (some e) (yI te):=by
 intro af s σ H Q I hw;rw[evalPart_some];refine thn (h af s σ H _ I hw) λu s1 hup=>hup.el λx H1 I1 r1 q1=>?_;obtain⟨i,rfl,q⟩:=q1;obtain⟨t,rfl⟩:=r1;exact⟨some i,H1,I1,.int i t,q⟩
def SlR(X:Cx)(r:V->Option Int->Option Int->Hp->VK->Prop):Prop :=
 ∀(af:List (A9×Obj)) (s:A2) (σ:St) (H:Hp) (x:V) (v vl vu:A0) (lo hi:Option Int) (sl:A9) (Q:VK),Inv X af σ H s->aL x v->s.heap.IsSliceOf sl vl vu .none->aa9 vl lo->aa9 vu hi->r x lo hi H Q ->
  ∃T id,typeLookup (.type T) "__getitem__"=V1 (some (.builtin id))/\s.TypeIs v T/\C1 (E2 X.prog X.w) X.A (X8 v (.ref sl)) (EP X af σ Q) X.xe s
theorem SlR.or{r r':V->Option Int->Option Int->Hp->VK->Prop}(h:SlR X r)(h':SlR X r'):SlR X (λx lo hi H Q=>r x lo hi H Q∨r' x lo hi H Q):=by
 intro af s σ H x v vl vu lo hi sl Q I rx hs pl pu q;rcases q with q|q
 ·exact h af s σ H x v vl vu lo hi sl Q I rx hs pl pu q
 ·exact h' af s σ H x v vl vu lo hi sl Q I rx hs pl pu q
def tSl(r:V->Option Int->Option Int->Hp->VK->Prop)(te:TE)(tl th:TO):TE:=λσ H Q=>te σ H λx H1=>tl σ H1 λl H2=>th σ H2 λu H3=>r x l u H3 Q
theorem rT{r:V->Option Int->Option Int->Hp->VK->Prop}(hr:SlR X r)(he:PE X e te)(hl:PO X lo tl)(hu:PO X hi th):PE X (.Subscript e (.Slice lo hi none p2) pos) (tSl r te tl th):=by
 intro af s σ H Q I h;refine ac7 (thn (he af s σ H _ I h) λv s1 hup=>hup.el λx H1 I1 r1 q1=>?_);refine wpAny_Slice (thn (hl af s1 σ H1 _ I1 q1) λvl s2 ⟨l,H2,I2,pl,q2⟩=>thn (hu af s2 σ H2 _ I2 q2) λvu s3 ⟨u,H3,I3,pu,q3⟩=>?_);rw[aa1];refine A3 ?_;have I4:Inv X af σ H3 { s3 with heap:=s3.heap.push { cls:=.type "slice",data:=.fields #[vl,vu,.none] } }:=I3.kept (t':=s3.toks) λb ob q=>A1 _ q;obtain⟨T,id,hT,ht,hg⟩:=hr af { s3 with heap:=s3.heap.push { cls:=.type "slice",data:=.fields #[vl,vu,.none] } } σ H3 x v vl vu l u s3.heap.objs.size Q I4 r1 (D6.IsSliceOf.new ..) pl pu q3;show C1 (E2 X.prog X.w) X.A (subscriptTail e (.Slice lo hi none p2) v (.ref s3.heap.objs.size)) (EP X af σ Q) X.xe { s3 with heap:=s3.heap.push { cls:=.type "slice",data:=.fields #[vl,vu,.none] } };exact tail_any (ops:=[.ref s3.heap.objs.size,v]) ht hT hg (by with_unfolding_all rfl)
def mw(xs:List V)(lo hi:Option Int):List V:=(xs.drop (HT.sIx xs.length 0 lo)).take (HT.sIx xs.length xs.length hi-HT.sIx xs.length 0 lo)
theorem iU(xs:List V)(lo hi:Option Int):(mw xs lo hi).length<=xs.length:=by
 unfold mw;rw[D5,F6]
 lia
def zP(K:u8):V->Option Int->Option Int->Hp->VK->Prop:=λx lo hi H Q=>∃a xs,x=.ref a/\SqT K H a xs /\
 ¬ (HT.sIx xs.length 0 lo=0/\HT.sIx xs.length xs.length hi=xs.length)/\∀p,H p=none->Q (.ref p) (upd H p (.tup (mw xs lo hi)))
theorem wF:SlR X (zP X.K):=by
 intro af s σ H x v vl vu lo hi sl Q I rx hs pl pu h;obtain⟨a,xs,rfl,hx,hw,q⟩:=h;cases rx;obtain⟨its,r,ht,hz⟩:=I.tuple hx;have b6:its.toArray.size=xs.length:=by rw[A6];exact r.length.symm
 refine⟨"tuple",_,D4.lookup,ht.typeIs,?_⟩;refine HT.getItem_tuple_cut ht hs pl pu (by rw[b6];exact hw) ?_ (by rw[b6];exact hz);rw[b6];refine⟨.ref s.heap.objs.size,_,I.laid (t':=s.toks) (o:=.tup (mw xs lo hi)) (λb ob q=>A1 _ q) (B6 _) ?_,rfl,q _ (I.hok.fresh (B6 _))⟩;exact⟨H0 (iU xs lo hi) hz,_,(r.drop (HT.sIx xs.length 0 lo)).take (HT.sIx xs.length xs.length hi-HT.sIx xs.length 0 lo),ja.new _ _⟩
def yZ(K:u8):R2:=λx y H Q=>∃a b xs ys,x=.ref a/\y=.ref b/\SqT K H a xs/\SqT K H b ys/\xs≠[]/\xs.length+ys.length<=A4 /\
 (ys=[]->Q (.ref a) H)/\(ys≠[]->∀p,H p=none->Q (.ref p) (upd H p (.tup (xs++ys))))
theorem aB.nil_iff{xs:List V}{us:List A0}(r:aB xs us):us=[]↔xs=[]:=by
 cases r with
 |nil=>simp
 |cons _ _=>simp
theorem uH:OpR X (N1 .Add) (yZ X.K):=by
 intro af s σ H x y v u Q I rx ry h;obtain⟨a,b,xs,ys,rfl,rfl,ha,hb,hx,hz,q1,q2⟩:=h;cases rx;cases ry;obtain⟨its,r1,p1,_⟩:=I.tuple ha;obtain⟨its2,r2,p2,_⟩:=I.tuple hb;refine HT.cat_tup p1 p2 (λz=>hx (r1.nil_iff.mp z)) (λz=>⟨.ref a,H,I,rfl,q1 (r2.nil_iff.mp z)⟩) (λz=>?_) (by rw[<-r1.length,<-r2.length];exact hz);refine⟨.ref s.heap.objs.size,_,I.laid (t':=s.toks) (o:=.tup (xs++ys)) (λb ob q=>A1 _ q) (B6 _) ?_,rfl,q2 (λw=>z (r2.nil_iff.mpr w)) _ (I.hok.fresh (B6 _))⟩;exact⟨by rw[C8];exact hz,_,r1.append r2,ja.new _ _⟩
end
noncomputable def ixN(n:Nat)(i:Int):Option Nat:=if 0<=i then(if i<n then some i.toNat else none)else if -(n:Int)<=i then some (i+n).toNat else none
def atI{α:Type}(xs:List α)(i:Int):Option α:=(ixN xs.length i).bind λj=>xs[j]?
theorem ve{n:Nat}{i:Int}{j:Nat}(h:ixN n i=some j):seqIndex? i n=some j/\j<n/\-(n:Int)<=i/\i<n:=by
 unfold ixN at h
 by_cases h0:0<=i
 ·rw[if_pos h0]at h
  by_cases h1:i<n
  ·rw[if_pos h1]at h;have e:i.toNat=j:=K7 h;exact⟨by rw[seqIndex_of h0 h1,e],by lia,by lia,h1⟩
  ·rw[if_neg h1]at h;cases h
 ·rw[if_neg h0]at h
  by_cases h1:-(n:Int)<=i
  ·rw[if_pos h1]at h;have e:(i+n).toNat=j:=K7 h;exact⟨by rw[seqIndex_neg (by lia) h1,e],by lia,h1,by lia⟩
  ·rw[if_neg h1]at h;cases h
theorem mq{α:Type}{xs:List α}{i:Int}{v:α}(h:atI xs i=some v):∃j,seqIndex? i xs.length=some j/\xs[j]?=some v/\j<xs.length/\-(xs.length:Int)<=i/\i<xs.length:=by
 unfold atI at h;cases e:ixN xs.length i with
 |none=>rw[e]at h;cases h
 |some j =>
  rw[e]at h;obtain⟨h1,h2,h3,h4⟩:=ve e;exact⟨j,h1,h,h2,h3,h4⟩
theorem bp{α:Type}{xs:List α}{j:Nat}{v:α}(h:xs[j]?=some v):atI xs (j:Int)=some v:=by
 have hj:j<xs.length:=(A7.mp h).1;have e:ixN xs.length (j:Int)=some j:=by
  unfold ixN;rw[if_pos (by lia),if_pos (by lia)];simp
 unfold atI;rw[e];exact h
def pX(b:D0):Prop:=∀o i,ab8 b false o i=operate [o,i] (X8 o i)
def IxR(X:Cx)(r:R2):Prop :=
 ∀(value slice:D0) (af:List (A9×Obj)) (s:A2) (σ:St) (H:Hp) (x y:V) (v u:A0) (Q:VK),Inv X af σ H s->aL x v->aL y u->r x y H Q ->
  ab8 slice false v u=operate [v,u] (X8 v u)->C1 (E2 X.prog X.w) X.A (subscriptTail value slice v u) (EP X af σ Q) X.xe s
def MtR(X:Cx)(id:String)(r:V->List V->Hp->VK->Prop):Prop :=
 ∀(af:List (A9×Obj)) (s:A2) (σ:St) (H:Hp) (x:V) (xs:List V) (v:A0) (us:List A0) (Q:VK),Inv X af σ H s->aL x v->aB xs us->r x xs H Q ->
  C1 (E2 X.prog X.w) X.A (call (.builtin id) (v::us)) (EP X af σ Q) X.xe s
section
variable{X:Cx}{a b:D0}{ta tb:TE}{pos:Pos}
theorem yn{r:R2}(hr:IxR X r)(ha:PE X a ta)(hb:PE X b tb)(hs:pX b):PE X (.Subscript a b pos) (tOp r ta tb):=by
 intro af s σ H Q I h;exact ac7 (v8 ha hb I h λv u s2 x y H2 I2 rx ry q=>hr a b af s2 σ H2 x y v u Q I2 rx ry q (hs _ _))
def z9(K:u8):R2:=λx y H Q=>∃p xs i v,x=.ref p/\y=.int i/\SqL K H p xs/\atI xs i=some v/\Q v H
def Aa(K:u8):R2:=λx y H Q=>∃p xs i v,x=.ref p/\y=.int i/\SqT K H p xs/\atI xs i=some v/\Q v H
def Af:R2:=λx y H Q=>∃z i c,x=.str z/\y=.int i/\z.length<=A4/\atI z.cps.toList i=some c/\Q (.str ⟨#[c]⟩) H
theorem pR:IxR X (z9 X.K):=by
 intro value slice af s σ H x y v u Q I rx ry h hs;obtain⟨p,xs,i,z,rfl,rfl,hq,he,q⟩:=h;cases rx;obtain⟨t,rfl⟩:=ry;obtain⟨its,r,pl,hz⟩:=I.list hq;obtain⟨j,h1,h2,h3,h4,h5⟩:=mq he;obtain⟨w,ew,rw'⟩:=r.get h2;have hl:=r.length;have hn:=jV;have fin:EP X af σ Q w s:=⟨z,H,I,rw',q⟩
 by_cases h0:0<=i
 ·have hj:i.toNat=j:=by
   rw[seqIndex_of h0 h5]at h1;exact K7 h1
  exact item_listR pl.isList h0 (by lia) (by rw[hj];simpa using ew) fin hs
 ·have hj:(i+(its.toArray.size:Int)).toNat=j:=by
   rw[seqIndex_neg (by lia) h4]at h1;rw[A6,<-hl];exact K7 h1
  exact subscriptTail_builtinR (x:=w) pl.isList.typeIs slot_list_getitem.lookup
   (wpAny_getItem_list_neg (Q:=λr s'=>r=w/\EP X af σ Q r s') pl.isList (by lia) (by rw[A6]<;>lia) (by lia) (by rw[hj];simpa using ew) ⟨rfl,fin⟩) hs
theorem wD:IxR X (Aa X.K):=by
 intro value slice af s σ H x y v u Q I rx ry h hs;obtain⟨p,xs,i,z,rfl,rfl,hq,he,q⟩:=h;cases rx;obtain⟨t,rfl⟩:=ry;obtain⟨its,r,pl,hz⟩:=I.tuple hq;obtain⟨j,h1,h2,h3,h4,h5⟩:=mq he;obtain⟨w,ew,rw'⟩:=r.get h2;have hl:=r.length;have hn:=jV;have fin:EP X af σ Q w s:=⟨z,H,I,rw',q⟩;exact subscriptTail_builtinR (x:=w) pl.typeIs slot_tuple_getitem.lookup
  (getItem_tuple (j:=j) (Q:=λr s'=>r=w/\EP X af σ Q r s') pl (by lia) (by lia) (by rw[A6,<-hl];exact h1) (by simpa using ew) ⟨rfl,fin⟩) hs
theorem wq:IxR X Af:=by
 intro value slice af s σ H x y v u Q I rx ry h hs;obtain⟨z,i,c,rfl,rfl,hz,he,q⟩:=h;obtain⟨t,rfl⟩:=rx;obtain⟨t',rfl⟩:=ry;obtain⟨j,h1,h2,h3,h4,h5⟩:=mq he;have hl:z.cps.toList.length=z.length:=by simp[Str.length]
 rw[hl]at h1 h4 h5;have hn:=jV;exact tail_any (typeIs_str s z t) slot_str_getitem.lookup (getItem_str (c:=c) (by
  have e1:decide (i < -(2 ^ 63:Int))=false:=decide_eq_false (by lia);have e2:decide (i>=2 ^ 63)=false:=decide_eq_false (by lia);rw[e1,e2,Bool.or_false]) (by rw[h1];simpa using h2) ⟨.str ⟨#[c]⟩,H,I.tok _,⟨_,rfl⟩,q⟩) hs
theorem Inv.lst{af:List (A9×Obj)}{σ:St}{H:Hp}{s:A2}{p:A9}{xs:List V}(I:Inv X af σ H s)(h:H p=some (.lst xs)):
  ∃(its:List A0) (n:Nat),aB xs its/\s.heap.get? p=some { cls:=.type "list",data:=.seq its.toArray n }/\xs.length<=A4:=by
 obtain⟨z,its,n,r,e⟩:=I.hok p _ h;exact⟨its,n,r,e,z⟩
theorem mF(lo hi:Option Int)(n:Nat):(S5 lo hi none n).1=((HT.sIx n 0 lo:Nat):Int)/\(S5 lo hi none n).2.1=((HT.sIx n n hi:Nat):Int)/\(S5 lo hi none n).2.2=1:=by
 refine⟨?_,?_,rfl⟩
 ·cases lo with
  |none=>simp[S5,HT.sIx]
  |some i =>
   simp only[S5,HT.sIx,Option.getD_none,show(1:Int) > 0 by decide,if_true]
   by_cases h:i<0
   ·simp only[h,if_true]<;>lia
   ·simp only[h,if_false]<;>lia
 ·cases hi with
  |none=>simp[S5,HT.sIx]
  |some i =>
   simp only[S5,HT.sIx,Option.getD_none,show(1:Int) > 0 by decide,if_true]
   by_cases h:i<0
   ·simp only[h,if_true]<;>lia
   ·simp only[h,if_false]<;>lia
theorem kJ(its:List A0)(lo hi:Option Int):slicePick its.toArray lo hi none=((its.drop (HT.sIx its.length 0 lo)).take (HT.sIx its.length its.length hi-HT.sIx its.length 0 lo)).toArray:=by
 obtain⟨h1,h2,h3⟩:=mF lo hi its.toArray.size;unfold slicePick;rw[h1,h2,h3];simp only[sliceRange_one,pick_run,A6]<;>rfl
def Ae(K:u8):V->Option Int->Option Int->Hp->VK->Prop:=λx lo hi H Q=>∃a xs,x=.ref a/\SqL K H a xs/\∀p,H p=none->Q (.ref p) (upd H p (.lst (mw xs lo hi)))
theorem tW:SlR X (Ae X.K):=by
 intro af s σ H x v vl vu lo hi sl Q I rx hs pl pu h;obtain⟨a,xs,rfl,hx,q⟩:=h;cases rx;obtain⟨its,r,ht,hz⟩:=I.list hx;have b6:=r.length;refine⟨"list",_,slot_list_getitem.lookup,ht.isList.typeIs,?_⟩;refine wpAny_getItem_list_slice ht.isList hs pl pu .none (by simp) ?_ (by rw[A6]<;>lia);rw[kJ,<-b6];refine⟨.ref s.heap.objs.size,_,I.laid (t':=s.toks) (o:=.lst (mw xs lo hi)) (λb ob q=>A1 _ q) (B6 _) ?_,rfl,q _ (I.hok.fresh (B6 _))⟩;exact⟨H0 (iU xs lo hi) hz,_,0,(r.drop (HT.sIx xs.length 0 lo)).take (HT.sIx xs.length xs.length hi-HT.sIx xs.length 0 lo),C3 _ rfl⟩
def e7:V->Bool
 |.non=>true
 |.bl _=>true
 |.int _=>true
 |.str _=>true
 |_=>false
noncomputable def eqV:V->V->Bool
 |.non,.non=>true
 |.bl a,.bl b=>a==b
 |.bl a,.int b=>(if a then 1 else 0)==b
 |.int a,.bl b=>a==(if b then 1 else 0)
 |.int a,.int b=>a==b
 |.str a,.str b=>a==b
 |_,_=>false
theorem xm{A:E7}{s:A2}{y x:V}{u v:A0}(ry:aL y u)(rx:aL x v)(fy:e7 y=true)(fx:e7 x=true):J9 A s u v (eqV y x):=by
 cases y with
 |non =>
  cases ry;cases x with
  |non=>cases rx;exact J9.same _
  |bl b=>cases rx;exact J9.none_bool b
  |int b=>obtain⟨t,rfl⟩:=rx;exact J9.none_int b t
  |str b=>obtain⟨t,rfl⟩:=rx;exact J9.none_str b t
  |_=>exact absurd (show false=true from fx) F0
 |bl a =>
  cases ry;cases x with
  |non=>cases rx;exact J9.bool_none a
  |bl b=>cases rx;exact J9.bool_bool a b
  |int b=>obtain⟨t,rfl⟩:=rx;exact J9.bool_int a b t
  |str b=>obtain⟨t,rfl⟩:=rx;exact J9.bool_str a b t
  |_=>exact absurd (show false=true from fx) F0
 |int a =>
  obtain⟨t',rfl⟩:=ry;cases x with
  |non=>cases rx;exact J9.int_none a t'
  |bl b=>cases rx;exact J9.int_bool a t' b
  |int b=>obtain⟨t,rfl⟩:=rx;exact J9.int_int a t' b t
  |str b=>obtain⟨t,rfl⟩:=rx;exact J9.int_str a t' b t
  |_=>exact absurd (show false=true from fx) F0
 |str a =>
  obtain⟨t',rfl⟩:=ry;cases x with
  |non=>cases rx;exact J9.str_none a t'
  |bl b=>cases rx;exact J9.str_bool a t' b
  |int b=>obtain⟨t,rfl⟩:=rx;exact J9.str_int a t' b t
  |str b=>obtain⟨t,rfl⟩:=rx;exact J9.str_str a t' b t
  |_=>exact absurd (show false=true from fx) F0
 |_=>exact absurd (show false=true from fy) F0
def eqU(x:V)(u:A0):Bool:=match u with
 |.none=>eqV .non x
 |.bool b=>eqV (.bl b) x
 |.int i _=>eqV (.int i) x
 |.str z _=>eqV (.str z) x
 |_=>false
theorem su{x y:V}{u:A0}(r:aL y u)(f:e7 y=true):eqU x u=eqV y x:=by
 cases y with
 |non=>cases r;rfl
 |bl b=>cases r;rfl
 |int i=>obtain⟨t,rfl⟩:=r;rfl
 |str z=>obtain⟨t,rfl⟩:=r;rfl
 |_=>exact absurd (show false=true from f) F0
theorem g7{x:V}:∀{xs:List V}{us:List A0},aB xs us->xs.all e7=true->us.any (eqU x)=xs.any λy=>eqV y x
 |_,_,.nil,_=>rfl
 |y::xs,u::us,.cons r t,f=>by
  rw[U3,B8]at f;rw[P5,P5,su r f.1,g7 t f.2]
theorem fJ{A:E7}{s:A2}{x:V}{v:A0}(rx:aL x v)(fx:e7 x=true):∀{xs:List V}{us:List A0},aB xs us->xs.all e7=true->∀u∈us,J9 A s u v (eqU x u)
 |_,_,.nil,_=>λu hu=>by cases hu
 |y::xs,u::us,.cons r t,f=>λu' hu=>by
  rw[U3,B8]at f;rcases B9.mp hu with rfl|hu
  ·rw[su r f.1];exact xm r rx f.1 fx
  ·exact fJ rx fx t f.2 u' hu
def inV(x:V)(xs:List V):Bool:=xs.any λy=>eqV y x
def rIn(K:u8)(neg:Bool):R2:=λx y H Q=>∃p xs,y=.ref p/\(SqL K H p xs∨SqT K H p xs)/\e7 x=true/\xs.all e7=true/\Q (.bl (if neg then !inV x xs else inV x xs)) H
theorem qS:OpR X (E3 .In) (rIn X.K false):=by
 intro af s σ H x y v u Q I rx ry h;obtain⟨p,xs,rfl,hq,fx,fs,q⟩:=h;cases ry;rcases hq with hq|hq
 ·obtain⟨its,r,pl,hz⟩:=I.list hq;refine SeqAt.in_listAt (eqU x) pl.isList (λw hw=>fJ rx fx r fs w (by simpa using hw)) ⟨.bl _,H,I,rfl,?_⟩;rw[show its.toArray.any (eqU x)=its.any (eqU x)by simp,g7 r fs];exact q
 ·obtain⟨its,r,pl,hz⟩:=I.tuple hq;refine SeqAt.in_tupleAt (eqU x) pl (λw hw=>fJ rx fx r fs w (by simpa using hw)) ⟨.bl _,H,I,rfl,?_⟩;rw[show its.toArray.any (eqU x)=its.any (eqU x)by simp,g7 r fs];exact q
theorem md:OpR X (E3 .NotIn) (rIn X.K true):=by
 intro af s σ H x y v u Q I rx ry h;obtain⟨p,xs,rfl,hq,fx,fs,q⟩:=h;cases ry;rcases hq with hq|hq
 ·obtain⟨its,r,pl,hz⟩:=I.list hq;refine SeqAt.notIn_listAt (eqU x) pl.isList (λw hw=>fJ rx fx r fs w (by simpa using hw)) ⟨.bl _,H,I,rfl,?_⟩;rw[show its.toArray.any (eqU x)=its.any (eqU x)by simp,g7 r fs];exact q
 ·obtain⟨its,r,pl,hz⟩:=I.tuple hq;refine SeqAt.notIn_tupleAt (eqU x) pl (λw hw=>fJ rx fx r fs w (by simpa using hw)) ⟨.bl _,H,I,rfl,?_⟩;rw[show its.toArray.any (eqU x)=its.any (eqU x)by simp,g7 r fs];exact q
theorem mQ:cD X (.builtin "len") (λxs H Q=>∃p ys,xs=[.ref p]/\(SqL X.K H p ys∨SqT X.K H p ys)/\Q (.int ys.length) H):=by
 intro af s σ H xs us Q I r h;obtain⟨p,ys,rfl,hq,q⟩:=h;obtain⟨u,rfl,rx⟩:=ou r;cases rx;have hn:=jV;rcases hq with hq|hq
 ·obtain⟨its,r',pl,hz⟩:=I.list hq;have b6:=r'.length;exact Calls.call_len_list pl.isList (by simp only[A6]<;>lia) ⟨.int ys.length,H,I.tok _,⟨s.toks+1,by rw[A6,b6]⟩,q⟩
 ·obtain⟨its,r',pl,hz⟩:=I.tuple hq;have b6:=r'.length;exact len_tuple pl (by simp only[A6]<;>lia) ⟨.int ys.length,H,I.tok _,⟨s.toks+1,by rw[A6,b6]⟩,q⟩
theorem mn:cD X (.builtin "len") (λxs H Q=>∃z,xs=[.str z]/\z.length<=A4/\Q (.int z.length) H):=by
 intro af s σ H xs us Q I r h;obtain⟨z,rfl,hz,q⟩:=h;obtain⟨u,rfl,t,rfl⟩:=ou r;have hn:=jV;exact len_str (by lia) ⟨.int z.length,H,I.tok _,⟨_,rfl⟩,q⟩
theorem cD.or{f:A0}{r r':List V->Hp->VK->Prop}(h:cD X f r)(h':cD X f r'):cD X f (λxs H Q=>r xs H Q∨r' xs H Q):=by
 intro af s σ H xs us Q I rs q;rcases q with q|q
 ·exact h af s σ H xs us Q I rs q
 ·exact h' af s σ H xs us Q I rs q
theorem gG:cD X (.type "list") (λxs H Q=>∃p ys,xs=[.ref p]/\(SqL X.K H p ys∨SqT X.K H p ys)/\∀l,H l=none->Q (.ref l) (upd H l (.lst ys))):=by
 intro af s σ H xs us Q I r h;obtain⟨p,ys,rfl,hq,q⟩:=h;obtain⟨u,rfl,rx⟩:=ou r;cases rx;have fin:∀(its:List A0),aB ys its->ys.length<=A4->∀(h':D6) (c':Nat),(∀b o',s.heap.get? b=some o'->h'.get? b=some o') ->
   h'.get? s.heap.objs.size=some { cls:=.type "list",dict:=none,data:=.seq its.toArray c',slots:=#[] }->EP X af σ Q (.ref s.heap.objs.size) { s with heap:=h' }:=λits r' hz h' c' kp e =>
  ⟨.ref s.heap.objs.size,_,I.laid (t':=s.toks) kp (B6 _) (show cc X.prog X.w _ h' _ (.lst ys)from⟨hz,its,c',r',e⟩),rfl,q _ (I.hok.fresh (B6 _))⟩
 rcases hq with hq|hq
 ·obtain⟨its,r',pl,hz⟩:=I.list hq;have b6:=r'.length;obtain⟨o,ho,hc,n,hd⟩:=pl.isList;exact call_list_seq p (.inl rfl) ho hc hd (λh' c' kp e=>fin its r' hz h' c' kp e) (by simp only[A6]<;>lia)
 ·obtain⟨its,r',pl,hz⟩:=I.tuple hq;have b6:=r'.length;obtain⟨o,ho,hc,n,hd⟩:=pl;exact call_list_seq p (.inr rfl) ho hc hd (λh' c' kp e=>fin its r' hz h' c' kp e) (by simp only[A6]<;>lia)
theorem kz:cD X (.type "tuple") (λxs H Q=>∃p ys,xs=[.ref p]/\((SqL X.K H p ys/\∀l,H l=none->Q (.ref l) (upd H l (.tup ys)))∨(SqT X.K H p ys/\Q (.ref p) H))):=by
 intro af s σ H xs us Q I r h;obtain⟨p,ys,rfl,h⟩:=h;obtain⟨u,rfl,rx⟩:=ou r;cases rx;rcases h with⟨hq,q⟩|⟨hq,q⟩
 ·obtain⟨its,r',pl,hz⟩:=I.list hq;have b6:=r'.length;refine call_tuple_list pl.isList (λh' kp=>?_) (by simp only[A6]<;>lia);have I1:Inv X af σ H { s with heap:=h' }:=I.kept (t':=s.toks) kp;have I2:Inv X af σ (upd H h'.objs.size (.tup ys)) { s with heap:=h'.push { cls:=.type "tuple",data:=.seq its.toArray } } :=
   I1.laid (t':=s.toks) (λb o e=>A1 _ e) (B6 _) (show cc X.prog X.w _ _ _ (.tup ys)from⟨hz,its,r',ja.new _ _⟩)
  exact⟨.ref h'.objs.size,_,I2,rfl,q _ (I1.hok.fresh (B6 _))⟩
 ·obtain⟨its,r',pl,hz⟩:=I.tuple hq;exact call_tuple_same pl ⟨.ref p,H,I,rfl,q⟩
def tyV(K:u8)(T:String)(x:V)(H:Hp):Prop:=match x with
 |.str _=>T="str"
 |.int _=>T="int"
 | .ref p => (T = "list" ∧ ∃ xs,SqL K H p xs) ∨ (T = "tuple" ∧ ∃ o,K.lookup p = some o ∧ o.cls = .type "tuple" ∧ o.dict = none) ∨
   (T="dict"/\((∃kvs,H p=some (.dK kvs))∨∃kvs,H p=some (.dT kvs)))∨(T="set"/\∃S n,H p=some (.set S n))
 |_=>False
theorem xu{af:List (A9×Obj)}{σ:St}{H:Hp}{s:A2}{T:String}{x:V}{v:A0}(I:Inv X af σ H s)(r:aL x v)(ty:tyV X.K T x H):
  s.TypeIs v T/\∀a,v=.ref a->∃ob,s.heap.get? a=some ob/\ob.dict=none:=by
 cases x with
 |str z =>
  obtain⟨t,rfl⟩:=r;cases(show T="str" from ty);exact⟨typeIs_str s z t,λ_ e=>nomatch e⟩
 |int i =>
  obtain⟨t,rfl⟩:=r;cases(show T="int" from ty);exact⟨ab2 s i t,λ_ e=>nomatch e⟩
 |ref p =>
  cases r;rcases ty with⟨rfl,xs,hq⟩|⟨rfl,o,hk,hc,hd⟩|⟨rfl,hk⟩|⟨rfl,S,n,hk⟩
  ·obtain⟨its,_,pl,_⟩:=I.list hq;refine⟨pl.isList.typeIs,λa e=>?_⟩;cases e;obtain⟨o,n,e,c,hd,_⟩:=pl;exact⟨o,e,hd⟩
  ·refine⟨⟨o,I.kIn p o hk,hc⟩,λa e=>?_⟩;cases e;exact⟨o,I.kIn _ o hk,hd⟩
  ·have z:∃o,s.heap.get? p=some o/\o.ExactDict:=by
    rcases hk with⟨kvs,hk⟩|⟨kvs,hk⟩
    ·obtain⟨_,_,_,_,o,_,_,e,ex,_⟩:=I.hok p _ hk;exact⟨o,e,ex⟩
    ·obtain⟨_,_,_,_,o,_,_,e,ex,_⟩:=I.hok p _ hk;exact⟨o,e,ex⟩
   obtain⟨o,e,ex⟩:=z;refine⟨⟨o,e,ex.1⟩,λa e2=>?_⟩;cases e2;exact⟨o,e,ex.2.1⟩
  ·obtain⟨o,_,_,_,e,ex,_⟩:=I.hok p _ hk;refine⟨⟨o,e,ex.1⟩,λa e2=>?_⟩;cases e2;exact⟨o,e,ex.2.1⟩
 |_=>exact K0 ty
def tBM(K:u8)(T:String)(r:V->List V->Hp->VK->Prop)(to:TE)(t:TA):TE:=λσ H Q=>to σ H λx H1=>tyV K T x H1/\t σ H1 λxs H2=>r x xs H2 Q
variable{o e:D0}{es:List D0}{to:TE}{t:TA}{name:Str}{kr cT:Pos}{T id:String}{r:V->List V->Hp->VK->Prop}
theorem yz(pa:PlainAttrs T)(slot:Slot T name id)(hty:typeOf (.builtin id)=V1 (.type "method_descriptor"))(hm:MtR X id r)(ho:PE X o to)(ha:PA X (e::es) t)
  (nV:aa2 o name X.env (S7 o X.env)=S7 o X.env:=by rfl)
  (xr:((Q4 cT (B1 (e :: es) X.env)).all (λx => !x.1) && (ad1 cT (aa3 [] X.env)).all (λx => x.1.isSome)
  &&decide ((e::es).length+([]:List ab9).length+(if([]:List ab9).isEmpty then 0 else 1)<30))=true:=by rfl)
  (tv:(kr.endLine==cT.line)=true:=by rfl) (hs:B1 (e::es) X.env=(false,S7 e X.env)::B1 es X.env:=by rfl) (oU:(Q4 cT (B1 es X.env)).any (·.1)=false:=by rfl) :
  PE X (.Call (.Attribute o name kr) (e::es) [] cT) (tBM X.K T r to t):=by
 intro af s σ H Q I h;refine wpAny_Call_method_late nV xr tv rfl (thn (ho af s σ H _ I h) λv s1 ⟨x,H1,I1,r1,ty,q1⟩=>?_);obtain⟨h1,h2⟩:=xu I1 r1 ty;refine⟨T,id,pa,slot,hty,h1,h2,?_⟩;have hA:=ha cT af s1 σ H1 _ I1 q1;rw[hs]at hA ⊢;refine Calls.callWith_builtin (by show(false || (Q4 cT (B1 es X.env)).any (·.1))=false;rw[oU]<;>rfl) (Calls.evalArgs_plain ?_);exact thn hA λus s2 hup=>hup.el λvs H2 I2 r2 q2=>hm af s2 σ H2 x vs v us Q I2 r1 r2 q2
end
def MtM(X:Cx)(id:String)(r:V->List V->Hp->VK->Prop):Prop :=
 ∀(af:List (A9×Obj)) (s:A2) (σ:St) (H:Hp) (x:V) (xs:List V) (v:A0) (us:List A0) (Q:VK),Inv X af σ H s->aL x v->aB xs us->r x xs H Q ->
  C1 (E2 X.prog X.w) X.A (call (.builtin id) (v::us)) (EP X af σ Q) X.xe s
theorem aB.un{x:V}{xs:List V}{us:List A0}(h:aB (x::xs) us):∃u vs,us=u::vs/\aL x u/\aB xs vs:=by
 cases h with
 |cons r t=>exact⟨_,_,rfl,r,t⟩
theorem aB.one{x:V}{us:List A0}(h:aB [x] us):∃u,us=[u]/\aL x u:=by
 obtain⟨u,vs,rfl,r,t⟩:=h.un;cases t;exact⟨u,rfl,r⟩
theorem aB.two{x y:V}{us:List A0}(h:aB [x,y] us):∃u v,us=[u,v]/\aL x u/\aL y v:=by
 obtain⟨u,vs,rfl,r,t⟩:=h.un;obtain⟨v,rfl,q⟩:=t.one;exact⟨u,v,rfl,r,q⟩
theorem aB.reverse{xs:List V}{us:List A0}(h:aB xs us):aB xs.reverse us.reverse:=by
 induction h with
 |nil=>exact .nil
 |cons r t ih=>rw[U8,U8];exact aB.append ih (.cons r .nil)
theorem aB.rep{xs:List V}{us:List A0}(h:aB xs us):∀k:Nat,aB (B3 k xs).flatten (B3 k us).flatten
 |0=>.nil
 |k+1=>by
  rw[M0,M0,Q7,Q7];exact aB.append h (aB.rep h k)
theorem ie(its:List A0):∀(k:Nat) (acc:List A0),
  ac8 (λx1 x2=>x1++x2) acc.toArray (B3 k its.toArray)=(acc++(B3 k its).flatten).toArray
 |0,acc=>by simp
 |k+1,acc=>by
  have e:acc.toArray++its.toArray=(acc++its).toArray:=by simp
  have e2:(acc++its)++(B3 k its).flatten=acc++(B3 (k+1) its).flatten:=by
   rw[M0,Q7,List.append_assoc]
  rw[<-e2,<-ie its k (acc++its),<-e,M0,List.foldl_cons]
section
variable{X:Cx}{af:List (A9×Obj)}{σ:St}{H:Hp}{s:A2}{l b:A9}{xs ys zs:List V}
theorem Inv.lset{its its':List A0}{n:Nat}{f:Array A0->Array A0}{t':Nat}(I:Inv X af σ H s)(hH:H l=some (.lst xs))
  (e:s.heap.get? l=some { cls:=.type "list",data:=.seq its.toArray n }) (hf:f its.toArray=its'.toArray) (hv:aB ys its') (hz:ys.length<=A4) :
  Inv X af σ (upd H l (.lst ys)) { s with heap:=s.heap.update l (Obj.mapSeq f),toks:=t' }:=by
 have q:=PySem.IsL.update e f;rw[hf]at q;refine I.write (x:=l) (e:=l) (by rw[hH];exact trivial) (.inl rfl) (λb' u hb hu=>(E1 s.heap (Obj.mapSeq f) (S3 hb)).trans hu) ⟨_,q⟩ ?_;exact⟨hz,its',_,hv,q⟩
theorem Inv.lnew{its:List A0}{t':Nat}(I:Inv X af σ H s)(hv:aB ys its)(hz:ys.length<=A4):
  Inv X af σ (upd H s.heap.objs.size (.lst ys)) { s with heap:=s.heap.push { cls:=.type "list",data:=.seq its.toArray },toks:=t' } :=
 I.laid (λ_ _ q=>A1 _ q) (B6 _) ⟨hz,its,0,hv,C3 _ rfl⟩
theorem Inv.fresh(I:Inv X af σ H s):H s.heap.objs.size=none:=I.hok.fresh (B6 _)
theorem Inv.lstM(I:Inv X af σ H s)(hH:H l=some (.lst xs)):xs.length<=A4/\∃(its:List A0) (n:Nat),aB xs its/\xs.length=its.length/\s.heap.get? l=some { cls:=.type "list",data:=.seq its.toArray n }:=by
 obtain⟨z,its,n,r,e⟩:=I.hok l _ hH;exact⟨z,its,n,r,r.length,e⟩
theorem jz{n:Nat}(h:n<=A4):D1.List.listTooLong n=false:=by
 unfold D1.List.listTooLong;exact decide_eq_false (by lia)
end
section
variable{X:Cx}
def p0:V->List V->Hp->VK->Prop:=λx vs H Q=>∃l xs y,x=.ref l/\vs=[y]/\H l=some (.lst xs)/\xs.length<A4/\Q .non (upd H l (.lst (xs++[y])))
theorem qB:MtM X "list.append" p0:=by
 intro af s σ H x vs v us Q I rx rv h;obtain⟨l,xs,y,rfl,rfl,hH,hz,q⟩:=h;cases rx;obtain⟨u,rfl,ru⟩:=rv.one;obtain⟨z,its,n,r,hl,e⟩:=I.lstM hH;refine ab3 F.slot_list_append ⟨_,e,rfl⟩ F.entry_list_append (F.args_list_append_2 _ _) (PySem.list_append l its.toArray n u (by rw[A6];lia)) ⟨e,?_⟩;refine⟨.non,_,I.lset (its':=its++[u]) hH e (by simp) (r.append (.cons ru .nil)) ?_,rfl,q⟩;rw[C8,List.length_singleton]
 lia
def z8:R2:=λx y H Q=>∃l b xs zs,x=.ref l/\y=.ref b/\H l=some (.lst xs)/\H b=some (.lst zs)/\xs.length+zs.length<=A4/\∀p,H p=none->Q (.ref p) (upd H p (.lst (xs++zs)))
theorem wd:OpR X (N1 .Add) z8:=by
 intro af s σ H x y v u Q I rx ry h;obtain⟨l,b,xs,zs,rfl,rfl,hH,hB,hz,q⟩:=h;cases rx;cases ry;obtain⟨z,its,n,r,hl,e⟩:=I.lstM hH;obtain⟨z2,its2,n2,r2,hl2,e2⟩:=I.lstM hB;refine PySem.P.add_list e e2 ?_ (by rw[A6,A6];lia);have ea:its.toArray++its2.toArray=(its++its2).toArray:=by simp
 rw[ea];exact⟨.ref _,_,I.lnew (t':=s.toks) (r.append r2) (by rw[C8];lia),rfl,q _ I.fresh⟩
def z4:R2:=λx y H Q=>∃l k xs,x=.ref l/\y=.int k/\H l=some (.lst xs)/\-(2 ^ 63)<=k/\k<2 ^ 63/\xs.length*k.toNat<=A4 /\
 ∀p,H p=none->Q (.ref p) (upd H p (.lst (B3 k.toNat xs).flatten))
theorem my{α:Type}(xs:List α)(k:Nat):(B3 k xs).flatten.length=k*xs.length:=by
 induction k with
 |zero=>simp
 |succ k ih=>rw[M0,Q7,C8,ih,Nat.succ_mul,Nat.add_comm]
theorem wM:OpR X (N1 .Mult) z4:=by
 intro af s σ H x y v u Q I rx ry h;obtain⟨l,k,xs,rfl,rfl,hH,h1,h2,hz,q⟩:=h;cases rx;obtain⟨t,rfl⟩:=ry;obtain⟨z,its,n,r,hl,e⟩:=I.lstM hH;have b6:its.toArray.size*k.toNat<=A4:=by rw[A6,<-hl];exact hz
 have hcap:¬ its.toArray.size*k.toNat > (2 ^ 63-1) / 8:=by
  have:(A4:Nat)<=(2 ^ 63-1) / 8:=by decide
  lia
 have hfit:¬ (!Builtin.List.listFitsIndex k)=true:=by
  rw[fitsIndex_both h1 h2];exact F0
 have hlong:¬ D1.List.listTooLong (its.toArray.size*k.toNat)=true:=by
  rw[jz b6];exact F0
 have hnew:ac8 (λx1 x2=>x1++x2) #[] (B3 (if its.toArray.isEmpty=true then 0 else k.toNat) its.toArray)=(B3 k.toNat its).flatten.toArray:=by
  have f0:∀m:Nat,ac8 (λx1 x2=>x1++x2) #[] (B3 m its.toArray)=(B3 m its).flatten.toArray:=λm=>by
   have:=ie its m [];rw[O4]at this;exact this
  rw[f0];cases its with
  |nil=>simp
  |cons a r'=>rw[if_neg (by simp)]
 refine wpAny_binaryOp_repeat_ref (T:="list") (U:="int") (by decide) ⟨_,e,rfl⟩ (λs'=>ab2 s' k t) noFill_list_mul F.fills_int_mul W1 repeat_list F.slot_int_index.lookup
  (ab3 W1 (ab2 s k t) F.entry_int_rmul (F.args_int_rmul_2 _ _) (int___rmul___int_list k t l its.toArray n)
   ⟨e,rfl,⟨_,e,rfl⟩,ab3 F.slot_list_mul ⟨_,e,rfl⟩ F.entry_list_mul (F.args_list_mul_2 _ _) (AutoListH.list___mul___list_int_3 l its.toArray n k t hfit hcap hlong) ⟨e,?_⟩⟩)
 rw[hnew];exact⟨.ref _,_,I.lnew (t':=s.toks) (r.rep k.toNat) (by rw[my,Nat.mul_comm];exact hz),rfl,q _ I.fresh⟩
end
section
variable{prog:C6}{w:J1}{A:E7}{E:A0->A2->Prop}{s:A2}
theorem qH(its its2:List A0)(a c:Nat):its.toArray.extract 0 a++its2.toArray++its.toArray.extract c its.toArray.size=(its.take a++its2++its.drop c).toArray:=by
  apply Array.toList_inj.mp
  first
    | (simp
       exact L7 (by simp))
    |simp[L7]
    |simp
theorem oH{a c n:Nat}(hac:a<=c)(hc:c<=n):S5 (some (a:Int)) (some (c:Int)) none n=((a:Int),(c:Int),1):=by
 simp only[S5,Option.getD_none];have h1:¬ ((a:Int)<0):=by lia
 have h2:¬ ((c:Int)<0):=by lia
 simp only[h1,h2,if_false,show(1:Int) > 0 by decide,if_true];congr 1
 ·lia
 ·congr 1;lia
set_option maxRecDepth 100000 in
theorem ky{l b sl:A9}{items new:Array A0}{n n2:Nat}{vl vu:A0}{a c:Nat}{Q:Unit->A2->Prop}
    (e:s.heap.get? l=some { cls:=.type "list",data:=.seq items n }) (e2:s.heap.get? b=some { cls:=.type "list",data:=.seq new n2 }) (hne:l≠b)
    (hs:s.heap.IsSliceOf sl vl vu .none) (pl:aa9 vl (some (a:Int))) (pu:aa9 vu (some (c:Int))) (hac:a<=c) (hc:c<=items.size)
    (hsz:items.size+new.size<=A4) (h:Q () { s with heap:=s.heap.update l (Obj.mapSeq λxs=>xs.extract 0 a++new++xs.extract c xs.size) }) :
    C1 (E2 prog w) A (setItem (.ref l) (.ref sl) (.ref b)) Q E s:=by
  have hl:s.heap.IsList l items:=PySem.IsL.isList e;have hb:s.heap.IsList b new:=PySem.IsL.isList e2;obtain⟨os,hos,hcs,hds⟩:=id hs;have hTs:s.TypeIs (.ref sl) "slice":=⟨os,hos,hcs⟩;have hstep:¬ ((rawPart none==Z5 0)=true):=F0;have hsame:D1.List.listSameRef (.ref l) (.ref b)=false:=by
    unfold D1.List.listSameRef;exact beq_eq_false_iff_ne.mpr hne
  have hmax:(max (a:Int) (c:Int)).toNat=c:=by lia
  have hz':((λxs:Array A0=>xs.extract 0 a++new++xs.extract c xs.size) items).size<=A4+1:=by
    simp only[Array.size_append,Array.size_extract]
    lia
  unfold setItem
  try with_reducible refine M7 ?_
  first|refine o0 (A3 ?_)|skip
  refine o0 (U7 hl.typeIs (by decide) ?_);refine o0 (K9 (name:=D3 "__setitem__") hl.typeIs slot_list_setitem
    (S1 slot_list_setitem hl.typeIs entry_list_setitem ?_ (args_list_setitem _ _ _)))
  show C1 _ _ (D1.List.listSubscript? (.ref sl) >>= _) _ _ s;refine o0 ?_;unfold D1.List.listSubscript?;refine o0 (wpAny_specialOf hTs slice_no_index ?_);simp only[Option.isNone_none,if_true];refine A3 ?_;show C1 _ _ (typeOf (.ref sl) >>= _) _ _ s;refine o0 (T6 hTs ?_)
  first
    |rw[if_neg (by decide)]
    |refine PySem.W.KFB.if_not (by decide) ?_
  rw[listSliceParts_eq];refine o0 (o0 (K4 hos hds (x:=.none) rfl (o0 (wpAny_listPart .none ?_))));rw[if_neg hstep];refine o0 (K4 hos hds (x:=vl) rfl (o0 (wpAny_listPart pl ?_)));refine o0 (K4 hos hds (x:=vu) rfl (o0 (wpAny_listPart pu (A3 ?_))))
  first
    |simp only[hsame,B0,if_false]
    |refine PySem.W.KFB.if_not hsame ?_
    | (dsimp only
       rw[if_neg (by rw[hsame];exact F0)])
  refine o0 (m:=D1.List.listAllItems (.ref b) "must assign iterable to extended slice") ?_;unfold D1.List.listAllItems;refine o0 (T6 hb.typeIs ?_)
  first
    |refine PySem.W.KFB.if_so (by decide) ?_
    |rw[if_pos (by decide)]
    |simp only[beq_self_eq_true,Bool.true_or,if_true]
  unfold D1.List.listItems;refine o0 (X9 e2 rfl (A3 ?_));refine o0 (o0 (X9 e rfl (A3 ?_)));refine o0 (ac0 ((sliceIndices_raw (some (a:Int)) (some (c:Int)) none items.size (by simp)).trans (congrArg (V1:Int×Int×Int->Sem (Int×Int×Int)) (oH hac hc))) ?_);show C1 _ _ (if((1:Int)==1)=true then _ else _) _ _ s;rw[if_pos (by decide)];refine o0 (wpAny_rule ?_)
  first
    |simp only[jz hsz,B0,if_false]
    |refine PySem.W.KFB.if_not (jz hsz) ?_
  first|refine o0 (A3 ?_)|skip
  show C1 _ _ (updateSeq l (λxs=>xs.extract 0 ((a:Int)).toNat++new++xs.extract (max (a:Int) (c:Int)).toNat xs.size) >>= _) _ _ s;rw[hmax,L9];refine o0 (wpAny_updateSeq (hz:=H0 (Nat.le_add_right _ _) hsz) (_hz':=hz') e rfl ?_);refine o0 (wpAny_letGo ?_)
  first
    |exact o0 (A3 (A3 ⟨.none,rfl,A3 h⟩))
    |exact A3 ⟨.none,rfl,A3 h⟩
end
section
variable{X:Cx}
theorem rm{af:List (A9×Obj)}{s:A2}{σ:St}{H:Hp}{l b sl:A9}{xs ys:List V}{a c:Int}{vl vu:A0}{Q:Unit->A2->Prop}(I:Inv X af σ H s)
  (hH:H l=some (.lst xs)) (hB:H b=some (.lst ys)) (hne:l≠b) (hs:s.heap.IsSliceOf sl vl vu .none) (ra:aL (.int a) vl) (rc:aL (.int c) vu) (h0:0<=a) (hac:a<=c) (hc:c<=xs.length)
  (hz:xs.length+ys.length<=A4) (h:∀s',Inv X af σ (upd H l (.lst (xs.take a.toNat++ys++xs.drop c.toNat))) s'->Q () s') :
  C1 (E2 X.prog X.w) X.A (setItem (.ref l) (.ref sl) (.ref b)) Q X.xe s:=by
 obtain⟨ta,rfl⟩:=ra;obtain⟨tc,rfl⟩:=rc;obtain⟨z,its,n,r,hl,e⟩:=I.lstM hH;obtain⟨z2,its2,n2,r2,hl2,e2⟩:=I.lstM hB;obtain⟨a',rfl⟩:=L1 h0;obtain⟨c',rfl⟩:=L1 (Int.le_trans h0 hac);simp only[L9]at h;refine ky (a:=a') (c:=c') e e2 hne hs (.int _ _) (.int _ _) (by lia) (by rw[A6];lia) (by rw[A6,A6];lia) (h _ ?_);refine I.lset (its':=its.take a'++its2++its.drop c') (t':=s.toks) hH e ?_ (aB.append (aB.append (r.take _) r2) (r.drop _)) ?_
 ·exact qH its its2 a' c'
 ·rw[C8,C8,D5,F6]
  lia
end
end L2
namespace Att
open PySem PySem.W PySem.Calls PyProof.Rows
theorem i5{P:Params}{h:D6}:∀(ns:List Int) (vs:List A0),WellAll P h vs (ns.map WData.int)->IntsAre vs ns:=by
 intro ns
 induction ns with
 |nil =>
  intro vs w;rw[X5]at w;cases w;exact .nil
 |cons n ns ih =>
  intro vs w;rw[J0]at w;cases w with
  |cons a b =>
   cases a;exact .cons _ _ (ih _ b)
theorem qD{l:OpenLaw}{n:Nat}(hn:l.most=some n){P:Params}{h:D6}{args:List WData}{vals:List A0}
  (hpre:l.row.toRowW.claim.pre args=true) (hwl:WellAll P h vals args) :
  ∃a vs ns,vals=[C2 a]/\args=[WData.list (ns.map WData.int)]/\h.get? a=some { cls:=.type "list",data:=.seq vs.toArray }/\IntsAre vs ns/\ns.length<=n:=by
 have hsh:WShape.hasAll [] args [.list .int]=true:=(pre_splitW hpre).1;have hc:l.pre.holds [] { args:=args }=true:=(pre_splitW hpre).2;obtain⟨d,r,rfl,h1,h2⟩:=hasAllW_cons hsh;obtain rfl:=hasAllW_nil h2;obtain⟨xs,rfl,h3⟩:=hasW_list h1;obtain⟨ns,rfl⟩:=items_int h3;have b6:ns.length<=n:=by
  unfold OpenLaw.pre at hc;have h4:(WTm.not (.lt (.lit (.int (n:Int))) (.len (.arg 0)))).holds [] { args:=[.list (ns.map .int)] }=true:=by
   have h4:=(holds_andW hc).1;rw[hn]at h4;exact h4
  have h5:=condW_of h4 (w_not (w_lt w_lit (w_len_list (w_arg rfl))));rw[A5]at h5;refine Nat.le_of_not_lt λq=>?_;have q':(n:Int)<((ns.length:Nat):Int):=by lia
  first
   |(rw[decide_eq_true q']at h5;exact absurd h5 (by decide))
   |(simp at h5;lia)
 cases hwl with
 |cons w1 w2 =>
  cases w2;cases w1 with
  |list ho hall=>exact⟨_,_,ns,rfl,rfl,ho,i5 ns _ hall,b6⟩
theorem qJ(l:OpenLaw)(args:List WData):l.row.toRowW.claim.post args (.bool true) args=true :=
 postW_of (r:=l.row.toRowW) (X:=(true==true))
  (show WShape.has [] (.bool true) .bool=true by first|rfl|decide|simp[WShape.has,WShape.arms,WShape.armsAll])
  (show(WTm.eq .res (.lit (.bool true))).value [] { args:=args,res:=some (.bool true),after:=args }=some (.bool (true==true))from w_eq_bool (w_res rfl) w_lit) rfl
theorem attach_call{l:OpenLaw}{n:Nat}{q:C6}{loose:List Str}{XP:(Str->Option A0)->D6->Prop}{YP:J1->D6->Prop}{d:DefRec}
  (hn:l.most=some n) (hdf:d.params.defaults=[])
  (call:∀ (w:J1) (s₀ s₁:A2) (mg mb:Str → Option A0) (fa:A9) (o:Obj) (pm cd doc:A0) (a:A9) (vs:List A0) (ns:List Int),
   Ground q loose [] XP w s₀ mg mb s₁.heap->YP w s₁.heap ->
   s₁.heap.get? fa=some o->o.data=.func (docDef d.name d.params d.body d.scope pm cd doc)->s₁.heap.CodeRec cd d.name->mg d.name=some (.ref fa) ->
   s₁.heap.get? a=some { cls:=.type "list",data:=.seq vs.toArray }->IntsAre vs ns->ns.length<=n->s₁.gens=#[] ->
   ab7 (E2 l.prog w) ac1 (.call (.ref fa) ⟨[.ref a],[]⟩) (λr s'=>r=.ok (.ret (.bool true))/\OldK s₁.heap s'.heap/\s'.os=s₁.os/\V3 s'.gens) s₁) :
  WalkO q loose XP YP l.row.toRowW d [] (λf vs=>PySem.call f vs):=by
 intro w s₀ s₁ mg mb G Y fa o pm cd doc dV kV ho hd hcd hD hmg hg args vals as hpre hlay hrd hwl hlo;obtain rfl:dV=.none:=Dflts.none hD hdf;obtain rfl:kV=.none:=Dflts.noKw hD;obtain⟨a,vs,ns,rfl,rfl,hobj,hints,b6⟩:=qD hn hpre hwl;refine enter_call (X1 (call w s₀ s₁ mg mb fa o pm cd doc a vs ns G Y ho (fd_plain hd) hcd hmg hobj hints b6 hg) λr s' hq=>?_);obtain⟨rfl,h2,h3,h4⟩:=hq;exact⟨.inl ⟨.bool true,.bool true,[],rfl,λ_=>rfl,.bool true,qJ l _,λ_=>⟨List.Pairwise.nil,λ_ hm=>(nomatch hm)⟩⟩,h2,h3,h4⟩
section
variable{prog:C6}{w:J1}{A:E7}{E:A0->A2->Prop}{s:A2}{K:Frag}
end
end Att
namespace L2
open PySem PySem.Spec PyProof.Rows
theorem kW:∀{vs:List A0}{ns:List Int},IntsAre vs ns->aB (ns.map V.int) vs
 |_,_,.nil=>.nil
 |_,_,.cons n t h=>.cons ⟨t,rfl⟩ (kW h)
def vq(H:Hp):Prop:=∀b,H b=none∨∃o xs,H b=some (.frz o (.lst xs))
theorem rO{P:C6}{w:J1}{K:u8}{mg mb:Str->Option A0}{CX:CXT}{k:Nat}{fa a:A9}{fd:B2}{x:Str}{sp:Sp}{s₁:A2}{vs:List A0}{ns:List Int}
  (KX:K.In s₁.heap) (hns:s₁.heap.Ns B7 mg) (hb:s₁.heap.Ns builtinsNs mb) (hbb:∀x:Str,x≠"__name__"->mb x=N7 x) (hlim:s₁.heap.NoLimit) (hg:s₁.gens=#[])
  (ha:s₁.heap.get? a=some { cls:=.type "list",data:=.seq vs.toArray }) (hi:IntsAre vs ns) (hl:ns.length<=A4) (hr:bw k ac1)
  (F:∀base:D6,K.In base->base.Ns B7 mg->aK P w K mg base CX k fa fd [x] sp) (hbind:∀(s:A2) (u:A0),ac6 s fd ⟨[u],[]⟩ [(x,u)])
  (hsp:∀H:Hp,vq H->SqL K H a (ns.map V.int)->sp [.ref a] H (λv _=>v=.bl true) λ_ _ _=>False)
  (hCX:∀H e s',CX [] H s₁ (λ_ _ _=>False) e s'->False) :
  ab7 (E2 P w) ac1 (.call (.ref fa) ⟨[.ref a],[]⟩) (λr s'=>r=.ok (.ret (.bool true))/\OldK s₁.heap s'.heap/\s'.os=s₁.os/\V3 s'.gens) s₁:=by
 have rv:=kW hi;have lenV:=hi.length
 -- from an abstract heap in which nothing but the script may be tracked
 have core:∀H:Hp,vq H->SqL K H a (ns.map V.int)->HOk P w H s₁.heap->(∀b,H b≠none->b=a)->(H a≠none->K.lookup a=none) ->
   ab7 (E2 P w) ac1 (.call (.ref fa) ⟨[.ref a],[]⟩) (λr s'=>r=.ok (.ret (.bool true))/\OldK s₁.heap s'.heap/\s'.os=s₁.os/\V3 s'.gens) s₁:=by
  intro H hO hS hok hA hK;have base_of:∀{b:A9} {o:Obj},s₁.heap.get? b=some o->H b=none->(mV s₁.heap H).get? b=some o:=λe n=>rK e n;have noA:∀{b:A9} {o:Obj} {es:Array ac4} {ep:Nat},s₁.heap.get? b=some o->o.data=.dict es ep->H b=none:=λ{b o es ep} e d=>by
   cases q:H b with
   |none=>rfl
   |some u =>
    have e':b=a:=hA b (by rw[q];simp);subst e';rw[ha]at e;cases e;have d':ab4 vs.toArray _=Z7 es ep:=d;cases d'
  have nsK:∀{b:A9} {m:Str->Option A0},s₁.heap.Ns b m->(mV s₁.heap H).Ns b m:=λ{b m} ⟨o,es,ep,e,d,r⟩=>⟨o,es,ep,base_of e (noA e d),d,r⟩;have hKb:K.In (mV s₁.heap H):=λb o e=>base_of (KX b o e) (by
   cases q:H b with
   |none=>rfl
   |some u =>
    have e':b=a:=hA b (by rw[q];simp);subst e';rw[hK (by rw[q];simp)]at e;cases e)
  have hM:Mod K mg (mV s₁.heap H):=⟨hKb,nsK hns,⟨mb,nsK hb,hbb⟩,let⟨mc,h1,h2⟩:=hlim;⟨mc,nsK h1,h2⟩⟩;have e0:kK P w K mg (mV s₁.heap H) ac1 [] s₁ H:=⟨rfl,hM,λb o e=>vg e,Nat.le_of_eq (qL _ _),trivial,λb hb=>absurd (show b∈([]:List A9)from hb) (by simp),hok,.of_eq hg⟩;refine X1 ((F _ hKb (nsK hns)).run ac1 [] s₁ H ⟨[.ref a],[]⟩ [.ref a] [.ref a] _ _ hr e0 (hbind s₁ (.ref a)) (.cons rfl .nil) (hsp H hO hS)) λr s' h=>?_;cases r with
  |error e=>exact(hCX H e s' h).elim
  |ok fl =>
   cases fl with
   |next=>exact K0 h
   |brk=>exact K0 h
   |cont=>exact K0 h
   |ret u =>
    obtain⟨v,H',os,bare,un,hok',r',q⟩:=h;have q':v=.bl true:=q;subst q';obtain rfl:u=V9 true:=r';refine⟨rfl,OldK.of_keep λb o e=>?_,os,bare⟩;cases q:H b with
    |none=>exact un.keep b o e q (by intro z;exact absurd (show b∈([]:List A9)from z) (by simp)) (by simp)
    |some u =>
     rcases hO b with z|⟨ob,xs,z⟩
     ·rw[q]at z;cases z
     ·have z2:=un.frzs b ob _ z;obtain⟨e1,_⟩:=hok b _ z;obtain⟨e2,_⟩:=hok' b _ z2;rw[e]at e1;cases e1;exact e2
 cases hk:K.lookup a with
 |some o =>
  -- the script is one of the module's own objects
  have e:=KX a o hk;rw[ha]at e;cases e;refine core (λ_=>none) (λ_=>.inl rfl) (.inr ⟨_,vs.toArray,_,hk,rfl,rfl,rfl,by rw[A6,lenV];exact hl,by simpa using rv⟩) (λb u z=>by have z':(none:Option HO)=some u:=z;cases z') (λb z=>absurd rfl z) λz=>absurd rfl z
 |none =>
  refine core (λb=>if b=a then some (.frz { cls:=.type "list",data:=.seq vs.toArray } (.lst (ns.map V.int)))else none) (λb=>?_) (.inl (.inr ⟨{ cls:=.type "list",data:=.seq vs.toArray },if_pos rfl⟩)) (λb u z=>?_) (λb z=>?_) λ_=>hk
  ·by_cases hb:b=a
   ·exact .inr ⟨_,_,if_pos hb⟩
   ·exact .inl (if_neg hb)
  ·by_cases hb:b=a
   ·have z':=(if_pos hb).symm.trans z;cases z';subst hb;exact⟨ha,by rw[A5];exact hl,vs,_,rv,ha⟩
   ·have z':=(if_neg hb).symm.trans z;cases z'
  ·by_cases hb:b=a
   ·exact hb
   ·exact absurd (if_neg hb) z
theorem pM{l:PySem.W.OpenLaw}{n k:Nat}{q:C6}{loose:List Str}{XP:(Str->Option A0)->D6->Prop}{YP:J1->D6->Prop}{d:DefRec}{K:Params->u8}{CX:J1->CXT}{sp:J1->Sp}{x:Str}
  (hn:l.most=some n) (hn2:n<=A4) (hdf:d.params.defaults=[]) (hr:bw k ac1)
  (hY:∀(w:J1) (h:D6),YP w h->(K w.params).In h)
  (F:∀ (w:J1) (mg:Str → Option A0) (fa:A9) (h:D6),(K w.params).In h → h.Ns B7 mg → mg d.name = some (.ref fa) →
   ∃fd:B2,(∀(s:A2) (u:A0),ac6 s fd ⟨[u],[]⟩ [(x,u)]) /\
    ∀base:D6,(K w.params).In base->base.Ns B7 mg->aK l.prog w (K w.params) mg base (CX w) k fa fd [x] (sp w))
  (hsp:∀(w:J1) (H:Hp) (a:A9) (ns:List Int),ns.length<=n->vq H->SqL (K w.params) H a (ns.map V.int)->sp w [.ref a] H (λv _=>v=.bl true) λ_ _ _=>False)
  (hCX:∀(w:J1) (H:Hp) (s:A2) (e:A0) (s':A2),CX w [] H s (λ_ _ _=>False) e s'->False) :
  PySem.W.WalkO q loose XP YP l.row.toRowW d [] (λf vs=>PySem.call f vs):=by
 refine Att.attach_call hn hdf λw s₀ s₁ mg mb fa o pm cd doc a vs ns G Y ho hd hcd hmg hobj hints b6 hg=>?_;have KX:=hY w _ Y;obtain⟨fd,hb,hF⟩:=F w mg fa _ KX G.T.g hmg;exact rO KX G.T.g G.T.b G.T.builtins G.T.nolimit hg hobj hints (H0 b6 hn2) hr hF hb (λH hO hS=>hsp w H a ns b6 hO hS) λH e s'=>hCX w H s₁ e s'
end L2
/- THE LAST THEOREM (shape; LID,My.* are yours):
   My.Adr: a structure of the addresses that your layer names (classes,functions);My.Txt K t: a structure (Prop) of the equations over K;
   My.txt_mk:{K} {implicit addresses ..} (e1:nsIn K B7 "law"=some (some (.ref f))) (e2:K.lookup f=some ⟨oc,od,.func (fnOf "law" "law" params body scope dV kV doc pm an cdv ct),sl⟩) (e3:codeIn K cdv "law"=true) ..:∃t,My.Txt K t
set_option maxRecDepth 100000 in
set_option maxHeartbeats 0 in
theorem PySem.Challenge.cw_LID_holds : PySem.Challenge.rw_LID.Holds := by
 w_on;o_law;k_head;(case hw=>w_witness2)
 k_fill
 refine L2.pM (l:=PySem.Challenge.rw_LID) (n:=63) (k:=40) (x:="script") (CX:=λw=>..) (sp:=λ_=>My.sp_law) rfl (by decide) rfl ⟨rfl,by decide,by decide⟩ (λw h Y=>PySem.W.kIn_of Y) ?F ?S ?C
 case F =>
  intro w mg fa h KX G hmg;have T:∃t,My.Txt (L2.KOf KX) t:=by
   dsimp only[L2.KOf]                          -- K must stand as «<heap const> w.params» for k_is
   refine' My.txt_mk ?e1 ?e2 ?e3 ..
   (case e1=>PySem.W.k_is)                    -- in the order: a name->its address->its object->its parts
   (case e2=>PySem.W.k_is)
   ..
  obtain⟨t,T⟩:=T;have e0:=hmg.symm.trans (F2 KX G T.law);cases e0                                       -- fa is the law's own address;exact⟨_,λs u=>.of_eq rfl,λbase kb nb=>My.law_fn T kb nb⟩     -- if «.of_eq rfl» comes too early: refine' ⟨_,?b,λbase kb nb=>My.law_fn T kb nb⟩;exact λs u=>.of_eq rfl
 case S=>exact λw H a ns hl hO hS=>..
 case C=>exact ..
(the tactic k_is has no namespace: write k_is) -/
namespace L2
open PySem PySem.Spec PyProof.Rows
def de(s:N5):Arguments:=match s with
 |.FunctionDef _ a _ _ _ _ _ _ _ _=>a
 |_=>{ posonlyargs:=[],args:=[],vararg:=none,kwonlyargs:=[],kw_defaults:=[],kwarg:=none,defaults:=[] }
def bM(s:N5):List N5:=match s with
 |.FunctionDef _ _ b _ _ _ _ _ _ _=>b
 |_=>[]
def aj(s:N5):T8:=match s with
 |.FunctionDef _ _ _ _ _ _ sc _ _ _=>sc
 |_=>{ kind:=.function,names:=[],isGenerator:=false,isCoroutine:=false }
abbrev CX0:CXT:=λ_ _ _ _ _ _=>False
abbrev E0:XK:=λ_ _ _=>False
theorem vS{X:Cx}:oQ CX0 X E0:=λ_ _ _ _ _ _ _ h=>h.elim
structure Fun(K:u8) (x qual:Str) (st:N5) (f:A9) (fd:B2):Prop where
 ex:∃(oc:A0) (od:Option A9) (kV doc pm:A0) (an:Option A9) (cdv ct:A0) (osl:Array (Option A0)),
  fd=P4 x qual (de st) (bM st) (aj st) .none kV doc pm an cdv ct/\K.lookup f=some ⟨oc,od,.func fd,osl⟩/\S2 K cdv qual=true
 kp:K3 K (.ref f)=true
section
variable{P:C6}{w:J1}{K:u8}{mg:Str->Option A0}{base:D6}{f:A9}{fd:B2}
theorem Fun.ok{x qual:Str}{st:N5}{f:A9}{fd:B2}{N ps:List Str}{k:Nat}{sp:Sp}(F:Fun K x qual st f fd)(S:ar N ps (aj st))(len:∀vs H Q E,sp vs H Q E->vs.length=ps.length)
  (hbody:∀ (cdv:A0) (A:E7) (outer:List Env) (s:A2) (H:Hp) (vs:List V) (Q:VK) (E:XK),bw k (A.deeper (U2 qual (aj st) s.heap.objs.size f cdv)) → sp vs H Q E →
   ∃t,PSs (j8 CX0 P w K mg base N qual (aj st) f cdv A outer s H E).nox (bM st) t/\t { nx:=λ_ H'=>Q .non H',rt:=Q } (eI N vs) H):aK P w K mg base CX0 (k+1) f fd ps sp:=by
 obtain⟨oc,od,kV,doc,pm,an,cdv,ct,osl,rfl,lk,hcd⟩:=F.ex;refine vL lk hcd S len λA outer s H vs Q E hr hsp=>?_;obtain⟨t,h,q⟩:=hbody cdv A outer s H vs Q E hr hsp;exact⟨t,h.nox,q⟩
theorem Fun.binds{x qual:Str}{st:N5}{f:A9}{fd:B2}{ps:List Str}(F:Fun K x qual st f fd)
  (h:∀(kV doc pm:A0) (an:Option A9) (cdv ct:A0) (us:List A0),us.length=ps.length->bindArgs (P4 x qual (de st) (bM st) (aj st) .none kV doc pm an cdv ct) ⟨us,[]⟩=V1 (ps.zip us)):bS K fd ps []:=by
 obtain⟨oc,od,kV,doc,pm,an,cdv,ct,osl,rfl,lk,hcd⟩:=F.ex;exact .all (h kV doc pm an cdv ct)
theorem o4{x qual:Str}{st:N5}{f:A9}{oc:A0}{od an:Option A9}{osl:Array (Option A0)}{kV doc pm cdv ct:A0}(l:K.lookup f=some ⟨oc,od,.func (P4 x qual (de st) (bM st) (aj st) .none kV doc pm an cdv ct),osl⟩)
  (c:S2 K cdv qual=true) (k:K3 K (.ref f)=true):Fun K x qual st f (P4 x qual (de st) (bM st) (aj st) .none kV doc pm an cdv ct):=⟨⟨oc,od,kV,doc,pm,an,cdv,ct,osl,rfl,l,c⟩,k⟩
end
theorem kT{n:Nat}(h:n<=1000):n<A4:=Nat.lt_of_le_of_lt h (by decide)
section
variable{X:Cx}
theorem pv(i:Nat){x:Str}{pos:Pos}(hN:X.N[i]?=some x:=by rfl)(hv:Vis X.env.scope x:=by first|exact D8 rfl|exact Z8 (D8 rfl)|exact Z8 (Z8 rfl))(hd:(x==("__debug__":Str))=false:=by decide)
  (hcd:(x==("__classdict__":Str))=false:=by decide):PE X (.Name x pos) (rh i):=pf hN hv hd hcd
end
theorem aM{c A B:Prop}[Decidable c](h1:c->A)(h2:¬ c->B):if c then A else B:=by
 by_cases h:c
 ·rw[if_pos h];exact h1 h
 ·rw[if_neg h];exact h2 h
section
variable{κ:Type} [DecidableEq κ]
noncomputable def oi(kvs:List (κ×V))(k:κ):Option V:=(kvs.find? λkv=>decide (kv.1=k)).map (·.2)
noncomputable def uV(kvs:List (κ×V))(k:κ)(v:V):List (κ×V) :=
 if(kvs.any λkv=>decide (kv.1=k))=true then kvs.map (λkv=>if kv.1=k then(kv.1,v)else kv)else kvs++[(k,v)]
def Am(kvs:List (κ×V))(k:κ):List (κ×V):=kvs.filter λkv=>decide (kv.1≠k)
theorem nO{p:κ×V}{r:List (κ×V)}{k:κ}(e:p.1=k):oi (p::r) k=some p.2:=by simp[oi,S6,e]
theorem nh{p:κ×V}{r:List (κ×V)}{k:κ}(e:¬ p.1=k):oi (p::r) k=oi r k:=by simp[oi,S6,e]
theorem tU.getD{o:Option V}{u:Option A0}{d:V}{d':A0}(r:tU o u)(rd:aL d d'):aL (o.getD d) (u.getD d'):=by
 cases o with
 |none=>cases u with
  |none=>exact rd
  |some _=>exact(show False from r).elim
 |some _=>cases u with
  |none=>exact(show False from r).elim
  |some _=>exact r
theorem KV.val{kvs:List (κ×V)}{vs:List (κ×A0)}(r:KV kvs vs)(k:κ):tU (oi kvs k) (U4 vs k):=by
 unfold KV at r
 induction r with
 |nil=>exact True.intro
 |@cons p q ps qs h t ih =>
  obtain⟨h1,h2⟩:=h
  by_cases e:p.1=k
  ·have e':q.1=k:=h1.symm.trans e;have b:U4 (q::qs) k=some q.2:=by simp[U4,S6,e']
   rw[nO e,b];exact h2
  ·have e':¬ q.1=k:=λz=>e (h1.trans z);have b:U4 (q::qs) k=U4 qs k:=by simp[U4,S6,e']
   rw[nh e,b];exact ih
theorem KV.any{kvs:List (κ×V)}{vs:List (κ×A0)}(r:KV kvs vs)(k:κ):(kvs.any λkv=>decide (kv.1=k))=vs.any λkv=>decide (kv.1=k):=by
 unfold KV at r
 induction r with
 |nil=>rfl
 |cons h t ih=>rw[P5,P5,ih,h.1]
theorem KV.repl{kvs:List (κ×V)}{vs:List (κ×A0)}(r:KV kvs vs)(k:κ){y:V}{u:A0}(ry:aL y u):
  KV (kvs.map λkv=>if kv.1=k then(kv.1,y)else kv) (vs.map λkv=>if kv.1=k then(kv.1,u)else kv):=by
 unfold KV at r ⊢
 induction r with
 |nil=>exact .nil
 |@cons p q ps qs h t ih =>
  rw[J0,J0];refine .cons ?_ ih;obtain⟨h1,h2⟩:=h
  by_cases e:p.1=k
  ·rw[if_pos e,if_pos (h1.symm.trans e)];exact⟨h1,ry⟩
  ·rw[if_neg e,if_neg (λz=>e (h1.trans z))];exact⟨h1,h2⟩
theorem KV.put{kvs:List (κ×V)}{vs:List (κ×A0)}(r:KV kvs vs)(k:κ){y:V}{u:A0}(ry:aL y u):KV (uV kvs k y) (stored vs k u):=by
 unfold uV stored;rw[r.any k]
 by_cases e:(vs.any λkv=>decide (kv.1=k))=true
 ·rw[if_pos e,if_pos e];exact r.repl k ry
 ·rw[if_neg e,if_neg e];exact R0.snoc r ⟨rfl,ry⟩
theorem KV.length{kvs:List (κ×V)}{vs:List (κ×A0)}(r:KV kvs vs):kvs.length=vs.length:=R0.length r
end
theorem se{P:C6}{w:J1}{k:Key}{u:A0}(r:aL (kV k) u):(cp P w).is k u=true:=by
 cases k with
 |inl i=>obtain⟨t,e⟩:=(show ∃t,u=A0.int i t from r);subst e;exact ni P w i t
 |inr x=>obtain⟨t,e⟩:=(show ∃t,u=aa7 x t from r);subst e;exact ny P w x t
def v6(i:D0):Prop:=∀ov iv,ab8 i false ov iv=operate [ov,iv] (X8 ov iv)
theorem vi{prog:C6}{w:J1}{A:E7}{E:A0->A2->Prop}{s:A2}{env:Env}{value slice:D0}{pos:Pos}{T id:String}{Q:A0->A2->Prop}
  (hl:typeLookup (.type T) "__getitem__"=V1 (some (.builtin id))) (hs:v6 slice)
  (h:C1 (E2 prog w) A (S7 value env) (λo s₁=>C1 (E2 prog w) A (S7 slice env) (λi s₂=>s₂.TypeIs o T/\C1 (E2 prog w) A (X8 o i) Q E s₂) E s₁) E s) :
  C1 (E2 prog w) A (S7 (.Subscript value slice pos) env) Q E s:=by
 refine ac7 (I0 h (λo s₁ h₁=>I0 h₁ (λi s₂ h₂=>?_) λ_ _ x=>x) λ_ _ x=>x);obtain⟨hT,h₂⟩:=h₂;unfold subscriptTail;refine o0 ?_;rw[getitemInPython_of_ne hT.not_modules];refine o0 (wpAny_specialOf hT hl ?_);have fin:C1 (E2 prog w) A (ab8 slice false o i) (λr s₃=>C1 (E2 prog w) A (letTemporaryGo value o r >>= λ_=>V1 r) Q E s₃) E s₂:=by
  rw[hs o i];exact wpAny_operating (I0 h₂ (λr s₃ h₃=>o0 (wpAny_letTemporaryGo (A3 h₃))) λ_ _ x=>x)
 first
  |exact A3 (o0 fin)
  |exact o0 (A3 (o0 fin))
  |exact o0 fin
structure M1(X:Cx) (o:D0) (m:Str) (kr:Pos) (e:D0) (cT:Pos):Prop where
 base:aa2 o m X.env (S7 o X.env)=S7 o X.env
 few:((Q4 cT (B1 [e] X.env)).all (λx=>!x.1)&&(ad1 cT (aa3 [] X.env)).all (λx=>x.1.isSome)
 &&decide (([e]:List D0).length+([]:List ab9).length+(if([]:List ab9).isEmpty then 0 else 1)<30))=true
 line:(kr.endLine==cT.line)=true
 trees:Q4 cT (B1 [e] X.env)=[(false,S7 e X.env)]
structure M2(X:Cx) (o:D0) (m:Str) (kr:Pos) (e f:D0) (cT:Pos):Prop where
 base:aa2 o m X.env (S7 o X.env)=S7 o X.env
 few:((Q4 cT (B1 [e,f] X.env)).all (λx=>!x.1)&&(ad1 cT (aa3 [] X.env)).all (λx=>x.1.isSome)
 &&decide (([e,f]:List D0).length+([]:List ab9).length+(if([]:List ab9).isEmpty then 0 else 1)<30))=true
 line:(kr.endLine==cT.line)=true
 trees:Q4 cT (B1 [e,f] X.env)=[(false,S7 e X.env),(false,S7 f X.env)]
noncomputable def a6(X:Cx)(scope:T8)(cl:List (Str×A9))(N:List Str)(C:A9)(s:A2)(H:Hp)(ex:List A9):Cx where
 prog:=X.prog
 w:=X.w
 K:=X.K
 mg:=X.mg
 base:=X.base
 A:=X.A
 N:=N
 s₀:=s
 H₀:=H
 env:=compEnvC scope cl C X.env
 outer:=X.stack
 stack:=X.stack
 ex:=ex
 calm:=X.calm
 fn:=λ_=>false
 pn:=[]
 xe:=λ_ _=>False
noncomputable def bu:List Bool->St->St
 |true::ms,v::σ=>v::bu ms σ
 |false::ms,_::σ=>none::bu ms σ
 |[],_::σ=>none::bu [] σ
 |_,[]=>[]
theorem bv:∀(ms:List Bool) (σ:St),(bu ms σ).length=σ.length
 |true::ms,v::σ=>by simp[bu,bv ms σ]
 |false::ms,_::σ=>by simp[bu,bv ms σ]
 |[],_::σ=>by simp[bu,bv [] σ]
 |[],[]=>by simp[bu]
 |true::_,[]=>by simp[bu]
 |false::_,[]=>by simp[bu]
theorem fK:∀{ms:List Bool}{σ:St}{i:Nat}{v:V},(bu ms σ)[i]?=some (some v)->ms[i]?=some true/\σ[i]?=some (some v)
 |true::ms,v::σ,0,x,h=>by simpa[bu]using h
 |true::ms,v::σ,i+1,x,h=>by
  have:=fK (ms:=ms) (σ:=σ) (i:=i) (v:=x) (by simpa[bu]using h);simpa using this
 |false::ms,_::σ,0,x,h=>by simp[bu]at h
 |false::ms,_::σ,i+1,x,h=>by
  have:=fK (ms:=ms) (σ:=σ) (i:=i) (v:=x) (by simpa[bu]using h);simpa using this
 |[],_::σ,0,x,h=>by simp[bu]at h
 |[],_::σ,i+1,x,h=>by
  have:=fK (ms:=[]) (σ:=σ) (i:=i) (v:=x) (by simpa[bu]using h);simpa using this
 |[],[],_,_,h=>by simp[bu]at h
 |true::_,[],_,_,h=>by simp[bu]at h
 |false::_,[],_,_,h=>by simp[bu]at h
def fY(ms:List Bool)(k:Nat)(σ:St):St:=bu ms σ++B3 k none
theorem qA{ms:List Bool}{k:Nat}{σ:St}{i:Nat}{v:V}(h:(fY ms k σ)[i]?=some (some v)):i<σ.length/\ms[i]?=some true/\σ[i]?=some (some v):=by
 unfold fY at h
 by_cases hi:i<(bu ms σ).length
 ·rw[E9 hi]at h;exact⟨by rwa [bv]at hi,fK h⟩
 ·rw[O7 (by lia),R7]at h
  split at h<;>cases h
structure fm(X:Cx) (scope:T8) (cl:List (Str×A9)) (ms:List Bool) (ay:List Str):Prop where
 kind:scope.kind=.function
 ncell:∀y∈scope.names,y.2≠.cell
 names:∀y∈scope.names,y.2=.local->scope.names.lookup y.1=some .local
 clos:closureFor scope X.env=V1 cl
 sub:∀x c,cl.lookup x=some c->X.env.cells.lookup x=some c
 has:∀x,scope.names.lookup x=some .free->∃c,cl.lookup x=some c
 fr:∀x,scope.names.lookup x=some .free->X.env.scope.names.lookup x=some .cell∨X.env.scope.names.lookup x=some .free
 mask:∀(i:Nat) (x:Str),ms[i]?=some true->X.N[i]?=some x->scope.names.lookup x=some .free
 mlen:ms.length<=X.N.length
theorem gT{env:Env}:∀{names:List (Str×J6)}{x:Str}{k:J6},
  (names.map λ(n,k)=>if(k==M8&&env.scope.kind==.function&&env.kindOf n==some .cell)then(n,U5)else(n,k)).lookup x=some k->(∀y∈names,y.2≠.cell)->k=.cell∨k=.free->names.lookup x=some .free
 |[],_,_,h,_,_=>by simp at h
 |(n,k0)::r,x,k,h,hc,hk=>by
  have ih:=@gT env r x k;have h:ac2 x ((if(k0==M8&&env.scope.kind==.function&&env.kindOf n==some .cell)=true then(n,U5)else(n,k0))::_)=some k:=h;cases hx:x==n with
  |true =>
   by_cases hq:(k0==M8&&env.scope.kind==.function&&env.kindOf n==some .cell)=true
   ·have:k0=.free:=by
     simp at hq;exact hq.1.1
    subst this;simp[F1,hx]
   ·rw[if_neg hq]at h;simp only[F1,hx]at h;cases h;rcases hk with rfl|rfl
    ·exact absurd rfl (hc (n,.cell) J5)
    ·simp[F1,hx]
  |false =>
   by_cases hq:(k0==M8&&env.scope.kind==.function&&env.kindOf n==some .cell)=true
   ·rw[if_pos hq]at h;simp only[F1,hx]at h ⊢;exact ih h (λy hy=>hc y (C7 _ hy)) hk
   ·rw[if_neg hq]at h;simp only[F1,hx]at h ⊢;exact ih h (λy hy=>hc y (C7 _ hy)) hk
theorem gE{env:Env}:∀{names:List (Str×J6)}{x:Str},names.lookup x=some .free ->
  (names.map λ(n,k)=>if(k==M8&&env.scope.kind==.function&&env.kindOf n==some .cell)then(n,U5)else(n,k)).lookup x=some .cell ∨
  (names.map λ(n,k)=>if(k==M8&&env.scope.kind==.function&&env.kindOf n==some .cell)then(n,U5)else(n,k)).lookup x=some .free
 |[],_,h=>by simp at h
 |(n,k0)::r,x,h=>by
  have ih:=@gE env r x;show ac2 x ((if(k0==M8&&env.scope.kind==.function&&env.kindOf n==some .cell)=true then(n,U5)else(n,k0))::_)=_∨ac2 x ((if(k0==M8&&env.scope.kind==.function&&env.kindOf n==some .cell)=true then(n,U5)else(n,k0))::_)=_;cases hx:x==n with
  |true =>
   simp only[F1,hx]at h;cases h
   split
   ·left;simp[F1,hx]
   ·right;simp[F1,hx]
  |false =>
   simp only[F1,hx]at h
   split<;>(simp only[F1,hx];exact ih h)
section
variable{X:Cx}{af:List (A9×Obj)}{σ:St}{H H2:Hp}{s s2:A2}{scope:T8}{cl:List (Str×A9)}{ms:List Bool}{ay:List Str}
theorem rA(I:Inv X af σ H s)(S:fm X scope cl ms ay){fp:List A9}(hfp:∀b∈fp,dB X af H b)(hlt:∀b∈fp,b<s.heap.objs.size){C:A9}(hC:s.heap.objs.size<=C):
  (a6 X scope cl (X.N++ay) C s H fp).Ok where
 mod:=I.ok.mod
 kind:=S.kind
 glob:=I.ok.glob
 blt:=I.ok.blt
 above:=hC
 inj:=λx y c h1 h2=>I.ok.inj x y c (S.sub x c h1) (S.sub y c h2)
 has:=λx hx=>S.has x (gT (env:=X.env) (k:=if(a6 X scope cl (X.N++ay) C s H fp).env.kindOf x=some .cell then .cell else .free) (by
  rcases hx with hx|hx
  ·rw[if_pos hx];exact hx
  ·rw[if_neg (by rw[hx];decide)];exact hx) S.ncell (by split<;>simp))
 cab:=λx c h=>by cases h
 hd:=I.ok.hd
 frames:=I.ok.frames
 stk:=.inl rfl
 exf:=λb hb=>⟨E4 (B5 (hlt b hb) hC),λx c e=>(hfp b hb).2.2.2.2.1 x c (S.sub x c e)⟩
 bs:=I.bs
 bsz:=H0 I.ok.bsz I.sz
 noex:=λb o e hb=>by
  rcases(hfp b hb).2.2.2.1 with z|z
  ·exact I.ok.noex b o e z
  ·exact absurd (B5 (B4 e) (H0 I.ok.bsz z)) (P1 _)
 exfs:=λb hb z=>by
  rcases B9.mp (I.stkSub b z)with e|e
  ·exact(hfp b hb).2.1 e
  ·exact(hfp b hb).2.2.1 e
 funs:=I.stack
 frf:=I.stkFree
theorem uu(I:Inv X af σ H s)(S:fm X scope cl ms ay){fp:List A9}(hfp:∀b∈fp,dB X af H b)(hlt:∀b∈fp,b<s.heap.objs.size){C:A9}(hC:s.heap.objs.size<=C)
  (os:s2.os=s.os) (bare:V3 s2.gens) (keep:∀b o,s.heap.get? b=some o->s2.heap.get? b=some o) {m:Str->Option A0} (hn:s2.heap.Ns C m) :
  Inv (a6 X scope cl (X.N++ay) C s H fp) [] (fY ms ay.length σ) H s2 where
 ok:=rA I S hfp hlt hC
 os:=os
 bare:=bare
 base:=Un.kept keep
 loc:=⟨m,hn,λi x v h1 h2 h3=>by
  obtain⟨hi,hm,hv⟩:=qA h2;have hiN:i<X.N.length:=by rw[<-I.len];exact hi
  have hx:X.N[i]?=some x:=by
   have h1':(X.N++ay)[i]?=some x:=h1
   rwa [E9 hiN]at h1'
  have hf:=S.mask i x hm hx;obtain⟨m0,hn0,hl⟩:=I.loc;obtain⟨u,r,l⟩:=hl i x v hx hv (by rcases S.fr x hf with z|z<;>simp[Vis,z]);refine⟨u,r,.inr ⟨?_,?_⟩⟩
  ·exact gE (env:=X.env) hf
  ·obtain⟨c,hc⟩:=S.has x hf;have hc':=S.sub x c hc;rcases l with⟨k,_⟩|⟨_,c',e,z⟩
   ·rcases S.fr x hf with z|z<;>(have k':X.env.scope.names.lookup x=some .local:=k;rw[z]at k';cases k')
   ·rw[hc']at e;cases e;obtain⟨o,ho,hd⟩:=z;exact⟨c,hc,o,keep _ _ ho,hd⟩⟩
 cell:=λx c e=>by
  obtain⟨v,o,ho,hd⟩:=I.cell x c (S.sub x c e);exact⟨v,o,keep _ _ ho,hd⟩
 free:=I.hok.fresh hC
 freeC:=λx c e=>I.freeC x c (S.sub x c e)
 pin:=λp hp=>absurd (show p∈([]:List (A9×Obj))from hp) (by simp)
 hok:=I.hok.kept keep
 len:=by
  unfold fY;rw[C8,bv,List.length_replicate,I.len];show _=(X.N++ay).length;rw[C8]
end
def PIf(X:Cx)(ifs:List D0)(t:TT):Prop :=
 ∀(af:List (A9×Obj)) (s:A2) (σ:St) (H:Hp) (Q:Bool->Hp->Prop),Inv X af σ H s->t σ H Q ->
  C1 (E2 X.prog X.w) X.A (forIn ifs true λc r=>if r=true then do let ok <-isTrue c X.env (S7 c X.env);V1 (L3 ok)else V1 (L3 r)) (TP X af σ Q) X.xe s
def zY:TT:=λ_ H Q=>Q true H
theorem uG{X:Cx}:PIf X [] zY:=λ_ _ _ H _ I h=>wpAny_tests_nil ⟨H,I,h⟩
theorem vh{X:Cx}{c:D0}{t:TT}(h:PT X c t):PIf X [c] t:=λaf s σ H Q I q=>wpAny_tests_one (h af s σ H Q I q)
abbrev dU(its:List A0)(n:Nat):Obj:={ cls:=.type "list",data:=.seq its.toArray n }
theorem thF{α:Type}{t:Sem α}{Q Q':α->A2->Prop}{M:Model}{A:E7}{E:A0->A2->Prop}{s:A2}(hE:E=λ_ _=>False)(h:C1 M A t Q E s)(hQ:∀a s,Q a s->Q' a s):C1 M A t Q' (λ_ _=>False) s:=I0 h hQ λe s x=>by rw[hE]at x;exact x
abbrev lcE(el:D0)(gs:List V6)(sc:T8)(ps:Pos):D0:=.ListComp el gs sc ps
section
variable{prog:C6}{w:J1}{A:E7}{R:Result->A2->Prop}{s:A2}{el tg elt i:D0}{fs:List D0}{k:Nat}{p:Pos}{it acc:A0}{env:Env}{gs:List V6}{sc:T8}{ps:Pos}
abbrev AWt:=(A2->Prop)->A2->Prop
def pJ(prog:C6)(w:J1)(A:E7)(elt:D0)(acc:A0)(env:Env):AWt:=λOk s=>C1 (E2 prog w) A (S7 elt env) (λx s₄=>C1 (E2 prog w) A (call (.builtin "list.append") [acc,x]) (λ_ s₅=>Ok s₅) (λ_ _=>False) s₄) (λ_ _=>False) s
def xn(ce:D0)(k:Nat)(p:Pos)(tg:D0)(fs:List D0)(bd:A0->A0->Env->Sem Fin):Prop:=∀it acc env,compTurn ce k it acc env=(do
  ad3 p
  let r <-pyNext it
  match r with
   |none=>V1 (Fin.done Flow.next)
   |some v=>do
    T9 tg it v
    Z4 tg env v
    let ok <-forIn fs true λc r=>if r=true then do let ok <-PySem.isTrue c env (S7 c env);V1 (L3 ok)else V1 (L3 r)
    if ok=true then bd it acc env else again (aa4 ce k it acc env))
def wk(prog:C6)(w:J1)(A:E7)(ce:D0)(k:Nat)(bd:A0->A0->Env->Sem Fin)(it acc:A0)(env:Env)(AW:AWt):Prop :=
 ∀Ok s (R:Result->A2->Prop) (E:A0->A2->Prop),AW Ok s->C1 (E2 prog w) A (bd it acc env) (λfin s'=>match fin with|.done f=>R (.ok f) s'|.again c'=>c'=aa4 ce k it acc env/\Ok s') E s
theorem kN{bd:A0->A0->Env->Sem Fin}{AW:AWt}(hT:xn (lcE el gs sc ps) k p tg fs bd)(hq:(aa4 (lcE el gs sc ps) k it acc env).quiet=true:=by rfl)(hb:wk prog w A (lcE el gs sc ps) k bd it acc env AW)(I:Nat->A2->Prop)
  (turn:∀ n s,I n s → C1 (E2 prog w) A (pyNext it) (λr s₁ => match r with
   |none=>R (.ok .next) s₁
   | some v => C1 (E2 prog w) A (T9 tg it v) (λ_ s₁ => C1 (E2 prog w) A (Z4 tg env v) (λ_ s₂ =>
     C1 (E2 prog w) A (forIn fs true λc r=>if r=true then do let ok <-isTrue c env (S7 c env);V1 (L3 ok)else V1 (L3 r)) (λok s₃ =>
      if ok=true then AW (λs₅=>∃m,m<n/\I m s₅) s₃
      else ∃m,m<n/\I m s₃) (λ_ _=>False) s₂) (λ_ _=>False) s₁) (λ_ _=>False) s₁) (λ_ _=>False) s)
  (n:Nat) (h:I n s) :
  ab7 (E2 prog w) A (.compLoop (lcE el gs sc ps) k it acc env) R s:=by
 refine codeAny_loop hq I (λn s hI=>?_) n h;show C1 _ A ((compTurn (lcE el gs sc ps) k it acc env).onRaise (λx=>do ac5 x env;theTreesLotGoes x)) _ _ s;refine wpAny_noted ?_;rw[hT];refine o0 (V7 (o0 (I0 (turn n s hI) (λr s₁ h₁=>?_) λ_ _ h'=>h'.elim)));cases r with
 |none=>exact A3 h₁
 |some v =>
  refine o0 (I0 h₁ (λ_ s1 h₁=>?_) λ_ _ h'=>h'.elim);refine o0 (I0 h₁ (λ_ s₂ h₂=>o0 (I0 h₂ (λok s₃ h₃=>?_) λ_ _ h'=>h'.elim)) λ_ _ h'=>h'.elim);cases ok with
  |false=>exact A3 ⟨rfl,h₃⟩
  |true=>exact hb _ _ _ _ h₃
noncomputable def vG(ce:D0)(k:Nat)(elt:D0):A0->A0->Env->Sem Fin:=λit acc env=>bind (bind (S7 elt env) λx=>bind (call (A0.builtin "list.append") [acc,x]) λ_=>V1 ()) λ(_:Unit)=>again (aa4 ce k it acc env)
theorem vv:wk prog w A (lcE el gs sc ps) k (vG (lcE el gs sc ps) k elt) it acc env (pJ prog w A elt acc env):=λOk s R E h =>
 o0 (o0 (I0 h (λx s₄ h₄=>o0 (I0 h₄ (λ_ s₅ h₅=>A3 (A3 ⟨rfl,h₅⟩)) λ_ _ h'=>h'.elim)) λ_ _ h'=>h'.elim))
end
abbrev BK:=List V->St->Hp->(List V->St->Hp->Prop)->Prop
def mM(J:It)(g:TG)(tc:TT)(B:BK)(W:Nat->Nat->List V->St->Hp->Prop)(Z:List V->St->Hp->Prop):Prop :=
 ∀i m ys σ H,W i m ys σ H->ys.length<=A4/\((J.stop i H/\Z ys σ H) ∨
  (J.go i H/\∀x H',J.yld i H x H'->g x σ H' λσ2 H2=>tc σ2 H2 λb H3=>if b=true then B ys σ2 H3 (λys' σ' H'=>∃m',m'<m/\W (i+1) m' ys' σ' H')else ∃m',m'<m/\W (i+1) m' ys σ2 H3))
def ot(te:TE):BK:=λys σ H Z=>te σ H λy H'=>Z (ys++[y]) σ H'
section
variable{Y:Cx}{D:A9}{el tg elt i1:D0}{fs:List D0}{g:TG}{tc:TT}{te:TE}{wi:TI}{B:BK}{k:Nat}{p:Pos}{gs:List V6}{sc:T8}{ps:Pos}
def vC(Y:Cx)(D:A9)(AW:AWt)(B:BK):Prop:=∀(P:List (A9×Obj)) (its:List A0) (nn:Nat) (ys:List V) (σ:St) (H:Hp) (s:A2) (Z:List V->St->Hp->Prop),Inv Y ([(D,dU its nn)]++P) σ H s->aB ys its->ys.length<=A4->(∀p∈P,p.1≠D)->B ys σ H Z ->
 AW (λs'=>∃ys' its' n' σ' H',Inv Y ([(D,dU its' n')]++P) σ' H' s'/\aB ys' its'/\Z ys' σ' H') s
structure ls(Y:Cx) (D:A9):Prop where
 pn:Y.pn=[]
 calm:Y.calm=true
 xe:Y.xe=λ_ _=>False
 ex:D∈Y.ex∨Y.s₀.heap.objs.size<=D
 cell:∀x c,Y.env.cells.lookup x=some c->c≠D
theorem AWt.mono_leaf{prog:C6}{w:J1}{A:E7}{acc:A0}{env:Env}{Ok Ok':A2->Prop}{s:A2}(h:pJ prog w A elt acc env Ok s)(k:∀s,Ok s->Ok' s):pJ prog w A elt acc env Ok' s :=
 I0 h (λ_ _ h1=>I0 h1 (λ_ _ h2=>k _ h2) λ_ _ x=>x) λ_ _ x=>x
theorem sV(c:ls Y D)(he:PE Y elt te):vC Y D (pJ Y.prog Y.w Y.A elt (.ref D) Y.env) (ot te):=by
 intro P its nn ys σ H s Z I rv hz hPD q;refine thF c.xe (he _ s σ H _ I q) λv s9 hup=>hup.el λy H9 I9 r9 q9=>?_;have pacc:=I9.pin (D,dU its nn) (D2 _ (K2 _ J5));have hzi:its.toArray.size<=A4:=by rw[A6,<-rv.length];exact hz
 refine PySem.wpAny_list_append_plain (hsz:=hzi) ⟨nn,pacc.1⟩ λh' hl' hs'=>?_;obtain⟨n',hl'⟩:=hl';have I10:Inv Y [] σ H9 { s9 with heap:=h' } :=
  Inv.turned (t':=s9.toks) (it:=D) (I9.pins_of λp hp=>absurd hp (by simp)) (λb o hb e=>(hs'.2 b hb).trans e) pacc.2.1 pacc.2.2.1 c.ex c.cell (λp hp=>absurd (show p∈([]:List (A9×Obj))from by rw[c.pn]at hp;exact hp) (by simp))
 refine⟨ys++[y],its++[v],n',σ,H9,I10.pins_of λp hp=>?_,rv.append (.cons r9 .nil),q9⟩;rcases C0.mp hp with z|z
 ·have e:p=(D,dU (its++[v]) n'):=A8.mp z;subst e;refine⟨?_,pacc.2.1,pacc.2.2.1,pacc.2.2.2.1,λv z=>by cases z⟩;rw[hl'];simp[dU]
 ·obtain⟨b1,b2,b3,b4,b5⟩:=I9.pin p (D2 _ (D2 _ z));exact⟨(hs'.2 _ (hPD p z)).trans b1,b2,b3,b4,b5⟩
structure Lv(Y:Cx) (D:A9) (ce:D0) (k:Nat) (p:Pos) (tg:D0) (fs:List D0) (B:BK):Prop where
 ex:∃bd AW,xn ce k p tg fs bd/\(∀it,wk Y.prog Y.w Y.A ce k bd it (.ref D) Y.env AW)/\vC Y D AW B/\∀{Ok Ok':A2->Prop} {s:A2},AW Ok s->(∀s,Ok s->Ok' s)->AW Ok' s
theorem vj(c:ls Y D)(he:PE Y elt te)(hT:xn (lcE el gs sc ps) k p tg fs (vG (lcE el gs sc ps) k elt)):Lv Y D (lcE el gs sc ps) k p tg fs (ot te):=⟨_,_,hT,λ_=>vv,sV c he,AWt.mono_leaf⟩
theorem qO(c:ls Y D)(L:Lv Y D (lcE el gs sc ps) k p tg fs B){it2:A9}
  (hg:PG Y tg g) (hif:PIf Y fs tc) {P:List (A9×Obj)} (hPD:∀p∈P,p.1≠D)
  {its0:List A0} {nn0:Nat} {ys0:List V} {σ:St} {H:Hp} {s:A2} (I:Inv Y ([(D,dU its0 nn0)]++P) σ H s) (rv0:aB ys0 its0) {fp2:List A9} {tn2:Nat->D6->Prop} {J2:It} (T:mx Y.prog Y.w Y.K tg J2 fp2 it2 tn2) (st:tn2 0 s.heap)
  (f:∀b∈fp2,dB Y ([(D,dU its0 nn0)]++P) H b) {W2:Nat->Nat->List V->St->Hp->Prop} {Z2:List V->St->Hp->Prop} {m0:Nat} (w0:W2 0 m0 ys0 σ H) (turn:mM J2 g tc B W2 Z2) {R:Result->A2->Prop}
  (hR:∀(s':A2) (ys:List V) (its:List A0) (n:Nat) (σ':St) (H':Hp),Inv Y ([(D,dU its n)]++P) σ' H' s'->aB ys its->ys.length<=A4->Z2 ys σ' H'->R (.ok .next) s') :
  ab7 (E2 Y.prog Y.w) Y.A (.compLoop (lcE el gs sc ps) k (.ref it2) (.ref D) Y.env) R s:=by
 obtain⟨bd,AW,hT,hb,hB,hAW⟩:=L.ex;have fpc:∀{H:Hp} {n:Nat} {its:List A0},(∀b∈fp2,H b=none)->∀b∈fp2,dB Y ([(D,dU its n)]++P) H b:=λhn b hb=>by
  obtain⟨_,a1,a2,a3,a4,a5⟩:=f b hb;refine⟨hn b hb,a1,a2,a3,a4,λp hp=>?_⟩;rw[c.pn,O4]at hp;rcases C0.mp hp with z|z
  ·obtain rfl:=A8.mp z;exact a5 (D,dU its0 nn0) (by rw[c.pn];simp)
  ·exact a5 p (by rw[c.pn];simp[z])
 refine kN hT rfl (hb _) (λn s'=>∃i ys its nn σ' H',Inv Y ([(D,dU its nn)]++P) σ' H' s'/\aB ys its/\tn2 i s'.heap/\(∀b∈fp2,H' b=none)/\W2 i n ys σ' H') ?_ m0
  ⟨0,ys0,its0,nn0,σ,H,I,rv0,st,λb hb=>(f b hb).1,w0⟩
 rintro n s' ⟨i,ys,its,nn,σ',H',I4,rv,st4,fr4,w4⟩;obtain⟨hz,h⟩:=turn i n ys σ' H' w4;rcases h with⟨stop,hZ⟩|⟨go,step⟩
 ·refine thn (T.done Y rfl rfl rfl c.calm i _ s' _ H' (λ_ _=>False) I4 (fpc fr4) st4 stop) λr s4 ⟨hr,I5⟩=>?_;subst hr;exact hR s4 ys its nn σ' H' I5 rv hz hZ
 ·refine thn (T.item Y rfl rfl rfl c.calm i _ s' _ H' (λ_ _=>False) I4 (fpc fr4) st4 go) λr s5 ⟨u,hr,h5⟩=>?_;subst hr;refine thn h5 λ_ s6 ⟨x,H6,I6,r6,y6,st6,fr6⟩=>?_;have I6':=I6.pinned (fpc fr6) (T.obj _ _ st6);refine thF c.xe (hg _ s6 _ H6 x u _ I6' r6 (step x H6 y6)) λ_ s7 ⟨σ7,H7,I7,q7⟩=>?_;refine thF c.xe (hif _ s7 σ7 H7 _ I7 q7) λok s8 hup=>hup.el λH8 I8 q8=>?_;have keepfp:∀{its:List A0} {nn:Nat} {σ9:St} {H9:Hp} {s9:A2},Inv Y (([(D,dU its nn)]++P)++gk fp2 s6.heap) σ9 H9 s9->tn2 (i+1) s9.heap/\∀b∈fp2,H9 b=none:=λ{its nn σ9 H9 s9} I9 =>
   ⟨T.keep _ _ _ st6 λb hb o e=>(I9.pin (b,o) (D2 _ (D2 _ (eA hb e)))).1,λb hb=>by
    obtain⟨o,e,d⟩:=T.obj _ _ st6 b hb;exact(I9.pin (b,o) (D2 _ (D2 _ (eA hb e)))).2.1⟩
  cases ok with
  |false =>
   obtain⟨m',hm,w8⟩:=q8;obtain⟨a8,b8⟩:=keepfp I8;exact⟨m',hm,i+1,ys,its,nn,σ7,H8,I8.unpinned,rv,a8,b8,w8⟩
  |true =>
   have hPD2:∀p∈P++gk fp2 s6.heap,p.1≠D:=λp hp=>by
    rcases C0.mp hp with z|z
    ·exact hPD p z
    ·have hb:=(lj z).1;intro e;exact(f _ hb).2.2.2.2.2 (D,dU its0 nn0) (by rw[c.pn];simp) e.symm
   refine hAW (hB (P++gk fp2 s6.heap) its nn ys σ7 H8 s8 _ (by rw[<-List.append_assoc];exact I8) rv hz hPD2 q8) ?_;rintro s9 ⟨ys',its',n',σ',H',I',rv',m',hm,w'⟩;rw[<-List.append_assoc]at I';obtain⟨a9,b9⟩:=keepfp I';exact⟨m',hm,i+1,ys',its',n',σ',H',I'.unpinned,rv',a9,b9,w'⟩
end
section
variable{X:Cx}{af:List (A9×Obj)}{σ σ':St}{H2 H':Hp}{s2 s':A2}{scope:T8}{cl:List (Str×A9)}{ms:List Bool}{ay:List Str}{elt t0 i0:D0}{f0:List D0}{gs:List V6}{g0:TG}{tc0:TT}{B:BK}{p pos:Pos}
theorem lQ(S:fm X scope cl ms ay)(gX:X.calm=true)
  (hg0:∀C s H ex,PG (a6 X scope cl (X.N++ay) C s H ex) t0 g0) (hif0:∀C s H ex,PIf (a6 X scope cl (X.N++ay) C s H ex) f0 tc0)
  (hL:∀C s H ex D,ls (a6 X scope cl (X.N++ay) C s H ex) D->Lv (a6 X scope cl (X.N++ay) C s H ex) D (lcE elt (⟨t0,i0,f0,0⟩::gs) scope pos) 0 p t0 f0 B)
  (I2:Inv X af σ H2 s2) {it:A9} {fp:List A9} {tn:Nat->D6->Prop} {J:It} (T:mx X.prog X.w X.K t0 J fp it tn) (st2:tn 0 s2.heap) (fz:∀b∈fp,dB X af H2 b)
  {W:Nat->Nat->List V->St->Hp->Prop} {Z:List V->St->Hp->Prop} {m0:Nat} (w0:W 0 m0 [] (fY ms ay.length σ) H2) (turn:mM J g0 tc0 B W Z)
  {RR:A0->A9->Result->A2->Prop} {E:A0->A2->Prop}
  (hRR:∀ (s':A2) (ys:List V) (its:List A0) (n:Nat) (σ':St) (H':Hp),Inv (a6 X scope cl (X.N ++ ay) (s2.heap.objs.size + 1) s2 H2 fp) [(s2.heap.objs.size,dU its n)] σ' H' s' → aB ys its → ys.length ≤ A4 → Z ys σ' H' →
   RR (.ref s2.heap.objs.size) (s2.heap.objs.size+1) (.ok .next) s') :
  C1 (E2 X.prog X.w) X.A (newList []) (λacc s₃=>C1 (E2 X.prog X.w) X.A (newFunctionEnv scope X.env.globals cl [] X.env.qual none .none (some X.env)) (λcenv s₄ =>
   ab7 (E2 X.prog X.w) X.A (.compStart (lcE elt (⟨t0,i0,f0,0⟩::gs) scope pos) 0 (.ref it) acc { cenv with scope:=relabel scope X.env }) (RR acc cenv.locals) s₄) E s₃) E s2:=by
 refine F3 (wpAny_newFunctionEnv S.ncell (by intro y hy;simp at hy) (λh₁ hns₁ hsb₁=>?_) S.kind);dsimp only at hns₁ hsb₁ ⊢;have hsz:(s2.heap.push { cls:=.type "list",dict:=none,data:=.seq ([]:List A0).toArray }).objs.size=s2.heap.objs.size+1:=by rw[Z0]
 rw[hsz]at hns₁ hsb₁ ⊢;have hlt:∀b∈fp,b<s2.heap.objs.size:=λb hb=>by
  obtain⟨o,e,_⟩:=T.obj _ _ st2 b hb;exact B4 e
 have old:∀b o,s2.heap.get? b=some o->h₁.get? b=some o:=λb o e=>hsb₁.extBut b o (E4 (O0 (B4 e))) (A1 _ (A1 _ e));have hacc:h₁.get? s2.heap.objs.size=some (dU [] 0):=hsb₁.extBut _ _ (E4 (V4 _)) (A1 _ (C3 _ rfl));have hDn:H2 s2.heap.objs.size=none:=I2.hok.fresh (B6 _);have hDfs:∀b,s2.heap.objs.size<=b->b∉(a6 X scope cl (X.N++ay) (s2.heap.objs.size+1) s2 H2 fp).fs:=λb hb z=>by
  rcases B9.mp (I2.stkSub b z)with e|e
  ·subst e;exact absurd (B5 I2.lt hb) (P1 _)
  ·exact I2.nofs hb e
 have loop:∀s₃:A2,s₃={ s2 with heap:=h₁,toks:=s2.toks+([]:List (Str×A0)).length } ->
   ab7 (E2 X.prog X.w) X.A (.compLoop (lcE elt (⟨t0,i0,f0,0⟩::gs) scope pos) 0 (.ref it) (.ref s2.heap.objs.size) (compEnvC scope cl (s2.heap.objs.size+1) X.env)) (RR (.ref s2.heap.objs.size) (s2.heap.objs.size+1)) s₃:=by
  rintro s₃ rfl;have I3:Inv (a6 X scope cl (X.N++ay) (s2.heap.objs.size+1) s2 H2 fp) [] (fY ms ay.length σ) H2 { s2 with heap:=h₁,toks:=s2.toks+([]:List (Str×A0)).length } :=
   uu I2 S fz hlt (ac3 _) rfl I2.bare old hns₁
  have c:ls (a6 X scope cl (X.N++ay) (s2.heap.objs.size+1) s2 H2 fp) s2.heap.objs.size:=⟨rfl,gX,rfl,.inr (B6 _),λx c e=>by
   obtain⟨v,o,ho,_⟩:=I2.cell x c (S.sub x c e);exact E4 (B4 ho)⟩
  refine qO c (hL _ _ _ _ _ c) (hg0 _ _ _ _) (hif0 _ _ _ _) (P:=[]) (λp hp=>nomatch hp) (its0:=[]) (nn0:=0) (I3.pins_of λp hp=>?_) .nil T (T.keep _ _ _ st2 λb _ o e=>old b o e) (λb hb=>?_) w0 turn ?_
  ·have e:p=(s2.heap.objs.size,dU [] 0):=A8.mp hp;subst e;exact⟨hacc,hDn,E4 (V4 _),hDfs _ (B6 _),λv z=>by cases z⟩
  ·exact⟨(fz b hb).1,E4 (O0 (hlt b hb)),(rA I2 S fz hlt (ac3 _)).exfs b hb,.inl hb,λx c e=>(fz b hb).2.2.2.2.1 x c (S.sub x c e),λp hp=>by
    have:p=(s2.heap.objs.size,_):=A8.mp (show p∈[(s2.heap.objs.size,_)]from hp);subst this;exact X0 (hlt b hb)⟩
  ·exact λs' ys its n σ' H' I' rv hz hZ=>hRR s' ys its n σ' H' I' rv hz hZ
 exact codeAny_compStart_list (loop _ rfl) (T.self _ 0 _ _ _ (T.keep _ _ _ st2 λb _ o e=>old b o e) (loop _ rfl))
end
section
variable{X:Cx}{af:List (A9×Obj)}{σ σ':St}{H2 H':Hp}{s2 s':A2}{scope:T8}{cl:List (Str×A9)}{ms:List Bool}{ay:List Str}{tg iter elt:D0}{ifs:List D0}{g:TG}{tc:TT}{te:TE}{pos p:Pos}{B:BK}{gs:List V6}
theorem lA(I2:Inv X af σ H2 s2){fp:List A9}(f2:∀b∈fp,dB X af H2 b){its:List A0}{n:Nat}{ys:List V}
  (I':Inv (a6 X scope cl (X.N++ay) (s2.heap.objs.size+1) s2 H2 fp) [(s2.heap.objs.size,dU its n)] σ' H' s') (rv:aB ys its) (hz:ys.length<=A4) {h':D6} (hs:T5 (s2.heap.objs.size+1) s'.heap h') :
  Inv X af σ (upd H' s2.heap.objs.size (.lst ys)) { s' with heap:=h' }/\H' s2.heap.objs.size=none:=by
 have pacc:=I'.pin (s2.heap.objs.size,dU its n) (D2 _ J5);have hC:H' (s2.heap.objs.size+1)=none:=I'.free;have hD:H' s2.heap.objs.size=none:=pacc.2.1;have up:∀b o,b≠s2.heap.objs.size+1->s'.heap.get? b=some o->h'.get? b=some o:=λb o hb e=>(hs.2 b hb).trans e;have nD:∀b u,H' b=some u->b≠s2.heap.objs.size:=λb u e z=>by rw[z,hD]at e;cases e
 have nC:∀b u,H' b=some u->b≠s2.heap.objs.size+1:=λb u e z=>by rw[z,hC]at e;cases e
 have hacc:h'.get? s2.heap.objs.size=some (dU its n):=up _ _ (E4 (V4 _)) pacc.1;have hok:HOk X.prog X.w (upd H' s2.heap.objs.size (.lst ys)) h':=λb u e=>by
  by_cases hb:b=s2.heap.objs.size
  ·subst hb;rw[bh]at e;cases e;exact⟨hz,its,n,rv,hacc⟩
  ·rw[aO hb]at e;refine(I'.hok b u e).stay (λc v hc q=>up c v ?_ q) (λc q=>by rw[aO (nD c _ q)];exact q) λc xs q=>by rw[aO (nD c _ q)];exact q
   rcases hc with rfl|hc
   ·exact nC _ _ e
   ·exact nC _ _ hc
 have un:Un (frs X.stack) fp H2 (upd H' s2.heap.objs.size (.lst ys)) s2.heap h':=by
  have U:=I'.base;have ltD:∀b o,s2.heap.get? b=some o->b≠s2.heap.objs.size:=λb o e=>E4 (B4 e);have ltC:∀b o,s2.heap.get? b=some o->b≠s2.heap.objs.size+1:=λb o e=>E4 (O0 (B4 e));refine⟨λb o e nb hb hx=>up b o (ltC b o e) (U.keep b o e nb hb hx),λb o e nb hb hx=>?_,λb o e nb hx=>by rw[aO (ltD b o e)];exact U.free b o e nb hx,λb o e hx=>?_,
   λb xs e=>by have q:=U.tups b xs e;rw[aO (nD b _ q)];exact q,λb o u e=>by have q:=U.frzs b o u e;rw[aO (nD b _ q)];exact q,λb ps e=>?_⟩
  ·obtain⟨sl,q⟩:=U.slot b o e nb hb hx;exact⟨sl,up b _ (ltC b o e) q⟩
  ·obtain⟨o',q⟩:=U.there b o e hx;exact⟨o',up b _ (ltC b o e) q⟩
  ·obtain⟨more,q⟩:=U.tbls b ps e;exact⟨more,by rw[aO (nD b _ q)];exact q⟩
 exact⟨I2.call' (s':={ s' with heap:=h' }) (ch:=fp) I'.os un hok I'.bare λb hb=>⟨(f2 b hb).2.2.2.1,(f2 b hb).2.1,(f2 b hb).2.2.2.2.1,(f2 b hb).2.2.2.2.2⟩,hD⟩
def vZ(ms:List Bool)(k:Nat)(wi:TI)(g:TG)(tc:TT)(B:BK):TE:=λσ H Q=>wi σ H λJ H1=>∃(W:Nat->Nat->List V->St->Hp->Prop) (Z:List V->St->Hp->Prop),(∃m,W 0 m [] (fY ms k σ) H1)/\mM J g tc B W Z /\
 ∀ys σ' H p,Z ys σ' H->H p=none->Q (.ref p) (upd H p (.lst ys))
abbrev tLc(ms:List Bool)(k:Nat)(wi:TI)(g:TG)(tc:TT)(te:TE):TE:=vZ ms k wi g tc (ot te)
abbrev LvC(X:Cx)(scope:T8)(cl:List (Str×A9))(ay:List Str)(ce:D0)(p:Pos)(tg:D0)(ifs:List D0)(B:BK):Prop:=∀C s H ex D,ls (a6 X scope cl (X.N++ay) C s H ex) D->Lv (a6 X scope cl (X.N++ay) C s H ex) D ce 0 p tg ifs B
theorem wt(S:fm X scope cl ms ay)(gX:X.calm=true){wi:TI}(hi:PI X tg iter wi)
  (hg:∀C s H ex,PG (a6 X scope cl (X.N++ay) C s H ex) tg g) (hif:∀C s H ex,PIf (a6 X scope cl (X.N++ay) C s H ex) ifs tc) (hL:LvC X scope cl ay (lcE elt (⟨tg,iter,ifs,0⟩::gs) scope pos) p tg ifs B)
  (hs:∀x,N9 iter X.env x=V1 x:=by intro _;rfl):PE X (lcE elt (⟨tg,iter,ifs,0⟩::gs) scope pos) (vZ ms ay.length wi g tc B):=by
 intro af s σ H Q I h;rw[eval_ListComp];refine wpAny_comprehension_free (use:=none) rfl hs S.clos S.kind S.names (thn (hi af s σ H _ I h) λv s1 h1=>thn h1 λitv s2 h2=>?_);obtain⟨it,fp,tn,J,H2,e,I2,T,st2,f2,W,Z,⟨m0,w0⟩,turn,q⟩:=h2;subst e;refine lQ S gX hg hif hL I2 T st2 f2 w0 turn (RR:=λacc C=>compPost (E2 X.prog X.w) X.A X.xe none (EP X af σ Q) acc C) ?_;intro s' ys its n σ' H' I' rv hz hZ;obtain⟨m,hm,_⟩:=I'.loc;refine⟨m,hm,λh' hs'=>?_⟩;obtain⟨I3,hD⟩:=lA I2 f2 I' rv hz hs';exact⟨.ref s2.heap.objs.size,_,I3,rfl,q ys _ H' _ hZ hD⟩
theorem qq{i:Nat}{x:Str}{spos pos':Pos}(hN:X.N.Nodup)(hix:X.N[i]?=some x)(hx:X.env.scope.names.lookup x=some .local)
  (hsw:Z3 (lcE elt (⟨tg,iter,ifs,0⟩::gs) scope pos) (some (.Name x pos')) spos.line X.env=V1 true)
  (S:fm X scope cl ms ay) (gX:X.calm=true) {wi:TI} (hi:PI X tg iter wi)
  (hg:∀C s H ex,PG (a6 X scope cl (X.N++ay) C s H ex) tg g) (hif:∀C s H ex,PIf (a6 X scope cl (X.N++ay) C s H ex) ifs tc) (hL:LvC X scope cl ay (lcE elt (⟨tg,iter,ifs,0⟩::gs) scope pos) p tg ifs B)
  (hs:∀x,N9 iter X.env x=V1 x:=by intro _;rfl):PS X (.Assign [.Name x pos'] (lcE elt (⟨tg,iter,ifs,0⟩::gs) scope pos) spos) (wA (vZ ms ay.length wi g tc B) (nc i)):=by
 intro af s σ H D I h;rw[exec_Assign_Name_used _ _ _ _ hsw];refine o0 (V7 (o0 ?_));show C1 _ _ (do let _ <-comprehension (lcE elt (⟨tg,iter,ifs,0⟩::gs) scope pos) scope X.env _ (newList []) false (S7 iter X.env) (some (Z4 (.Name x pos') X.env))) _ _ s;refine o0 (I0 (wpAny_comprehension_free (use:=some (Z4 (.Name x pos') X.env)) (Q:=λ_ s'=>SP X af D .next s') rfl hs S.clos S.kind S.names
  (thn (hi af s σ H _ I h) λv s1 h1=>thn h1 λitv s2 h2=>?_)) (λ_ s' hq=>A3 (A3 hq)) λ_ _ e=>e)
 obtain⟨it,fp,tn,J,H2,e,I2,T,st2,f2,W,Z,⟨m0,w0⟩,turn,q⟩:=h2;subst e;refine lQ S gX hg hif hL I2 T st2 f2 w0 turn (RR:=λacc C=>compPost (E2 X.prog X.w) X.A X.xe (some (Z4 (.Name x pos') X.env)) (λ_ s'=>SP X af D .next s') acc C) ?_;intro s' ys its n σ' H' I' rv hz hZ;obtain⟨m,hm,_⟩:=I'.loc;obtain⟨I3,hD⟩:=lA I2 f2 I' rv hz (T5.refl (s2.heap.objs.size+1) s'.heap);have hq:=q ys _ H' _ hZ hD;show C1 _ _ (Z4 (.Name x pos') X.env (.ref s2.heap.objs.size)) _ _ _;refine wpAny_assign_Name (lE I3 hN hix (.inl hx) (v:=.ref s2.heap.objs.size) rfl (λs4 I4 hsame=>?_) (.inr hx));obtain⟨a,hsb,ha⟩:=hsame;have hLC:s2.heap.objs.size+1≠X.env.locals:=X0 (O0 I2.lt);have haC:s2.heap.objs.size+1≠a:=by
  rcases ha with rfl|ha
  ·exact hLC
  ·intro z;obtain⟨v,o,ho,_⟩:=I2.cell x a ha;exact absurd (O0 (B4 ho)) (by rw[<-z];exact P1 _)
 have hCn:upd H' s2.heap.objs.size (.lst ys) (s2.heap.objs.size+1)=none:=by rw[aO (X0 (V4 _))];exact I'.free
 refine⟨m,hm.sameBut hsb haC,λh' hs'=>?_⟩;refine⟨_,_,?_,hq⟩;have hL:∀b o,b≠s2.heap.objs.size+1->s4.heap.get? b=some o->h'.get? b=some o:=λb o hb e=>(hs'.2 b hb).trans e;have I5:=Inv.turned (t':=s4.toks) (h':=h') (it:=s2.heap.objs.size+1) I4 (λb o hb e=>hL b o hb e) hCn hLC (.inr (Nat.le_succ_of_le I2.sz)) (λy c e=>by
  obtain⟨v,o,ho,_⟩:=I2.cell y c e;exact E4 (O0 (B4 ho))) (λp hp=>by
  exact E4 (O0 (B4 (I2.pin p hp).1)))
 exact I5
theorem tT(he:∀C s H ex,PE (a6 X scope cl (X.N++ay) C s H ex) elt te):LvC X scope cl ay (lcE elt [⟨tg,iter,ifs,0⟩] scope pos) iter.pos tg ifs (ot te):=λ_ _ _ _ _ c=>vj c (he _ _ _ _) λ_ _ _=>rfl
end
inductive Bx where
 |dk (ks:List Key)|dt (ks:List (List Key))|ins (C:A9) (fs:List Str)|key
 deriving Inhabited
inductive D where
 |non|bl (b:Bool)|int (i:Int)|str (x:Str)|tup (ds:List D)|lst (ds:List D)|scr (ds:List D)|emp|ref (a:A9)|box (t:Bx) (ds:List D)
 deriving Inhabited
inductive HD where
 |lst (ds:List D)|dK (kvs:List (Key×D))|dT (kvs:List (List Key×D))|dKr (o:Obj) (ks:List (Key×V)) (kvs:List (Key×D))|ins (C:A9) (fs:List (Str×D))
 |ext (φ:List V->D6->Prop) (ds:List D)
 deriving Inhabited
abbrev DH:=A9->Option HD
def bt(M:DH)(a:A9)(o:HD):DH:=λb=>if b=a then some o else M b
def jr(M:DH)(a:A9):DH:=λb=>if b=a then none else M b
abbrev noM:DH:=λ_=>none
theorem fO{M:DH}{a:A9}{o:HD}:bt M a o a=some o:=if_pos rfl
theorem jg{M:DH}{a b:A9}{o:HD}(h:b≠a):bt M a o b=M b:=if_neg h
theorem sD{M:DH}{a:A9}{o u:HD}:bt (bt M a o) a u=bt M a u:=by
 funext b;unfold bt;split<;>rfl
theorem lU{M:DH}{a:A9}:jr M a a=none:=if_pos rfl
theorem gY{M:DH}{a:A9}{o:HD}(h:M a=none):jr (bt M a o) a=M:=by
 funext b;unfold jr bt;split
 ·rename_i e;rw[e,h]
 ·rfl
def ly(K:u8)(M:DH)(H:Hp)(a:A9)(vs:List V):Prop:=(Rd H a (.tup vs)/\M a=none)∨SqT K (λ_=>none) a vs
def pB(M:DH)(H:Hp)(a:A9)(vs:List V):Prop:=H a=some (.lst vs)/\M a=none
def k7(K:u8)(M:DH)(H:Hp)(a:A9)(vs:List V):Prop:=((∃o,H a=some (.frz o (.lst vs)))/\M a=none)∨SqL K (λ_=>none) a vs
def zc(M:DH)(H:Hp)(a:A9):Prop:=H a=some (.dK [])/\M a=none
def qb(M:DH)(H:Hp)(a:A9):Bx->List V->Prop
 |.dk ks,vs=>ks.length=vs.length/\(∃o,H a=some (.frz o (.dK (ks.zip vs))))/\M a=none
 |.dt ks,vs=>ks.length=vs.length/\(∃o,H a=some (.frz o (.dT (ks.zip vs))))/\M a=none
 |.ins C fs,vs=>fs.length=vs.length/\(∃dx,H a=some (.ins C dx (fs.zip vs)))/\M a=none
 |.key,vs=>True/\(∃_u:Unit,H a=some (.tup vs))/\M a=none
mutual
def Rep(K:u8)(M:DH)(H:Hp):D->V->Prop
 |.non,v=>v=.non
 |.bl b,v=>v=.bl b
 |.int i,v=>v=.int i
 |.str x,v=>v=.str x
 |.tup ds,v=>∃a vs,v=.ref a/\ly K M H a vs/\aq K M H ds vs
 |.lst ds,v=>∃a vs,v=.ref a/\pB M H a vs/\aq K M H ds vs
 |.scr ds,v=>∃a vs,v=.ref a/\k7 K M H a vs/\aq K M H ds vs
 |.emp,v=>∃a,v=.ref a/\zc M H a
 |.ref a,v=>v=.ref a
 |.box t ds,v=>∃a vs,v=.ref a/\qb M H a t vs/\aq K M H ds vs
def aq(K:u8)(M:DH)(H:Hp):List D->List V->Prop
 |[],vs=>vs=[]
 |d::ds,vs=>∃v ws,vs=v::ws/\Rep K M H d v/\aq K M H ds ws
end
def Ext(M:DH)(H:Hp)(M':DH)(H':Hp):Prop:=∀a o,H a=some o->M a=none->H' a=some o/\M' a=none
theorem Ext.refl(M:DH)(H:Hp):Ext M H M H:=λ_ _ h n=>⟨h,n⟩
theorem Ext.trans{M M1 M2:DH}{H H1 H2:Hp}(a:Ext M H M1 H1)(b:Ext M1 H1 M2 H2):Ext M H M2 H2:=λc o h n=>b c o (a c o h n).1 (a c o h n).2
variable{K:u8}{M M' M1 M2:DH}{H H' H1 H2:Hp}
theorem ly.ext{a:A9}{vs:List V}(h:ly K M H a vs)(e:Ext M H M' H'):ly K M' H' a vs:=by
 rcases h with⟨r|⟨o,r⟩,n⟩|h
 ·exact .inl ⟨.inl (e a _ r n).1,(e a _ r n).2⟩
 ·exact .inl ⟨.inr ⟨o,(e a _ r n).1⟩,(e a _ r n).2⟩
 ·exact .inr h
theorem pB.ext{a:A9}{vs:List V}(h:pB M H a vs)(e:Ext M H M' H'):pB M' H' a vs:=e a _ h.1 h.2
theorem k7.ext{a:A9}{vs:List V}(h:k7 K M H a vs)(e:Ext M H M' H'):k7 K M' H' a vs:=by
 rcases h with⟨⟨o,r⟩,n⟩|h
 ·exact .inl ⟨⟨o,(e a _ r n).1⟩,(e a _ r n).2⟩
 ·exact .inr h
theorem qb.ext{a:A9}{t:Bx}{vs:List V}(h:qb M H a t vs)(e:Ext M H M' H'):qb M' H' a t vs:=by
 cases t<;>(obtain⟨l,⟨o,r⟩,n⟩:=h;exact⟨l,⟨o,(e a _ r n).1⟩,(e a _ r n).2⟩)
mutual
theorem Rep.ext:∀{d:D}{v:V},Rep K M H d v->Ext M H M' H'->Rep K M' H' d v
 |.non,_,h,_=>h
 |.bl _,_,h,_=>h
 |.int _,_,h,_=>h
 |.str _,_,h,_=>h
 |.ref _,_,h,_=>h
 |.emp,_,h,e=>by
  simp only[Rep]at h ⊢;obtain⟨a,rfl,h1,h2⟩:=h;exact⟨a,rfl,e a _ h1 h2⟩
 |.tup ds,_,h,e=>by
  simp only[Rep]at h ⊢;obtain⟨a,vs,rfl,h1,h2⟩:=h;exact⟨a,vs,rfl,h1.ext e,aq.ext h2 e⟩
 |.lst ds,_,h,e=>by
  simp only[Rep]at h ⊢;obtain⟨a,vs,rfl,h1,h2⟩:=h;exact⟨a,vs,rfl,h1.ext e,aq.ext h2 e⟩
 |.scr ds,_,h,e=>by
  simp only[Rep]at h ⊢;obtain⟨a,vs,rfl,h1,h2⟩:=h;exact⟨a,vs,rfl,h1.ext e,aq.ext h2 e⟩
 |.box t ds,_,h,e=>by
  simp only[Rep]at h ⊢;obtain⟨a,vs,rfl,h1,h2⟩:=h;exact⟨a,vs,rfl,h1.ext e,aq.ext h2 e⟩
theorem aq.ext:∀{ds:List D}{vs:List V},aq K M H ds vs->Ext M H M' H'->aq K M' H' ds vs
 |[],_,h,_=>h
 |d::ds,_,h,e=>by
  simp only[aq]at h ⊢;obtain⟨v,ws,rfl,h1,h2⟩:=h;exact⟨v,ws,rfl,Rep.ext h1 e,aq.ext h2 e⟩
end
theorem aq.length:∀{ds:List D}{vs:List V},aq K M H ds vs->ds.length=vs.length
 |[],_,h=>by simp only[aq]at h;subst h;rfl
 |d::ds,_,h=>by
  simp only[aq]at h;obtain⟨v,ws,rfl,h1,h2⟩:=h;simp[aq.length h2]
theorem aq.nil:aq K M H [] []:=by simp[aq]
theorem aq.cons{d:D}{v:V}{ds:List D}{vs:List V}(h:Rep K M H d v)(t:aq K M H ds vs):aq K M H (d::ds) (v::vs):=by
 simp only[aq];exact⟨v,vs,rfl,h,t⟩
theorem aq.append:∀{ds es:List D}{vs ws:List V},aq K M H ds vs->aq K M H es ws->aq K M H (ds++es) (vs++ws)
 |[],_,_,_,h,t=>by simp only[aq]at h;subst h;exact t
 |d::ds,es,_,ws,h,t=>by
  simp only[aq]at h;obtain⟨v,us,rfl,h1,h2⟩:=h;exact aq.cons h1 (aq.append h2 t)
theorem aq.get:∀{ds:List D}{vs:List V}{i:Nat}{d:D},aq K M H ds vs->ds[i]?=some d->∃v,vs[i]?=some v/\Rep K M H d v
 |[],_,_,_,_,e=>by simp at e
 |d::ds,_,0,x,h,e=>by
  simp only[aq]at h;obtain⟨v,us,rfl,h1,h2⟩:=h;simp at e;subst e;exact⟨v,rfl,h1⟩
 |d::ds,_,i+1,x,h,e=>by
  simp only[aq]at h;obtain⟨v,us,rfl,h1,h2⟩:=h;obtain⟨w,a,b⟩:=aq.get (i:=i) (d:=x) h2 (by simpa using e);exact⟨w,by simpa using a,b⟩
theorem aq.take:∀{ds:List D}{vs:List V}(n:Nat),aq K M H ds vs->aq K M H (ds.take n) (vs.take n)
 |ds,vs,0,_=>by simp[aq]
 |[],_,n+1,h=>by simp only[aq]at h;subst h;simp[aq]
 |d::ds,_,n+1,h=>by
  simp only[aq]at h;obtain⟨v,us,rfl,h1,h2⟩:=h;exact aq.cons h1 (aq.take n h2)
theorem aq.drop:∀{ds:List D}{vs:List V}(n:Nat),aq K M H ds vs->aq K M H (ds.drop n) (vs.drop n)
 |ds,vs,0,h=>h
 |[],_,n+1,h=>by simp only[aq]at h;subst h;simp[aq]
 |d::ds,_,n+1,h=>by
  simp only[aq]at h;obtain⟨v,us,rfl,h1,h2⟩:=h;exact aq.drop n h2
theorem aq.set:∀{ds:List D}{vs:List V}{d:D}{v:V}(n:Nat),aq K M H ds vs->Rep K M H d v->aq K M H (ds.set n d) (vs.set n v)
 |[],_,_,_,n,h,r=>by simp only[aq]at h;subst h;simp[aq]
 |d::ds,_,_,_,0,h,r=>by
  simp only[aq]at h;obtain⟨v,us,rfl,h1,h2⟩:=h;exact aq.cons r h2
 |d::ds,_,_,_,n+1,h,r=>by
  simp only[aq]at h;obtain⟨v,us,rfl,h1,h2⟩:=h;exact aq.cons h1 (aq.set n h2 r)
theorem aq.one{d:D}{vs:List V}(h:aq K M H [d] vs):∃v,vs=[v]/\Rep K M H d v:=by
 simp only[aq]at h;obtain⟨v,us,rfl,h1,rfl⟩:=h;exact⟨v,rfl,h1⟩
theorem aq.two{d e:D}{vs:List V}(h:aq K M H [d,e] vs):∃v w,vs=[v,w]/\Rep K M H d v/\Rep K M H e w:=by
 simp only[aq]at h;obtain⟨v,us,rfl,h1,w,ws,rfl,h2,rfl⟩:=h;exact⟨v,w,rfl,h1,h2⟩
def KR(K:u8)(M:DH)(H:Hp){κ:Type}:List (κ×D)->List (κ×V)->Prop:=R0 λp q=>p.1=q.1/\Rep K M H p.2 q.2
theorem KR.ext{κ:Type}{kvs:List (κ×D)}{ks:List (κ×V)}(h:KR K M H kvs ks)(e:Ext M H M' H'):KR K M' H' kvs ks:=R0.imp' (λ_ _ r=>⟨r.1,r.2.ext e⟩) h
def jS(K:u8)(M:DH)(H:Hp)(a:A9):HD->Prop
 |.lst ds=>∃vs,H a=some (.lst vs)/\aq K M H ds vs
 |.dK kvs=>∃ks,H a=some (.dK ks)/\KR K M H kvs ks
 |.dT kvs=>∃ks,H a=some (.dT ks)/\KR K M H kvs ks
 |.dKr o ks kvs=>∃_u:Unit,H a=some (.frz o (.dK ks))/\KR K M H kvs ks
 |.ins C fs=>∃gs,(∃dx,H a=some (.ins C dx gs))/\KR K M H fs gs
 |.ext φ ds=>∃vs,H a=some (.ext (φ vs))/\aq K M H ds vs
def HR(K:u8)(M:DH)(H:Hp):Prop:=∀a o,M a=some o->jS K M H a o
theorem jS.some{a:A9}{o:HD}(h:jS K M H a o):∃u,H a=L8 u/\∀xs,u≠.tup xs/\∀ob,u≠.frz ob (.tup xs):=by
 cases o with
 |ins C fs=>obtain⟨gs,⟨dx,r⟩,_⟩:=h;exact⟨_,r,λxs=>⟨(by intro z;cases z),(by intro ob z;cases z)⟩⟩
 |_=>obtain⟨vs,r,_⟩:=h;exact⟨_,r,λxs=>⟨(by intro z;cases z),(by intro ob z;cases z)⟩⟩
theorem jS.keep{a:A9}{o:HD}(h:jS K M H a o)(e:Ext M H M' H')(q:H' a=H a):jS K M' H' a o:=by
 cases o with
 |ins C fs=>obtain⟨gs,⟨dx,r⟩,t⟩:=h;exact⟨gs,⟨dx,by rw[q];exact r⟩,t.ext e⟩
 |_=>obtain⟨vs,r,t⟩:=h;exact⟨vs,by rw[q];exact r,t.ext e⟩
theorem HR.fresh(h:HR K M H){p:A9}(e:H p=none):M p=none:=by
 cases q:M p with
 |none=>rfl
 |some o =>
  obtain⟨u,r,_⟩:=(h p _ q).some;rw[e]at r;cases r
theorem HR.nil:HR K noM H:=λ_ _ h=>nomatch h
theorem Ext.new{p:A9}{o:HO}(hr:HR K M H)(h:H p=none):Ext M H M (upd H p o):=λa u e n=>by
 have:a≠p:=bN e h;rw[aO this];exact⟨e,n⟩
theorem HR.ext1(h:HR K M H)(e:Ext M H M H')(keep:∀a o,M a=some o->H' a=H a):HR K M H':=λa o q=>(h a o q).keep e (keep a o q)
theorem HR.new{p:A9}{o:HO}(hr:HR K M H)(h:H p=none):HR K M (upd H p o):=hr.ext1 (Ext.new hr h) λa u q=>by
 have:a≠p:=λz=>by rw[z,hr.fresh h]at q;cases q
 rw[aO this]
theorem Ext.own{p:A9}{o:HO}{u:HD}(h:H p=none):Ext M H (bt M p u) (upd H p o):=λa x e n=>by
 have:a≠p:=bN e h;rw[aO this,jg this];exact⟨e,n⟩
theorem HR.put{p:A9}{o:HO}{u:HD}(hr:HR K M H)(e:Ext M H (bt M p u) (upd H p o))(c:jS K (bt M p u) (upd H p o) p u):HR K (bt M p u) (upd H p o):=λa w q=>by
 by_cases z:a=p
 ·subst z;rw[fO]at q;cases q;exact c
 ·rw[jg z]at q;exact(hr a w q).keep e (aO z)
theorem HR.own{p:A9}{ds:List D}{vs:List V}(hr:HR K M H)(h:H p=none)(r:aq K M H ds vs):HR K (bt M p (.lst ds)) (upd H p (.lst vs)) :=
 hr.put (Ext.own h) ⟨vs,bh,r.ext (Ext.own h)⟩
theorem Ext.write{a:A9}{o:HO}{u w:HD}(h:M a=some w):Ext M H (bt M a u) (upd H a o):=λb x e n=>by
 have:b≠a:=λz=>by rw[z,h]at n;cases n
 rw[aO this,jg this];exact⟨e,n⟩
theorem HR.write{a:A9}{w:HD}{ds:List D}{vs:List V}(hr:HR K M H)(h:M a=some w)(r:aq K M H ds vs):HR K (bt M a (.lst ds)) (upd H a (.lst vs)) :=
 hr.put (Ext.write h) ⟨vs,bh,r.ext (Ext.write h)⟩
def LeM(M1 M:DH):Prop:=∀a o,M1 a=some o->M a=some o
theorem LeM.none(h:LeM M1 M){a:A9}(n:M a=none):M1 a=none:=by
 cases q:M1 a with
 |none=>rfl
 |some o=>rw[h a o q]at n;cases n
theorem LeM.refl:LeM M M:=λ_ _ h=>h
theorem LeM.no:LeM noM M:=λ_ _ h=>nomatch h
theorem LeM.del{a:A9}:LeM (jr M a) M:=λb o h=>by
 unfold jr at h;split at h
 ·cases h
 ·exact h
theorem Ext.le(h:LeM M1 M):Ext M H M1 H:=λa o e n=>⟨e,h.none n⟩
theorem HR.le(hr:HR K M H)(h:LeM M1 M):HR K M1 H:=λa o q=>(hr a o (h a o q)).keep (Ext.le h) rfl
theorem Rep.froze(hr:HR K M H)(h:LeM M1 M){a:A9}{ds:List D}(e:M a=some (.lst ds))(n:M1 a=none):Rep K M1 H (.lst ds) (.ref a):=by
 obtain⟨vs,r,t⟩:=hr a _ e;simp only[Rep];exact⟨a,vs,rfl,⟨r,n⟩,t.ext (Ext.le h)⟩
mutual
def noL:D->Bool
 |.tup ds=>vb ds
 |.lst _=>false
 |.scr _=>false
 |.emp=>false
 |.box _ _=>false
 |_=>true
def vb:List D->Bool
 |[]=>true
 |d::ds=>noL d&&vb ds
end
mutual
theorem Rep.hard:∀{d:D}{v:V},noL d=true->Rep K M H d v->(∀a xs,Rd H a (.tup xs)->M' a=none)->Rep K M' H d v
 |.non,_,_,h,_=>h
 |.bl _,_,_,h,_=>h
 |.int _,_,_,h,_=>h
 |.str _,_,_,h,_=>h
 |.ref _,_,_,h,_=>h
 |.emp,_,n,_,_=>by simp[noL]at n
 |.box _ _,_,n,_,_=>by simp[noL]at n
 |.lst _,_,n,_,_=>by simp[noL]at n
 |.scr _,_,n,_,_=>by simp[noL]at n
 |.tup ds,_,n,h,e=>by
  simp only[Rep]at h ⊢;obtain⟨a,vs,rfl,h1,h2⟩:=h;refine⟨a,vs,rfl,?_,aq.hard (by simpa[noL]using n) h2 e⟩;rcases h1 with⟨r,_⟩|r
  ·exact .inl ⟨r,e a vs r⟩
  ·exact .inr r
theorem aq.hard:∀{ds:List D}{vs:List V},vb ds=true->aq K M H ds vs->(∀a xs,Rd H a (.tup xs)->M' a=none)->aq K M' H ds vs
 |[],_,_,h,_=>h
 |d::ds,_,n,h,e=>by
  simp only[aq]at h ⊢;obtain⟨v,ws,rfl,h1,h2⟩:=h;simp only[vb,B8]at n;exact⟨v,ws,rfl,Rep.hard n.1 h1 e,aq.hard n.2 h2 e⟩
end
abbrev DE:=List (Option D)
def SR(K:u8)(M:DH)(H:Hp)(σ:St)(Δ:DE):Prop:=σ.length=Δ.length/\∀(i:Nat) (d:D),Δ[i]?=some (some d)->∃v,σ[i]?=some (some v)/\Rep K M H d v
theorem SR.ext{σ:St}{Δ:DE}(h:SR K M H σ Δ)(e:Ext M H M' H'):SR K M' H' σ Δ:=⟨h.1,λi d q=>let⟨v,a,r⟩:=h.2 i d q;⟨v,a,r.ext e⟩⟩
theorem SR.set{σ:St}{Δ:DE}{d:D}{v:V}(h:SR K M H σ Δ)(i:Nat)(r:Rep K M H d v):SR K M H (σ.set i (some v)) (Δ.set i (some d)):=by
 refine⟨by simp[h.1],λj e q=>?_⟩
 by_cases hj:j=i
 ·subst hj
  by_cases hl:j<Δ.length
  ·rw[O6 hl]at q;cases q;exact⟨v,O6 (by rw[h.1];exact hl),r⟩
  ·rw[List.getElem?_eq_none (by simp;lia)]at q;cases q
 ·rw[T1 (S3 hj)]at q ⊢;exact h.2 j e q
abbrev TEd:=DE->DH->(D->DH->Prop)->Prop
abbrev TAd:=DE->DH->(List D->DH->Prop)->Prop
abbrev TTd:=DE->DH->(Bool->DH->Prop)->Prop
structure cV where
 nx:DE->DH->Prop
 rt:D->DH->Prop
 bk:DE->DH->Prop:=λ_ _=>False
 ct:DE->DH->Prop:=λ_ _=>False
abbrev TSd:=cV->DE->DH->Prop
def up(K:u8)(t:TEd):TE:=λσ H Q=>∃(Δ:DE) (M:DH) (R:D->DH->Prop),SR K M H σ Δ/\HR K M H/\t Δ M R /\
 ∀d M' v H',R d M'->Ext M H M' H'->HR K M' H'->Rep K M' H' d v->Q v H'
def upA(K:u8)(t:TAd):TA:=λσ H Q=>∃(Δ:DE) (M:DH) (R:List D->DH->Prop),SR K M H σ Δ/\HR K M H/\t Δ M R /\
 ∀ds M' vs H',R ds M'->Ext M H M' H'->HR K M' H'->aq K M' H' ds vs->Q vs H'
def upT(K:u8)(t:TTd):TT:=λσ H Q=>∃(Δ:DE) (M:DH) (R:Bool->DH->Prop),SR K M H σ Δ/\HR K M H/\t Δ M R /\
 ∀b M' H',R b M'->Ext M H M' H'->HR K M' H'->Q b H'
theorem upT.el{K:u8}{t:TTd}{σ:St}{H:Hp}{Q:Bool->Hp->Prop}{P:Prop}(h:upT K t σ H Q)(f:∀(Δ:DE) (M:DH) (R:Bool->DH->Prop),SR K M H σ Δ->HR K M H->t Δ M R->(∀b M' H',R b M'->Ext M H M' H'->HR K M' H'->Q b H')->P):P:=by
 obtain⟨x1,x2,x3,a,b,c,d⟩:=h;exact f x1 x2 x3 a b c d
theorem up.el{K:u8}{t:TEd}{σ:St}{H:Hp}{Q:VK}{P:Prop}(h:up K t σ H Q)(f:∀(Δ:DE) (M:DH) (R:D->DH->Prop),SR K M H σ Δ->HR K M H->t Δ M R->(∀d M' v H',R d M'->Ext M H M' H'->HR K M' H'->Rep K M' H' d v->Q v H')->P):P:=by
 obtain⟨x1,x2,x3,a,b,c,d⟩:=h;exact f x1 x2 x3 a b c d
theorem upA.el{K:u8}{t:TAd}{σ:St}{H:Hp}{Q:List V->Hp->Prop}{P:Prop}(h:upA K t σ H Q)(f:∀(Δ:DE) (M:DH) (R:List D->DH->Prop),SR K M H σ Δ->HR K M H->t Δ M R->(∀ds M' vs H',R ds M'->Ext M H M' H'->HR K M' H'->aq K M' H' ds vs->Q vs H')->P):P:=by
 obtain⟨x1,x2,x3,a,b,c,d⟩:=h;exact f x1 x2 x3 a b c d
structure UpE(K:u8) (E:cV) (D:nZ) (M:DH) (H:Hp):Prop where
 nx:∀ Δ' M' σ' H',E.nx Δ' M'->Ext M H M' H'->HR K M' H'->SR K M' H' σ' Δ'->D.nx σ' H'
 bk:∀ Δ' M' σ' H',E.bk Δ' M'->Ext M H M' H'->HR K M' H'->SR K M' H' σ' Δ'->D.bk σ' H'
 ct:∀ Δ' M' σ' H',E.ct Δ' M'->Ext M H M' H'->HR K M' H'->SR K M' H' σ' Δ'->D.ct σ' H'
 rt:∀d M' v H',E.rt d M'->Ext M H M' H'->HR K M' H'->Rep K M' H' d v->D.rt v H'
theorem UpE.ext{E:cV}{D:nZ}(u:UpE K E D M H)(e:Ext M H M' H'):UpE K E D M' H' :=
 ⟨λa b c d h x=>u.nx a b c d h (e.trans x),λa b c d h x=>u.bk a b c d h (e.trans x),λa b c d h x=>u.ct a b c d h (e.trans x),λa b c d h x=>u.rt a b c d h (e.trans x)⟩
def upS(K:u8)(t:TSd):TS:=λD σ H=>∃(Δ:DE) (M:DH) (E:cV),SR K M H σ Δ/\HR K M H/\t E Δ M/\UpE K E D M H
theorem upS.el{K:u8}{t:TSd}{E:nZ}{σ:St}{H:Hp}{P:Prop}(h:upS K t E σ H)(f:∀(Δ:DE) (M:DH) (R:cV),SR K M H σ Δ->HR K M H->t R Δ M->UpE K R E M H->P):P:=by
 obtain⟨x1,x2,x3,a,b,c,d⟩:=h;exact f x1 x2 x3 a b c d
def PEd(X:Cx)(e:D0)(t:TEd):Prop:=PE X e (up X.K t)
def PAd(X:Cx)(es:List D0)(t:TAd):Prop:=PA X es (upA X.K t)
def PTd(X:Cx)(e:D0)(t:TTd):Prop:=PT X e (upT X.K t)
def PWd(X:Cx)(e:D0)(t:TTd):Prop:=PW X e (upT X.K t)
def PSd(X:Cx)(st:N5)(t:TSd):Prop:=PS X st (upS X.K t)
def vn(X:Cx)(st:List N5)(t:TSd):Prop:=PSs X st (upS X.K t)
theorem PE.conv{X:Cx}{e:D0}{t t':TE}(h:PE X e t)(k:∀ σ H Q,t' σ H Q->t σ H Q):PE X e t':=λp s σ H Q I q=>h p s σ H Q I (k σ H Q q)
theorem PT.conv{X:Cx}{e:D0}{t t':TT}(h:PT X e t)(k:∀ σ H Q,t' σ H Q->t σ H Q):PT X e t':=λp s σ H Q I q=>h p s σ H Q I (k σ H Q q)
theorem PA.conv{X:Cx}{e:List D0}{t t':TA}(h:PA X e t)(k:∀ σ H Q,t' σ H Q->t σ H Q):PA X e t':=λps p s σ H Q I q=>h ps p s σ H Q I (k σ H Q q)
theorem PS.conv{X:Cx}{e:N5}{t t':TS}(h:PS X e t)(k:∀D σ H,t' D σ H->t D σ H):PS X e t':=λp s σ H D I q=>h p s σ H D I (k D σ H q)
theorem PSs.conv{X:Cx}{e:List N5}{t t':TS}(h:PSs X e t)(k:∀D σ H,t' D σ H->t D σ H):PSs X e t':=λp s σ H D I q=>h p s σ H D I (k D σ H q)
section
variable{X:Cx}{a b c:D0}{es:List D0}{ta tb:TEd}{pos:Pos}
def mO(i:Nat):TEd:=λΔ M Q=>∃d,Δ[i]?=some (some d)/\Q d M
def dC(d:D):TEd:=λ_ M Q=>Q d M
theorem vm{x:Str}{i:Int}{t:Tok}{pos:Pos}(hg:Gl X x)(hm:X.mg x=some (.int i t))(hd:(x==("__debug__":Str))=false:=by decide):PEd X (.Name x pos) (dC (.int i)) :=
 (qj (v:=.int i) hg hm ⟨t,rfl⟩ hd).conv λσ H Q hup=>hup.el λΔ M R sr hr q k=>k _ M _ H q (Ext.refl _ _) hr (by simp[Rep])
theorem tZ{x y:Str}{t:Tok}{pos:Pos}(hg:Gl X x)(hm:X.mg x=some (.str y t))(hd:(x==("__debug__":Str))=false:=by decide):PEd X (.Name x pos) (dC (.str y)) :=
 (qj (v:=.str y) hg hm ⟨t,rfl⟩ hd).conv λσ H Q hup=>hup.el λΔ M R sr hr q k=>k _ M _ H q (Ext.refl _ _) hr (by simp[Rep])
def yS:TAd:=λ_ M Q=>Q [] M
def vN(ta:TEd)(tr:TAd):TAd:=λΔ M Q=>ta Δ M λx M1=>tr Δ M1 λxs M2=>Q (x::xs) M2
def zJ(t:TAd):TEd:=λΔ M Q=>t Δ M λds M1=>ds.length<=A4/\Q (.tup ds) M1
def yt(t:TAd):TEd:=λΔ M Q=>t Δ M λds M1=>ds.length<=A4/\Q (.lst ds) M1
def vK(t:TAd):TEd:=λΔ M Q=>t Δ M λds M1=>ds.length<=A4/\∀p,M1 p=none->Q (.ref p) (bt M1 p (.lst ds))
def rdM(M:DH):D->D
 |.ref a=>match M a with|some (.lst ds)=>.lst ds|_=>.ref a
 |d=>d
def aN(K:u8)(M:DH)(H:Hp)(d:D)(v:V):Prop:=match d with
 |.tup ds=>∃a vs,v=.ref a/\SqT K H a vs/\aq K M H ds vs
 |.lst ds=>∃a vs,v=.ref a/\H a=some (.lst vs)/\aq K M H ds vs
 |.scr ds=>∃a vs,v=.ref a/\SqL K H a vs/\aq K M H ds vs
 |d=>Rep K M H d v
theorem ly.sq{K:u8}{M:DH}{H:Hp}{a:A9}{vs:List V}(h:ly K M H a vs):SqT K H a vs:=by
 rcases h with⟨h,_⟩|h
 ·exact .inl h
 ·rcases h with(h|⟨_,h⟩)|h
  ·cases h
  ·cases h
  ·exact .inr h
theorem k7.sq{K:u8}{M:DH}{H:Hp}{a:A9}{vs:List V}(h:k7 K M H a vs):SqL K H a vs:=by
 rcases h with⟨⟨o,h⟩,_⟩|h
 ·exact .inl (.inr ⟨o,h⟩)
 ·rcases h with(h|⟨_,h⟩)|h
  ·cases h
  ·cases h
  ·exact .inr h
theorem Rep.rd{K:u8}{M:DH}{H:Hp}{d:D}{v:V}(hr:HR K M H)(h:Rep K M H d v):aN K M H (rdM M d) v:=by
 cases d with
 |tup ds=>simp only[Rep]at h;obtain⟨a,vs,e,t,r⟩:=h;exact⟨a,vs,e,t.sq,r⟩
 |lst ds=>simp only[Rep]at h;obtain⟨a,vs,e,t,r⟩:=h;exact⟨a,vs,e,t.1,r⟩
 |scr ds=>simp only[Rep]at h;obtain⟨a,vs,e,t,r⟩:=h;exact⟨a,vs,e,t.sq,r⟩
 |ref a =>
  simp only[rdM];cases q:M a with
  |none=>exact h
  |some o =>
   cases o with
   |lst ds =>
    obtain⟨vs,e,r⟩:=hr a _ q;simp only[Rep]at h;exact⟨a,vs,h,e,r⟩
   |dK _=>exact h
   |dT _=>exact h
   |dKr _ _ _=>exact h
   |ins _ _=>exact h
   |ext _ _=>exact h
 |non=>exact h
 |bl b=>exact h
 |int i=>exact h
 |str x=>exact h
 |emp=>exact h
 |box _ _=>exact h
def br(X:Cx)(f:A0->A0->Sem A0)(r:D->D->Option D):Prop :=
 ∀(af:List (A9×Obj)) (s:A2) (σ:St) (H:Hp) (M:DH) (x y:V) (v u:A0) (dx dy dz:D) (Q:VK),Inv X af σ H s->HR X.K M H->aL x v->aL y u->aN X.K M H dx x->aN X.K M H dy y->r dx dy=some dz ->
  (∀w H',Ext M H M H'->HR X.K M H'->Rep X.K M H' dz w->Q w H')->C1 (E2 X.prog X.w) X.A (f v u) (EP X af σ Q) X.xe s
def zd(X:Cx)(f:A0->Sem A0)(r:D->Option D):Prop :=
 ∀(af:List (A9×Obj)) (s:A2) (σ:St) (H:Hp) (M:DH) (x:V) (v:A0) (dx dz:D) (Q:VK),Inv X af σ H s->HR X.K M H->aL x v->aN X.K M H dx x->r dx=some dz ->
  (∀w H',Ext M H M H'->HR X.K M H'->Rep X.K M H' dz w->Q w H')->C1 (E2 X.prog X.w) X.A (f v) (EP X af σ Q) X.xe s
def bQ(X:Cx)(f:A0)(r:List D->Option D):Prop :=
 ∀(af:List (A9×Obj)) (s:A2) (σ:St) (H:Hp) (M:DH) (xs:List V) (us:List A0) (ds:List D) (dz:D) (Q:VK),Inv X af σ H s->HR X.K M H->aB xs us->R0 (aN X.K M H) ds xs->r ds=some dz ->
  (∀w H',Ext M H M H'->HR X.K M H'->Rep X.K M H' dz w->Q w H')->C1 (E2 X.prog X.w) X.A (call f us) (EP X af σ Q) X.xe s
def dOp(r:D->D->Option D)(ta tb:TEd):TEd:=λΔ M Q=>ta Δ M λx M1=>tb Δ M1 λy M2=>∃z,r (rdM M2 x) (rdM M2 y)=some z/\Q z M2
def dUn(r:D->Option D)(ta:TEd):TEd:=λΔ M Q=>ta Δ M λx M1=>∃z,r (rdM M1 x)=some z/\Q z M1
def opV(K:u8)(r:D->D->Option D):R2:=λx y H Q=>∃dx dy dz M,HR K M H/\aN K M H dx x/\aN K M H dy y/\r dx dy=some dz/\∀w H',Ext M H M H'->HR K M H'->Rep K M H' dz w->Q w H'
theorem br.v{f:A0->A0->Sem A0}{r:D->D->Option D}(h:br X f r):OpR X f (opV X.K r):=λaf s σ H x y v u Q I rx ry ⟨dx,dy,dz,M,hr,r1,r2,e,k⟩=>h af s σ H M x y v u dx dy dz Q I hr rx ry r1 r2 e k
theorem tK{K:u8}{r:D->D->Option D}{ta tb:TEd}:∀ σ H Q,up K (dOp r ta tb) σ H Q->tOp (opV K r) (up K ta) (up K tb) σ H Q:=λσ H Q hup=>hup.el λΔ M R sr hr q k =>
 ⟨Δ,M,_,sr,hr,q,λx M1 v H1 q1 e1 hr1 rv=>⟨Δ,M1,_,sr.ext e1,hr1,q1,λy M2 u H2 ⟨z,ez,q2⟩ e2 hr2 ru=>⟨_,_,z,M2,hr2,(rv.ext e2).rd hr2,ru.rd hr2,ez,λw H' e3 hr3 rw_=>k z M2 w H' q2 ((e1.trans e2).trans e3) hr3 rw_⟩⟩⟩
def lZ(t:TEd):TTd:=λΔ M Q=>t Δ M λx M1=>∃k,x=.bl k/\Q k M1
theorem vI{K:u8}{t:TEd}:∀ σ H Q,upT K (lZ t) σ H Q->r8 (up K t) σ H Q:=λσ H Q hup=>hup.el λΔ M R sr hr q k =>
 ⟨Δ,M,_,sr,hr,q,λd M1 v H1 ⟨b,e,q1⟩ e1 hr1 rv=>⟨b,by subst e;simpa only[Rep]using rv,k b M1 H1 q1 e1 hr1⟩⟩
def vB(t:TTd):TTd:=λΔ M Q=>t Δ M λc M1=>Q (!c) M1
def tO(t u:TTd):TTd:=λΔ M Q=>t Δ M λc M1=>if c=true then u Δ M1 Q else Q false M1
def yq(t u:TTd):TTd:=λΔ M Q=>t Δ M λc M1=>if c=true then Q true M1 else u Δ M1 Q
variable{tA tB':TTd}{rest:List D0}
theorem PW.conv{X:Cx}{e:D0}{t t':TT}(h:PW X e t)(k:∀ σ H Q,t' σ H Q->t σ H Q):PW X e t':=λw p s σ H Q I q=>h w p s σ H Q I (k σ H Q q)
theorem PWd.pt{e:D0}{t:TTd}(h:PWd X e t):PTd X e t:=PW.pt h
def ym(ta tb:TEd):TEd:=λΔ M Q=>ta Δ M λx M1=>∃c,x=.bl c/\if c=true then tb Δ M1 Q else Q (.bl false) M1
def zk(ta:TEd):TEd:=λΔ M Q=>ta Δ M λx M1=>∃c,x=.bl c/\Q (.bl (!c)) M1
def dIf(t:TTd)(ta tb:TEd):TEd:=λΔ M Q=>t Δ M λc M1=>if c=true then ta Δ M1 Q else tb Δ M1 Q
def oR(r r':D->D->Option D)(ta tb tc:TEd):TEd:=λΔ M Q=>ta Δ M λx M1=>tb Δ M1 λy M2=>∃k,r (rdM M2 x) (rdM M2 y)=some (.bl k)/\if k=true then tc Δ M2 λz M3=>∃w,r' (rdM M3 y) (rdM M3 z)=some w/\Q w M3 else Q (.bl false) M2
theorem pq{K:u8}{M:DH}{H:Hp}(hr:HR K M H):∀{ds:List D}{vs:List V},aq K M H ds vs->R0 (aN K M H) (ds.map (rdM M)) vs
 |[],_,h=>by simp only[aq]at h;subst h;exact .nil
 |d::ds,_,h=>by
  simp only[aq]at h;obtain⟨v,ws,rfl,h1,h2⟩:=h;exact .cons (h1.rd hr) (pq hr h2)
def dCB(r:List D->Option D)(t:TAd):TEd:=λΔ M Q=>t Δ M λds M1=>∃z,r (ds.map (rdM M1))=some z/\Q z M1
theorem vR{K:u8}{r:List D->Option D}{t:TAd}:∀ σ H Q,up K (dCB r t) σ H Q->tCB (λxs H Q=>∃ds dz M,HR K M H/\R0 (aN K M H) ds xs/\r ds=some dz/\∀w H',Ext M H M H'->HR K M H'->Rep K M H' dz w->Q w H') (upA K t) σ H Q:=λσ H Q hup=>hup.el λΔ M R sr hr q k =>
 ⟨Δ,M,_,sr,hr,q,λds M1 vs H1 ⟨z,ez,q1⟩ e1 hr1 rv=>⟨_,z,M1,hr1,pq hr1 rv,ez,λw H' e2 hr2 r2=>k z M1 w H' q1 (e1.trans e2) hr2 r2⟩⟩
theorem bQ.v{f:A0}{r:List D->Option D}(h:bQ X f r):cD X f (λxs H Q=>∃ds dz M,HR X.K M H/\R0 (aN X.K M H) ds xs/\r ds=some dz/\∀w H',Ext M H M H'->HR X.K M H'->Rep X.K M H' dz w->Q w H') :=
 λaf s σ H xs us Q I rv ⟨ds,dz,M,hr,rr,e,k⟩=>h af s σ H M xs us ds dz Q I hr rv rr e k
end
section
variable{X:Cx}
theorem br.of{f:A0->A0->Sem A0}{r2:R2}{r:D->D->Option D}(h:OpR X f r2)
  (k:∀(H:Hp) (M:DH) (x y:V) (dx dy dz:D) (Q:VK),HR X.K M H->aN X.K M H dx x->aN X.K M H dy y->r dx dy=some dz->(∀w H',Ext M H M H'->HR X.K M H'->Rep X.K M H' dz w->Q w H')->r2 x y H Q):br X f r :=
 λaf s σ H M x y v u dx dy dz Q I hr rx ry r1 r2 e q=>h af s σ H x y v u Q I rx ry (k H M x y dx dy dz Q hr r1 r2 e q)
theorem bQ.of{f:A0}{r2:List V->Hp->VK->Prop}{r:List D->Option D}(h:cD X f r2)
  (k:∀(H:Hp) (M:DH) (xs:List V) (ds:List D) (dz:D) (Q:VK),HR X.K M H->R0 (aN X.K M H) ds xs->r ds=some dz->(∀w H',Ext M H M H'->HR X.K M H'->Rep X.K M H' dz w->Q w H')->r2 xs H Q):bQ X f r :=
 λaf s σ H M xs us ds dz Q I hr rv r1 e q=>h af s σ H xs us Q I rv (k H M xs ds dz Q hr r1 e q)
theorem fA{K:u8}{M:DH}{H:Hp}{i:Int}{v:V}(h:aN K M H (.int i) v):v=.int i:=by simpa[aN,Rep]using h
theorem km{K:u8}{M:DH}{H:Hp}{i:Str}{v:V}(h:aN K M H (.str i) v):v=.str i:=by simpa[aN,Rep]using h
theorem zu{K:u8}{M:DH}{H:Hp}{v:V}(h:aN K M H .non v):v=.non:=by simpa[aN,Rep]using h
def iOp(f:Int->Int->Option D):D->D->Option D
 |.int a,.int b=>f a b
 |_,_=>none
theorem jE{f:Int->Int->Option D}{x y z:D}(h:iOp f x y=some z):∃a b,x=.int a/\y=.int b/\f a b=some z:=by
 cases x<;>first|cases h|skip
 rename_i a;cases y<;>first|cases h|skip
 rename_i b;exact⟨a,b,rfl,rfl,h⟩
noncomputable def bb:D->Bool
 |.non=>true|.bl _=>true|.int _=>true|.str _=>true|_=>false
def toV:D->V
 |.bl b=>.bl b|.int i=>.int i|.str x=>.str x|_=>.non
theorem nj{K:u8}{M:DH}{H:Hp}{d:D}(h:bb d=true):Rep K M H d (toV d):=by
 cases d<;>first|(simp[Rep,toV];done)|cases h
theorem qf{f:A0->A0->Sem A0}{C:Int->Int->Prop}[∀i j,Decidable (C i j)]{g:Int->Int->D}(hs:∀i j,bb (g i j)=true)(h:OpR X f (rI C λi j=>toV (g i j))):
  br X f (iOp λi j=>if C i j then some (g i j)else none) :=
 br.of h λH M x y dx dy dz Q hr r1 r2 e q=>by
  obtain⟨a,b,rfl,rfl,e'⟩:=jE e;clear e;have e:=e'
  by_cases hc:C a b
  ·rw[if_pos hc]at e;cases e;exact⟨a,b,fA r1,fA r2,hc,q _ _ (Ext.refl _ _) hr (nj (hs a b))⟩
  ·rw[if_neg hc]at e;cases e
theorem jL{f:A0->A0->Sem A0}{g:Int->Int->D}(hs:∀i j,bb (g i j)=true)(h:OpR X f (rI0 λi j=>toV (g i j))):
  br X f (iOp λi j=>some (g i j)) :=
 br.of h λH M x y dx dy dz Q hr r1 r2 e q=>by
  obtain⟨a,b,rfl,rfl,e⟩:=jE e;cases e;exact⟨a,b,fA r1,fA r2,q _ _ (Ext.refl _ _) hr (nj (hs a b))⟩
instance:∀i j,Decidable (mU i j):=λi j=>by unfold mU;exact inferInstance
instance:∀i j,Decidable (iH i j):=λi j=>by unfold iH;exact inferInstance
instance:∀i j,Decidable (kO i j):=λi j=>by unfold kO;exact inferInstance
theorem lu:br X (N1 .Sub) (iOp λi j=>some (.int (i-j))):=jL (λ_ _=>rfl) xO
theorem vX:br X (N1 .Mult) (iOp λi j=>if iH i j then some (.int (i*j))else none):=qf (λ_ _=>rfl) wC
theorem dh:br X (N1 .FloorDiv) (iOp λi j=>if mU i j then some (.int (i / j))else none):=qf (λ_ _=>rfl) uc
theorem aY:br X (N1 .Mod) (iOp λi j=>if 0<j then some (.int (i % j))else none):=qf (C:=λ_ j=>0<j) (λ_ _=>rfl) wN
theorem pk:br X (N1 .Pow) (iOp λi j=>if kO i j then some (.int (i ^ j.toNat))else none):=qf (λ_ _=>rfl) wm
theorem l8:br X (E3 .Lt) (iOp λi j=>some (.bl (decide (i<j)))):=jL (λ_ _=>rfl) za
theorem kf:br X (E3 .LtE) (iOp λi j=>some (.bl (decide (i<=j)))):=jL (λ_ _=>rfl) zp
theorem Aj:br X (E3 .Gt) (iOp λi j=>some (.bl (decide (j<i)))):=jL (λ_ _=>rfl) zG
theorem zO:br X (E3 .GtE) (iOp λi j=>some (.bl (decide (j<=i)))):=jL (λ_ _=>rfl) yu
theorem aq.at_{K:u8}{M:DH}{H:Hp}{ds:List D}{vs:List V}{i:Int}{d:D}(h:aq K M H ds vs)(e:atI ds i=some d):∃v,atI vs i=some v/\Rep K M H d v:=by
 unfold atI at e ⊢;rw[<-h.length];cases q:ixN ds.length i with
 |none=>rw[q]at e;cases e
 |some j =>
  rw[q]at e;have e':ds[j]?=some d:=e;obtain⟨v,a,b⟩:=h.get e';exact⟨v,a,b⟩
def ixD:D->D->Option D
 |.tup ds,.int i=>atI ds i
 |.lst ds,.int i=>atI ds i
 |.scr ds,.int i=>atI ds i
 |.str z,.int i=>if z.length<=A4 then(atI z.cps.toList i).map λc=>.str ⟨#[c]⟩else none
 |_,_=>none
theorem av:IxR X (opV X.K ixD):=by
 intro value slice af s σ H x y v u Q I rx ry h hs;obtain⟨dx,dy,dz,M,hr,r1,r2,e,k⟩:=h;cases dx with
 |tup ds =>
  cases dy with
  |int i =>
   obtain⟨a,vs,rfl,sq,rl⟩:=r1;obtain⟨w,e2,rw_⟩:=rl.at_ e;exact wD value slice af s σ H _ _ v u Q I rx ry ⟨a,vs,i,w,rfl,fA r2,sq,e2,k w H (Ext.refl _ _) hr rw_⟩ hs
  |_=>cases e
 |lst ds =>
  cases dy with
  |int i =>
   obtain⟨a,vs,rfl,sq,rl⟩:=r1;obtain⟨w,e2,rw_⟩:=rl.at_ e;exact pR value slice af s σ H _ _ v u Q I rx ry ⟨a,vs,i,w,rfl,fA r2,SqL.of sq,e2,k w H (Ext.refl _ _) hr rw_⟩ hs
  |_=>cases e
 |scr ds =>
  cases dy with
  |int i =>
   obtain⟨a,vs,rfl,sq,rl⟩:=r1;obtain⟨w,e2,rw_⟩:=rl.at_ e;exact pR value slice af s σ H _ _ v u Q I rx ry ⟨a,vs,i,w,rfl,fA r2,sq,e2,k w H (Ext.refl _ _) hr rw_⟩ hs
  |_=>cases e
 |str z =>
  cases dy with
  |int i =>
   simp only[ixD]at e
   by_cases hz:z.length<=A4
   ·rw[if_pos hz]at e;cases q:atI z.cps.toList i with
    |none=>rw[q]at e;cases e
    |some c =>
     rw[q]at e;cases e;exact wq value slice af s σ H _ _ v u Q I rx ry ⟨z,i,c,km r1,fA r2,hz,q,k _ H (Ext.refl _ _) hr (by simp[Rep])⟩ hs
   ·rw[if_neg hz]at e;cases e
  |_=>cases e
 |_=>cases e
noncomputable def i7:D->D->Option D
 |.int a,.int b=>some (.int (a+b))
 |.str a,.str b=>if a.length+b.length<=A4 then some (.str (a++b))else none
 |.lst a,.lst b=>if a.length+b.length<=A4 then some (.lst (a++b))else none
 |.tup a,.tup b=>if a.length+b.length<=A4 then some (.tup (a++b))else none
 |_,_=>none
theorem gq{K:u8}{M:DH}{H:Hp}{p:A9}{ds:List D}{vs:List V}{Q:VK}(hr:HR K M H)(hp:H p=none)(r:aq K M H ds vs)(q:∀w H',Ext M H M H'->HR K M H'->Rep K M H' (.lst ds) w->Q w H'):Q (.ref p) (upd H p (.lst vs)) :=
 q _ _ (Ext.new hr hp) (hr.new hp) (by simp only[Rep];exact⟨p,vs,rfl,⟨bh,hr.fresh hp⟩,r.ext (Ext.new hr hp)⟩)
theorem jy{K:u8}{M:DH}{H:Hp}{p:A9}{ds:List D}{vs:List V}{Q:VK}(hr:HR K M H)(hp:H p=none)(r:aq K M H ds vs)(q:∀w H',Ext M H M H'->HR K M H'->Rep K M H' (.tup ds) w->Q w H'):Q (.ref p) (upd H p (.tup vs)) :=
 q _ _ (Ext.new hr hp) (hr.new hp) (by simp only[Rep];exact⟨p,vs,rfl,.inl ⟨.inl bh,hr.fresh hp⟩,r.ext (Ext.new hr hp)⟩)
theorem aN.tup{K:u8}{M:DH}{H:Hp}{ds:List D}{v:V}(hr:HR K M H)(h:aN K M H (.tup ds) v):Rep K M H (.tup ds) v:=by
 obtain⟨a,vs,rfl,sq,rl⟩:=h;simp only[Rep];refine⟨a,vs,rfl,?_,rl⟩;rcases sq with r|k
 ·refine .inl ⟨r,?_⟩;cases q:M a with
  |none=>rfl
  |some o =>
   obtain⟨u,z,m⟩:=(hr a _ q).some;rcases r with r|⟨ob,r⟩
   ·rw[z]at r;exact absurd (K7 r) (m _).1
   ·rw[z]at r;exact absurd (K7 r) ((m _).2 ob)
 ·exact .inr (.inr k)
theorem tM{prog:C6}{w:J1}{A:E7}{E:A0->A2->Prop}{s:A2}{t b:A9}{ws:List A0}{Q:A0->A2->Prop}(ht:ad2 s.heap t ([]:List A0).toArray)(hb:ad2 s.heap b ws.toArray)
  (h:Q (.ref b) s):C1 (E2 prog w) A (N1 .Add (.ref t) (.ref b)) Q E s:=by
 obtain⟨⟨cls,dd,data,sl⟩,ho,hc,n,hd⟩:=id ht;obtain⟨⟨cls2,dd2,data2,sl2⟩,ho2,hc2,n2,hd2⟩:=id hb;simp only at hc hd hc2 hd2;subst hc hd hc2 hd2;exact concat_meets ⟨_,ho,rfl⟩ ⟨_,ho2,rfl⟩ noFill_tuple_add seq_tuple_add PySem.F.slot_tuple_add PySem.F.entry_tuple_add (PySem.F.args_tuple_add_2 _ _)
   (tuple_addW0 t b ([]:List A0).toArray ws.toArray n n2 dd dd2 sl sl2 (by simp)) ⟨ho,ho2,h⟩
theorem aH:br X (N1 .Add) i7:=by
 intro af s σ H M x y v u dx dy dz Q I hr rx ry r1 r2 e k;cases dx with
 |int a =>
  cases dy with
  |int b =>
   cases e;exact xi af s σ H x y v u Q I rx ry ⟨a,b,fA r1,fA r2,k _ H (Ext.refl _ _) hr (by simp[Rep])⟩
  |_=>cases e
 |str a =>
  cases dy with
  |str b =>
   simp only[i7]at e
   by_cases hz:a.length+b.length<=A4
   ·rw[if_pos hz]at e;cases e;exact oP af s σ H x y v u Q I rx ry ⟨a,b,km r1,km r2,hz,k _ H (Ext.refl _ _) hr (by simp[Rep])⟩
   ·rw[if_neg hz]at e;cases e
  |_=>cases e
 |lst a =>
  cases dy with
  |lst b =>
   simp only[i7]at e
   by_cases hz:a.length+b.length<=A4
   ·rw[if_pos hz]at e;cases e;obtain⟨l1,vs,rfl,h1,l1r⟩:=r1;obtain⟨l2,ws,rfl,h2,l2r⟩:=r2;exact wd af s σ H _ _ v u Q I rx ry ⟨l1,l2,vs,ws,rfl,rfl,h1,h2,by rw[<-l1r.length,<-l2r.length];exact hz,λp hp=>gq hr hp (l1r.append l2r) k⟩
   ·rw[if_neg hz]at e;cases e
  |_=>cases e
 |tup a =>
  cases dy with
  |tup b =>
   simp only[i7]at e
   by_cases hz:a.length+b.length<=A4
   ·rw[if_pos hz]at e;cases e;have t1:=aN.tup hr r1;have t2:=aN.tup hr r2;obtain⟨l1,vs,rfl,h1,l1r⟩:=r1;obtain⟨l2,ws,rfl,h2,l2r⟩:=r2
    by_cases hv:vs=[]
    ·subst hv;have ea:a=[]:=by
      have:=l1r.length;cases a with
      |nil=>rfl
      |cons _ _=>simp at this
     subst ea;cases rx;cases ry;obtain⟨its,q1,p1,_⟩:=I.tuple h1;obtain⟨its2,q2,p2,_⟩:=I.tuple h2;cases q1;exact tM p1 p2 ⟨.ref l2,H,I,rfl,k _ H (Ext.refl _ _) hr t2⟩
    ·refine uH af s σ H _ _ v u Q I rx ry ⟨l1,l2,vs,ws,rfl,rfl,h1,h2,hv,by rw[<-l1r.length,<-l2r.length];exact hz,λhw=>?_,λ_ p hp=>jy hr hp (l1r.append l2r) k⟩;subst hw;have eb:b=[]:=by
      have:=l2r.length;cases b with
      |nil=>rfl
      |cons _ _=>simp at this
     subst eb;rw[M9]at k;exact k _ H (Ext.refl _ _) hr t1
   ·rw[if_neg hz]at e;cases e
  |_=>cases e
 |_=>cases e
mutual
def eqD:D->D->Bool
 |.non,.non=>true
 |.bl a,.bl b=>a==b
 |.bl a,.int b=>(if a then 1 else 0)==b
 |.int a,.bl b=>a==(if b then 1 else 0)
 |.int a,.int b=>a==b
 |.str a,.str b=>a==b
 |.tup a,.tup b=>cx a b
 |.lst a,.lst b=>cx a b
 |_,_=>false
def cx:List D->List D->Bool
 |[],[]=>true
 |a::as,b::bs=>eqD a b&&cx as bs
 |_,_=>false
end
mutual
def dLe:D->Nat->Bool
 |.tup _,0=>false
 |.tup ds,n+1=>cq ds n
 |.lst _,0=>false
 |.lst ds,n+1=>cq ds n
 |.scr _,_=>false
 |.emp,_=>false
 |.box _ _,_=>false
 |.ref _,_=>false
 |_,_=>true
def cq:List D->Nat->Bool
 |[],_=>true
 |d::ds,n=>dLe d n&&cq ds n
end
theorem jx:∀{ds:List D}{n i:Nat}{d:D},cq ds n=true->ds[i]?=some d->dLe d n=true
 |[],_,_,_,_,e=>by simp at e
 |d::ds,n,0,x,h,e=>by
  simp only[cq,B8]at h;simp at e;subst e;exact h.1
 |d::ds,n,i+1,x,h,e=>by
  simp only[cq,B8]at h;exact jx h.2 (by simpa using e)
theorem gD:∀{ds:List D}{n:Nat},cq ds n=true↔∀d∈ds,dLe d n=true
 |[],n=>by simp[cq]
 |d::ds,n=>by simp[cq,gD (ds:=ds)]
def eqN(ds es:List D)(j:Nat):Bool:=match ds[j]?,es[j]? with|some a,some b=>eqD a b|_,_=>false
theorem oo:∀{ds es:List D},cx ds es=true->ds.length=es.length
 |[],[],_=>rfl
 |[],_::_,h=>by simp[cx]at h
 |_::_,[],h=>by simp[cx]at h
 |_::ds,_::es,h=>by
  simp only[cx,B8]at h;simp[oo h.2]
theorem j3:∀{ds es:List D},cx ds es=((N8 (min ds.length es.length)).all (eqN ds es)&&ds.length==es.length)
 |[],[]=>by simp[cx]
 |[],_::_=>by simp[cx]
 |_::_,[]=>by simp[cx]
 |a::ds,b::es=>by
  have ih:=@j3 ds es;simp only[cx,N3,Nat.add_min_add_right,List.range_succ_eq_map,U3,R1];have e0:eqN (a::ds) (b::es) 0=eqD a b:=by simp[eqN]
  have e1:(eqN (a::ds) (b::es))∘Nat.succ=eqN ds es:=by
   funext j;simp[eqN]
  rw[e0,e1,ih];have e2:(ds.length+1==es.length+1)=(ds.length==es.length):=by
   rw[Q8];simp
  rw[e2,Bool.and_assoc]
theorem qm{ds es:List D}(h:ds.length=es.length):cx ds es=(N8 ds.length).all (eqN ds es):=by
 rw[j3,<-h,Nat.min_self];simp
theorem Rep.r{K:u8}{M:DH}{H:Hp}{d:D}{v:V}(h:Rep K M H d v):aN K M H d v:=by
 cases d with
 |tup ds=>simp only[Rep]at h;obtain⟨a,vs,e,t,r⟩:=h;exact⟨a,vs,e,t.sq,r⟩
 |lst ds=>simp only[Rep]at h;obtain⟨a,vs,e,t,r⟩:=h;exact⟨a,vs,e,t.1,r⟩
 |scr ds=>simp only[Rep]at h;obtain⟨a,vs,e,t,r⟩:=h;exact⟨a,vs,e,t.sq,r⟩
 |_=>exact h
theorem vD{af:List (A9×Obj)}{σ:St}{H:Hp}{s:A2}{a:A9}{vs ws:List V}(I:Inv X af σ H s)(h:SqT X.K H a vs)(h':H a=some (.lst ws)):False:=by
 obtain⟨its,r,⟨o,e,c,n,d⟩,_⟩:=I.tuple h;obtain⟨_,its',n',_,e'⟩:=I.hok a _ h';rw[e]at e';cases e';exact absurd (show E5 "list"=E5 "tuple" from c) (by decide)
theorem si{af:List (A9×Obj)}{σ:St}{H:Hp}{s:A2}(I:Inv X af σ H s){M M':DH}:∀(n:Nat) {d e:D}{v:V},dLe d n=true->dLe e n=true->aN X.K M H d v->aN X.K M' H e v->eqD d e=true:=by
  intro n
  induction n with
  | zero =>
    intro d e v hd he r1 r2;cases d<;>first|(simp[dLe]at hd;done)|skip
    all_goals cases e<;>first|(simp[dLe]at he;done)|skip
    all_goals (simp only[aN,Rep]at r1 r2;subst r1;first|(cases r2;simp[eqD];done)|cases r2)
  | succ n ih =>
    intro d e v hd he r1 r2;have lists:∀{ds es:List D} {vs:List V},cq ds n=true->cq es n=true->aq X.K M H ds vs->aq X.K M' H es vs->cx ds es=true:=by
      intro ds
      induction ds with
      | nil =>
        intro es vs _ _ h1 h2;simp only[aq]at h1;subst h1;cases es with
        |nil=>simp[cx]
        |cons _ _=>simp[aq]at h2
      | cons a ds ihl =>
        intro es vs d1 d2 h1 h2;simp only[aq]at h1;obtain⟨v,ws,rfl,h3,h4⟩:=h1;cases es with
        |nil=>simp[aq]at h2
        | cons b es =>
          simp only[aq]at h2;obtain⟨v',ws',e',h5,h6⟩:=h2;cases e';simp only[cq,B8]at d1 d2;simp only[cx,B8];exact⟨ih d1.1 d2.1 h3.r h5.r,ihl d1.2 d2.2 h4 h6⟩
    cases d with
    | tup ds =>
      obtain⟨a,vs,rfl,sq,rl⟩:=r1;cases e with
      | tup es =>
        obtain⟨b,ws,e',sq',rl'⟩:=r2;cases e';have:=I.tuple_inj sq sq';subst this;simp only[eqD];exact lists (by simpa[dLe]using hd) (by simpa[dLe]using he) rl rl'
      | lst es =>
        obtain⟨b,ws,e',sq',rl'⟩:=r2;cases e';exact(vD I sq sq').elim
      |_=>first|(simp[dLe]at he;done)|(simp only[aN,Rep]at r2;cases r2)
    | lst ds =>
      obtain⟨a,vs,rfl,sq,rl⟩:=r1;cases e with
      | lst es =>
        obtain⟨b,ws,e',sq',rl'⟩:=r2;cases e';rw[sq]at sq';cases sq';simp only[eqD];exact lists (by simpa[dLe]using hd) (by simpa[dLe]using he) rl rl'
      | tup es =>
        obtain⟨b,ws,e',sq',rl'⟩:=r2;cases e';exact(vD I sq' sq).elim
      |_=>first|(simp[dLe]at he;done)|(simp only[aN,Rep]at r2;cases r2)
    | _ =>
      first
      |(simp[dLe]at hd;done)
      | (cases e with
         |tup es=>(obtain⟨b,ws,e',sq',rl'⟩:=r2;subst e';simp only[aN,Rep]at r1;cases r1)
         |lst es=>(obtain⟨b,ws,e',sq',rl'⟩:=r2;subst e';simp only[aN,Rep]at r1;cases r1)
         |_=>first|(simp[dLe]at he;done)|(simp only[aN,Rep]at r1 r2;subst r1;first|(cases r2;simp[eqD];done)|cases r2))
theorem aN.at{K:u8}{M:DH}{H:Hp}{d:D}{v:V}{u:A0}(r:aN K M H d v)(q:aL v u):match d with|.non=>u=.none|.bl b=>u=.bool b|.int i=>∃t,u=.int i t|.str x=>∃t,u=.str x t|_=>True:=by
 cases d<;>first|trivial|(simp only[aN,Rep]at r;subst r;exact q)
open PySem.SeqAt in
theorem rS{af:List (A9×Obj)}{σ:St}{H:Hp}{s:A2}(I:Inv X af σ H s){M M':DH}:∀(n:Nat) {A:E7}{d e:D}{v w:V}{u1 u2:A0},A.units+n<ad6->dLe d n=true->dLe e n=true ->
  aN X.K M H d v->aN X.K M' H e w->aL v u1->aL w u2->EqAt A s u1 u2 (eqD d e)/\RcAt A s u1 u2 (eqD d e)/\RcNeAt A s u1 u2 (!(eqD d e)):=by
 intro n
 induction n with
 |zero =>
  intro A d e v w u1 u2 hu hd he r1 r2 q1 q2;have hu0:A.units<ad6:=by lia
  cases d<;>first|(simp[dLe]at hd;done)|skip
  all_goals cases e<;>first|(simp[dLe]at he;done)|skip
  all_goals simp only[aN,Rep]at r1 r2
  all_goals subst r1
  all_goals subst r2
  all_goals simp only[aL]at q1 q2
  all_goals first|(obtain⟨t1,rfl⟩:=q1)|subst q1
  all_goals first|(obtain⟨t2,rfl⟩:=q2)|subst q2
  all_goals simp only[eqD]
  ·exact⟨EqAt.same _,RcAt.none_none,RcNeAt.none_none⟩
  ·exact⟨EqAt.none_bool _,RcAt.none_bool _,RcNeAt.none_bool _⟩
  ·exact⟨EqAt.none_int _ _,RcAt.none_int _ _,RcNeAt.none_int _ _⟩
  ·exact⟨EqAt.none_str _ _,RcAt.none_str _ _,RcNeAt.none_str _ _⟩
  ·exact⟨EqAt.bool_none _,RcAt.bool_none _,RcNeAt.bool_none _⟩
  ·exact⟨EqAt.bool_bool _ _,RcAt.bool_bool _ _,RcNeAt.bool_bool _ _⟩
  ·exact⟨EqAt.bool_int _ _ _,RcAt.bool_int _ _ _,RcNeAt.bool_int _ _ _⟩
  ·exact⟨EqAt.bool_str _ _ _,RcAt.bool_str _ _ _,RcNeAt.bool_str _ _ _⟩
  ·exact⟨EqAt.int_none _ _,RcAt.int_none _ _,RcNeAt.int_none _ _⟩
  ·exact⟨EqAt.int_bool _ _ _,RcAt.int_bool _ _ _,RcNeAt.int_bool _ _ _⟩
  ·exact⟨EqAt.int_int _ _ _ _,RcAt.int_int _ _ _ _,RcNeAt.int_int _ _ _ _⟩
  ·exact⟨EqAt.int_str _ _ _ _,RcAt.int_str _ _ _ _,RcNeAt.int_str _ _ _ _⟩
  ·exact⟨EqAt.str_none _ _,RcAt.str_none _ _,RcNeAt.str_none _ _⟩
  ·exact⟨EqAt.str_bool _ _ _,RcAt.str_bool _ _ _,RcNeAt.str_bool _ _ _⟩
  ·exact⟨EqAt.str_int _ _ _ _,RcAt.str_int _ _ _ _,RcNeAt.str_int _ _ _ _⟩
  ·exact⟨EqAt.str_str _ _ _ _,RcAt.str_str _ _ _ _,RcNeAt.str_str _ _ _ _⟩
 |succ n ih =>
  intro A d e v w u1 u2 hu hd he r1 r2 q1 q2;have hu0:A.units<ad6:=by lia
  have hu1:A.in1.units+n<ad6:=by show A.units+1+n<ad6;lia
  have item:∀{ds es:List D} {vs ws:List V} {us us2:List A0},cq ds n=true->cq es n=true->aq X.K M H ds vs->aq X.K M' H es ws->aB vs us->aB ws us2 ->
    ∀j (h1:j<us.toArray.size) (h2:j<us2.toArray.size),EqAt A.in1 s us.toArray[j] us2.toArray[j] (eqN ds es j):=by
   intro ds es vs ws us us2 d1 d2 h1 h2 h3 h4 j hj1 hj2;have l1:=h1.length;have l2:=h2.length;have l3:=h3.length;have l4:=h4.length;have j1:j<ds.length:=by simp at hj1;lia
   have j2:j<es.length:=by simp at hj2;lia
   obtain⟨v1,g1,p1⟩:=h1.get (i:=j) (d:=ds[j]) (by simp[j1]);obtain⟨v2,g2,p2⟩:=h2.get (i:=j) (d:=es[j]) (by simp[j2]);obtain⟨u1,k1,m1⟩:=h3.get g1;obtain⟨u2,k2,m2⟩:=h4.get g2;have e1:us.toArray[j]=u1:=by
    simp at hj1;simpa[C4 hj1]using k1
   have e2:us2.toArray[j]=u2:=by
    simp at hj2;simpa[C4 hj2]using k2
   rw[e1,e2];have e3:eqN ds es j=eqD ds[j] es[j]:=by simp[eqN,j1,j2]
   rw[e3];exact(ih hu1 (jx d1 (i:=j) (by simp[j1])) (jx d2 (i:=j) (by simp[j2])) p1.r p2.r m1 m2).1
  have both:∀{a b:A9},v=.ref a->w=.ref b->RcAt A s (.ref a) (.ref b) (eqD d e)->EqAt A s (.ref a) (.ref b) (eqD d e):=by
   intro a b ea eb rc
   by_cases hab:a=b
   ·subst hab;subst ea;subst eb;rw[si I (n+1) hd he r1 r2];exact EqAt.same _
   ·exact EqAt.of_refs hab rc
  cases d with
  |tup ds =>
   obtain⟨a,vs,rfl,sq,rl⟩:=id r1;cases q1;obtain⟨its,rv,pt,_⟩:=I.tuple sq;have hd':cq ds n=true:=by simpa[dLe]using hd
   cases e with
   |tup es =>
    obtain⟨b,ws,rfl,sq',rl'⟩:=id r2;cases q2;obtain⟨its2,rv2,pt2,_⟩:=I.tuple sq';have he':cq es n=true:=by simpa[dLe]using he
    have it:=item hd' he' rl rl' rv rv2;have t1:=RcAt.tuples (e:=eqN ds es) pt pt2 hu0 it;have t2:=RcNeAt.tuples (e:=eqN ds es) pt pt2 hu0 it;rw[A6,A6,<-rv.length,<-rv2.length,<-rl.length,<-rl'.length,<-j3]at t1 t2;have rc:RcAt A s (.ref a) (.ref b) (eqD (.tup ds) (.tup es)):=by simpa only[eqD]using t1
    exact⟨both rfl rfl rc,rc,by simpa only[eqD]using t2⟩
   |lst es =>
    obtain⟨b,ws,rfl,sq',rl'⟩:=id r2;cases q2;obtain⟨its2,rv2,pt2,_⟩:=I.list (SqL.of sq');simp only[eqD];exact⟨EqAt.tuple_list pt pt2.isList hu0,RcAt.tuple_list pt pt2.isList hu0,RcNeAt.tuple_list pt pt2.isList hu0⟩
   |non=>obtain rfl:=r2.at q2;simp only[eqD];exact⟨EqAt.tuple_none pt hu0,RcAt.tuple_none pt hu0,RcNeAt.tuple_none pt hu0⟩
   |bl b=>obtain rfl:=r2.at q2;simp only[eqD];exact⟨EqAt.tuple_bool _ pt hu0,RcAt.tuple_bool _ pt hu0,RcNeAt.tuple_bool _ pt hu0⟩
   |int b=>obtain⟨t,rfl⟩:=r2.at q2;simp only[eqD];exact⟨EqAt.tuple_int _ _ pt hu0,RcAt.tuple_int _ _ pt hu0,RcNeAt.tuple_int _ _ pt hu0⟩
   |str b=>obtain⟨t,rfl⟩:=r2.at q2;simp only[eqD];exact⟨EqAt.tuple_str _ _ pt hu0,RcAt.tuple_str _ _ pt hu0,RcNeAt.tuple_str _ _ pt hu0⟩
   |_=>simp[dLe]at he
  |lst ds =>
   obtain⟨a,vs,rfl,sq,rl⟩:=id r1;cases q1;obtain⟨its,rv,pt,_⟩:=I.list (SqL.of sq);have hd':cq ds n=true:=by simpa[dLe]using hd
   cases e with
   |lst es =>
    obtain⟨b,ws,rfl,sq',rl'⟩:=id r2;cases q2;obtain⟨its2,rv2,pt2,_⟩:=I.list (SqL.of sq');have he':cq es n=true:=by simpa[dLe]using he
    have hs:its.toArray.size=ds.length/\its2.toArray.size=es.length:=by rw[A6,A6,<-rv.length,<-rv2.length,<-rl.length,<-rl'.length];exact⟨rfl,rfl⟩
    have rc:RcAt A s (.ref a) (.ref b) (eqD (.lst ds) (.lst es))/\RcNeAt A s (.ref a) (.ref b) (!(eqD (.lst ds) (.lst es))):=by
     by_cases hl:ds.length=es.length
     ·have hsz:its.toArray.size=its2.toArray.size:=by rw[hs.1,hs.2];exact hl
      have it:=item hd' he' rl rl' rv rv2;have t1:=RcAt.lists (e:=eqN ds es) pt.isList pt2.isList hsz hu0 it;have t2:=RcNeAt.lists (e:=eqN ds es) pt.isList pt2.isList hsz hu0 it;rw[hs.1,<-qm hl]at t1 t2;exact⟨by simpa only[eqD]using t1,by simpa only[eqD]using t2⟩
     ·have hsz:(its.toArray.size != its2.toArray.size)=true:=by rw[hs.1,hs.2];simpa using hl
      have e0:eqD (.lst ds) (.lst es)=false:=by
       simp only[eqD];cases q:cx ds es with
       |false=>rfl
       |true=>exact absurd (oo q) hl
      rw[e0];exact⟨RcAt.lists_lengths pt.isList pt2.isList hsz hu0,RcNeAt.lists_lengths pt.isList pt2.isList hsz hu0⟩
    exact⟨both rfl rfl rc.1,rc⟩
   |tup es =>
    obtain⟨b,ws,rfl,sq',rl'⟩:=id r2;cases q2;obtain⟨its2,rv2,pt2,_⟩:=I.tuple sq';simp only[eqD];exact⟨EqAt.list_tuple pt.isList pt2 hu0,RcAt.list_tuple pt.isList pt2 hu0,RcNeAt.list_tuple pt.isList pt2 hu0⟩
   |non=>obtain rfl:=r2.at q2;simp only[eqD];exact⟨EqAt.list_none pt.isList hu0,RcAt.list_none pt.isList hu0,RcNeAt.list_none pt.isList hu0⟩
   |bl b=>obtain rfl:=r2.at q2;simp only[eqD];exact⟨EqAt.list_bool _ pt.isList hu0,RcAt.list_bool _ pt.isList hu0,RcNeAt.list_bool _ pt.isList hu0⟩
   |int b=>obtain⟨t,rfl⟩:=r2.at q2;simp only[eqD];exact⟨EqAt.list_int _ _ pt.isList hu0,RcAt.list_int _ _ pt.isList hu0,RcNeAt.list_int _ _ pt.isList hu0⟩
   |str b=>obtain⟨t,rfl⟩:=r2.at q2;simp only[eqD];exact⟨EqAt.list_str _ _ pt.isList hu0,RcAt.list_str _ _ pt.isList hu0,RcNeAt.list_str _ _ pt.isList hu0⟩
   |_=>simp[dLe]at he
  |non =>
   cases e with
   |tup es =>
    obtain⟨b,ws,rfl,sq',rl'⟩:=id r2;cases q2;obtain⟨its2,rv2,pt2,_⟩:=I.tuple sq';obtain rfl:=r1.at q1;simp only[eqD];exact⟨EqAt.none_tuple pt2 hu0,RcAt.none_tuple pt2 hu0,RcNeAt.none_tuple pt2 hu0⟩
   |lst es =>
    obtain⟨b,ws,rfl,sq',rl'⟩:=id r2;cases q2;obtain⟨its2,rv2,pt2,_⟩:=I.list (SqL.of sq');obtain rfl:=r1.at q1;simp only[eqD];exact⟨EqAt.none_list pt2.isList hu0,RcAt.none_list pt2.isList hu0,RcNeAt.none_list pt2.isList hu0⟩
   |_=>first|(simp[dLe]at he;done)|exact ih (A:=A) (by lia) (by simp[dLe]) (by simp[dLe]) r1 r2 q1 q2
  |bl a =>
   cases e with
   |tup es =>
    obtain⟨b,ws,rfl,sq',rl'⟩:=id r2;cases q2;obtain⟨its2,rv2,pt2,_⟩:=I.tuple sq';obtain rfl:=r1.at q1;simp only[eqD];exact⟨EqAt.bool_tuple _ pt2 hu0,RcAt.bool_tuple _ pt2 hu0,RcNeAt.bool_tuple _ pt2 hu0⟩
   |lst es =>
    obtain⟨b,ws,rfl,sq',rl'⟩:=id r2;cases q2;obtain⟨its2,rv2,pt2,_⟩:=I.list (SqL.of sq');obtain rfl:=r1.at q1;simp only[eqD];exact⟨EqAt.bool_list _ pt2.isList hu0,RcAt.bool_list _ pt2.isList hu0,RcNeAt.bool_list _ pt2.isList hu0⟩
   |_=>first|(simp[dLe]at he;done)|exact ih (A:=A) (by lia) (by simp[dLe]) (by simp[dLe]) r1 r2 q1 q2
  |int a =>
   cases e with
   |tup es =>
    obtain⟨b,ws,rfl,sq',rl'⟩:=id r2;cases q2;obtain⟨its2,rv2,pt2,_⟩:=I.tuple sq';obtain⟨t,rfl⟩:=r1.at q1;simp only[eqD];exact⟨EqAt.int_tuple _ _ pt2 hu0,RcAt.int_tuple _ _ pt2 hu0,RcNeAt.int_tuple _ _ pt2 hu0⟩
   |lst es =>
    obtain⟨b,ws,rfl,sq',rl'⟩:=id r2;cases q2;obtain⟨its2,rv2,pt2,_⟩:=I.list (SqL.of sq');obtain⟨t,rfl⟩:=r1.at q1;simp only[eqD];exact⟨EqAt.int_list _ _ pt2.isList hu0,RcAt.int_list _ _ pt2.isList hu0,RcNeAt.int_list _ _ pt2.isList hu0⟩
   |_=>first|(simp[dLe]at he;done)|exact ih (A:=A) (by lia) (by simp[dLe]) (by simp[dLe]) r1 r2 q1 q2
  |str a =>
   cases e with
   |tup es =>
    obtain⟨b,ws,rfl,sq',rl'⟩:=id r2;cases q2;obtain⟨its2,rv2,pt2,_⟩:=I.tuple sq';obtain⟨t,rfl⟩:=r1.at q1;simp only[eqD];exact⟨EqAt.str_tuple _ _ pt2 hu0,RcAt.str_tuple _ _ pt2 hu0,RcNeAt.str_tuple _ _ pt2 hu0⟩
   |lst es =>
    obtain⟨b,ws,rfl,sq',rl'⟩:=id r2;cases q2;obtain⟨its2,rv2,pt2,_⟩:=I.list (SqL.of sq');obtain⟨t,rfl⟩:=r1.at q1;simp only[eqD];exact⟨EqAt.str_list _ _ pt2.isList hu0,RcAt.str_list _ _ pt2.isList hu0,RcNeAt.str_list _ _ pt2.isList hu0⟩
   |_=>first|(simp[dLe]at he;done)|exact ih (A:=A) (by lia) (by simp[dLe]) (by simp[dLe]) r1 r2 q1 q2
  |_=>simp[dLe]at hd
end
section
variable{X:Cx}{a b c e:D0}{es:List D0}{te ta tb:TEd}{pos:Pos}{st:N5}{rest:List N5}{t u:TSd}
def pO:TSd:=λE Δ M=>E.nx Δ M
def ub(t u:TSd):TSd:=λE Δ M=>t { E with nx:=u E } Δ M
def yo(te:TEd):TSd:=λE Δ M=>te Δ M E.rt
def sE(te:TEd):TSd:=λE Δ M=>te Δ M λ_ M1=>E.nx Δ M1
def uf(c:TTd)(t u:TSd):TSd:=λE Δ M=>c Δ M λb M1=>if b=true then t E Δ M1 else u E Δ M1
def we(i:Nat)(te:TEd):TSd:=λE Δ M=>te Δ M λd M1=>E.nx (Δ.set i (some d)) M1
def zz(i:Nat)(te:TEd)(r:D->D->Option D):TSd:=λE Δ M=>∃x,Δ[i]?=some (some x)/\te Δ M λy M1=>∃z,r (rdM M1 x) (rdM M1 y)=some z/\E.nx (Δ.set i (some z)) M1
def sF(i:Nat)(t:TSd):TSd:=λE Δ M=>∃a ds,Δ[i]?=some (some (.ref a))/\M a=some (.lst ds)/\t E (Δ.set i (some (.lst ds))) (jr M a)
abbrev GD:=D->DE->Option DE
def PGd(X:Cx)(tg:D0)(g:GD):Prop:=∃gv:TG,PG X tg gv/\∀(d:D) (v:V) (σ:St) (Δ Δ':DE) (M:DH) (H:Hp) (Q:St->Hp->Prop),SR X.K M H σ Δ->HR X.K M H->Rep X.K M H d v->g d Δ=some Δ'->(∀ σ',SR X.K M H σ' Δ'->Q σ' H)->gv v σ H Q
def dX(i:Nat):GD:=λd Δ=>some (Δ.set i (some d))
theorem a7{i:Nat}{x:Str}(hN:X.N.Nodup)(hi:X.N[i]?=some x)(hx:Loc X.env.scope x)(hf:X.fn x=true∨X.env.scope.names.lookup x=some .local:=by first|exact .inl rfl|exact .inr rfl|assumption):PGd X (.Name x pos) (dX i) :=
 ⟨nc i,pA hN hi hx hf,λd v σ Δ Δ' M H Q sr hr rv e k=>by cases e;exact k _ (sr.set i rv)⟩
abbrev GDs:=List D->DE->Option DE
def uA(X:Cx)(tgs:List D0)(g:GDs):Prop:=∃gv:TGs,PGs X tgs gv/\∀(ds:List D) (vs:List V) (σ:St) (Δ Δ':DE) (M:DH) (H:Hp) (Q:St->Hp->Prop),SR X.K M H σ Δ->HR X.K M H->aq X.K M H ds vs->g ds Δ=some Δ'->(∀ σ',SR X.K M H σ' Δ'->Q σ' H)->gv vs σ H Q
def m6:GDs:=λds Δ=>match ds with|[]=>some Δ|_=>none
def gj(g:GD)(gs:GDs):GDs:=λds Δ=>match ds with|[]=>none|d::r=>(g d Δ).bind λΔ1=>gs r Δ1
def k6(g:GDs)(n:Nat):GD:=λd Δ=>match d with|.tup ds=>if ds.length=n then g ds Δ else none|_=>none
theorem lD:uA X [] m6:=⟨zy,uD,λds vs σ Δ Δ' M H Q sr hr rv e k=>by
 cases ds with
 |nil=>simp only[aq]at rv;subst rv;cases e;exact⟨rfl,k _ sr⟩
 |cons _ _=>cases e⟩
theorem bU{tg:D0}{tgs:List D0}{g:GD}{gs:GDs}(h1:PGd X tg g)(h2:uA X tgs gs)
  (hs:(Q5 (tg::tgs) X.env).map (·.2)=Z4 tg X.env::(Q5 tgs X.env).map (·.2):=by rfl):uA X (tg::tgs) (gj g gs):=by
 obtain⟨g1,p1,k1⟩:=h1;obtain⟨g2,p2,k2⟩:=h2;refine⟨vH g1 g2,sg p1 p2 hs,λds vs σ Δ Δ' M H Q sr hr rv e k=>?_⟩;cases ds with
 |nil=>cases e
 |cons d r =>
  simp only[aq]at rv;obtain⟨v,ws,rfl,h3,h4⟩:=rv;simp only[gj]at e;cases q:g d Δ with
  |none=>rw[q]at e;cases e
  |some Δ1 =>
   rw[q]at e;exact⟨v,ws,rfl,k1 d v σ Δ Δ1 M H _ sr hr h3 q λσ1 sr1=>k2 r ws σ1 Δ1 Δ' M H Q sr1 hr h4 e k⟩
theorem lw{tgs:List D0}{kx:Nat}{g:GDs}{n:Nat}(hc:X.calm=true)(h:uA X tgs g)(hn:(Q5 tgs X.env).length=n:=by rfl)(hst:(Q5 tgs X.env).findIdx? (·.1)=none:=by rfl):PGd X (.Tuple tgs kx pos) (k6 g n):=by
 obtain⟨g1,p1,k1⟩:=h;refine⟨zj X.K n g1,vY hc p1 hn hst,λd v σ Δ Δ' M H Q sr hr rv e k=>?_⟩;cases d with
 |tup ds =>
  simp only[k6]at e
  by_cases hl:ds.length=n
  ·rw[if_pos hl]at e;simp only[Rep]at rv;obtain⟨a,vs,rfl,ta,rl⟩:=rv;exact⟨a,vs,rfl,ta.sq,by rw[<-rl.length];exact hl,k1 ds vs σ Δ Δ' M H Q sr hr rl e k⟩
  ·rw[if_neg hl]at e;cases e
 |_=>cases e
def yQ(te:TEd)(g:GD):TSd:=λE Δ M=>te Δ M λd M1=>∃ Δ',g d Δ=some Δ'/\E.nx Δ' M1
abbrev TId:=DE->DH->(List D->DH->Prop)->Prop
def ItD(K:u8)(J:It)(ds:List D)(M1:DH)(H1:Hp):Prop:=∀M2 H2,Ext M1 H1 M2 H2->HR K M2 H2->∀i,(∀d,ds[i]?=some d->J.go i H2/\∀x H',J.yld i H2 x H'->Ext M2 H2 M2 H'/\HR K M2 H'/\Rep K M2 H' d x)/\(ds.length<=i->J.stop i H2)
def upI(K:u8)(wi:TId):TI:=λσ H R=>∃(Δ:DE) (M:DH) (R':List D->DH->Prop),SR K M H σ Δ/\HR K M H/\wi Δ M R'/\∀ds M1 J H1,R' ds M1->Ext M H M1 H1->HR K M1 H1->ItD K J ds M1 H1->R J H1
theorem upI.el{K:u8}{t:TId}{σ:St}{H:Hp}{Q:It->Hp->Prop}{P:Prop}(h:upI K t σ H Q)(f:∀(Δ:DE) (M:DH) (R:List D->DH->Prop),SR K M H σ Δ->HR K M H->t Δ M R->(∀ds M1 J H1,R ds M1->Ext M H M1 H1->HR K M1 H1->ItD K J ds M1 H1->Q J H1)->P):P:=by
 obtain⟨x1,x2,x3,a,b,c,d⟩:=h;exact f x1 x2 x3 a b c d
def PId(X:Cx)(tg iter:D0)(wi:TId):Prop:=PI X tg iter (upI X.K wi)
theorem PI.conv{tg iter:D0}{w w':TI}(h:PI X tg iter w)(k:∀ σ H R,w' σ H R->w σ H R):PI X tg iter w':=λp s σ H R I q=>h p s σ H R I (k σ H R q)
variable{tg iter:D0}
def nB(lo:Int)(n:Nat):List D:=(N8 n).map λ(k:Nat)=>.int (lo+(k:Int))
theorem fD{lo:Int}{n i:Nat}{d:D}(h:(nB lo n)[i]?=some d):i<n/\d=.int (lo+i):=by
 unfold nB at h;rw[K6]at h
 by_cases hi:i<n
 ·rw[List.getElem?_range hi]at h;cases h;exact⟨hi,rfl⟩
 ·rw[List.getElem?_eq_none (by simp;omega)]at h;cases h
theorem pN{K:u8}{lo:Int}{n:Nat}{M1:DH}{H1:Hp}:ItD K (Itr lo n) (nB lo n) M1 H1:=λM2 H2 e2 hr2 i=>⟨λd hd=>by
  obtain⟨h1,rfl⟩:=fD hd;refine⟨h1,λx H' ⟨eH,y⟩=>?_⟩;subst eH;subst y;exact⟨Ext.refl _ _,hr2,by simp[Rep]⟩,λhl=>by
  show n<=i;simpa[nB]using hl⟩
def rC(ta:TAd):TId:=λΔ M R=>ta Δ M λds M1=>∃j:Int,ds=[.int j]/\-(2 ^ 62)<=j/\j<2 ^ 62/\R (nB 0 j.toNat) M1
def tE(ta:TAd):TId:=λΔ M R=>ta Δ M λds M1=>∃i j:Int,ds=[.int i,.int j]/\(-(2 ^ 62)<=i/\i<2 ^ 62/\-(2 ^ 62)<=j/\j<2 ^ 62)/\R (nB i (j-i).toNat) M1
def bH(g:GD)(tb:TSd)(E:cV):List D->DE->DH->Prop
 |[],Δ,M=>E.nx Δ M
 |d::ds,Δ,M=>∃ Δ',g d Δ=some Δ'/\tb { E with nx:=bH g tb E ds,ct:=bH g tb E ds,bk:=E.nx } Δ' M
def xq(wi:TId)(g:GD)(tb:TSd):TSd:=λE Δ M=>wi Δ M λds M1=>bH g tb E ds Δ M1
def sQ(c:TTd)(tb:TSd):TSd:=λE Δ M=>∃W:Nat->DE->DH->Prop,(∃m,W m Δ M)/\∀m Δ M,W m Δ M->c Δ M λb M1=>if b=true then tb { E with nx:=λΔ' M'=>∃m',m'<m/\W m' Δ' M',ct:=λΔ' M'=>∃m',m'<m/\W m' Δ' M',bk:=E.nx } Δ M1 else E.nx Δ M1
end
def pI:D->Prop
 |.tup ds=>ds.length<=A4
 |.lst ds=>ds.length<=A4
 |.scr ds=>ds.length<=A4
 |_=>True
section
variable{X:Cx}{a b c e:D0}{es:List D0}{te ta tb:TEd}{pos:Pos}{tg iter elt:D0}
theorem aN.len{K:u8}{af:List (A9×Obj)}{σ:St}{H:Hp}{s:A2}{M:DH}{d:D}{v:V}(I:Inv X af σ H s)(h:Rep X.K M H d v):pI d:=by
 cases d with
 |tup ds =>
  simp only[Rep]at h;obtain⟨a,vs,e,t,r⟩:=h;obtain⟨_,_,_,z⟩:=I.tuple t.sq;simp only[pI];rw[r.length];exact z
 |lst ds =>
  simp only[Rep]at h;obtain⟨a,vs,e,t,r⟩:=h;obtain⟨_,_,_,z⟩:=I.list (SqL.of t.1);simp only[pI];rw[r.length];exact z
 |scr ds =>
  simp only[Rep]at h;obtain⟨a,vs,e,t,r⟩:=h;obtain⟨_,_,_,z⟩:=I.list t.sq;simp only[pI];rw[r.length];exact z
 |_=>trivial
noncomputable def bF:List Bool->DE->DE
 |true::ms,v::σ=>v::bF ms σ
 |false::ms,_::σ=>none::bF ms σ
 |[],_::σ=>none::bF [] σ
 |_,[]=>[]
def qi(ms:List Bool)(k:Nat)(Δ:DE):DE:=bF ms Δ++B3 k none
theorem bT:∀(ms:List Bool) (σ:DE),(bF ms σ).length=σ.length
 |true::ms,v::σ=>by simp[bF,bT ms σ]
 |false::ms,_::σ=>by simp[bF,bT ms σ]
 |[],_::σ=>by simp[bF,bT [] σ]
 |[],[]=>by simp[bF]
 |true::_,[]=>by simp[bF]
 |false::_,[]=>by simp[bF]
theorem fL:∀{ms:List Bool}{σ:DE}{i:Nat}{v:D},(bF ms σ)[i]?=some (some v)->ms[i]?=some true/\σ[i]?=some (some v)
 |true::ms,v::σ,0,x,h=>by simpa[bF]using h
 |true::ms,v::σ,i+1,x,h=>by
  have:=fL (ms:=ms) (σ:=σ) (i:=i) (v:=x) (by simpa[bF]using h);simpa using this
 |false::ms,_::σ,0,x,h=>by simp[bF]at h
 |false::ms,_::σ,i+1,x,h=>by
  have:=fL (ms:=ms) (σ:=σ) (i:=i) (v:=x) (by simpa[bF]using h);simpa using this
 |[],_::σ,0,x,h=>by simp[bF]at h
 |[],_::σ,i+1,x,h=>by
  have:=fL (ms:=[]) (σ:=σ) (i:=i) (v:=x) (by simpa[bF]using h);simpa using this
 |[],[],_,_,h=>by simp[bF]at h
 |true::_,[],_,_,h=>by simp[bF]at h
 |false::_,[],_,_,h=>by simp[bF]at h
theorem gx:∀{ms:List Bool}{σ:St}{i:Nat}{v:V},ms[i]?=some true->σ[i]?=some (some v)->(bu ms σ)[i]?=some (some v)
 |true::ms,v::σ,0,x,h,h2=>by simpa[bu]using h2
 |true::ms,v::σ,i+1,x,h,h2=>by
  have:=gx (ms:=ms) (σ:=σ) (i:=i) (v:=x) (by simpa using h) (by simpa using h2);simpa[bu]using this
 |false::ms,_::σ,0,x,h,h2=>by simp at h
 |false::ms,_::σ,i+1,x,h,h2=>by
  have:=gx (ms:=ms) (σ:=σ) (i:=i) (v:=x) (by simpa using h) (by simpa using h2);simpa[bu]using this
 |[],_,_,_,h,_=>by simp at h
 |_::_,[],_,_,_,h=>by simp at h
theorem SR.comp{K:u8}{M:DH}{H:Hp}{σ:St}{Δ:DE}(ms:List Bool)(k:Nat)(h:SR K M H σ Δ):SR K M H (fY ms k σ) (qi ms k Δ):=by
 refine⟨by simp[fY,qi,bv,bT,h.1],λi d q=>?_⟩;unfold qi at q
 by_cases hi:i<(bF ms Δ).length
 ·rw[E9 hi]at q;obtain⟨m,e⟩:=fL q;obtain⟨v,ev,rv⟩:=h.2 i d e;refine⟨v,?_,rv⟩;have:=gx m ev;unfold fY;rw[E9 (by rw[bv,h.1,<-bT ms];exact hi)];exact this
 ·rw[O7 (by lia),R7]at q
  split at q<;>cases q
def cO(g:GD)(tc:TTd)(te:TEd):List D->DE->DH->List D->(List D->DH->Prop)->Prop
 |[],_,M,acc,Q=>Q acc M
 |d::ds,Δ,M,acc,Q=>∃ Δ',g d Δ=some Δ'/\tc Δ' M λb M1=>if b=true then te Δ' M1 λy M2=>cO g tc te ds Δ' M2 (acc++[y]) Q else cO g tc te ds Δ' M1 acc Q
def dLc(ms:List Bool)(k:Nat)(wi:TId)(g:GD)(tc:TTd)(te:TEd):TEd:=λΔ M Q=>wi Δ M λds M1=>ds.length<=A4/\cO g tc te ds (qi ms k Δ) M1 [] λys M2=>Q (.lst ys) M2
def zL(X:Cx)(ifs:List D0)(t:TTd):Prop:=PIf X ifs (upT X.K t)
def w6:TTd:=λ_ M Q=>Q true M
abbrev rJ(K:u8)(g:GD)(gv:TG):Prop:=∀(d:D) (v:V) (σ:St) (Δ Δ':DE) (M:DH) (H:Hp) (Q:St->Hp->Prop),SR K M H σ Δ->HR K M H->Rep K M H d v->g d Δ=some Δ'->(∀ σ',SR K M H σ' Δ'->Q σ' H)->gv v σ H Q
theorem vd{K:u8}{g:GD}{tc:TTd}{te:TEd}{gv:TG}(kg:rJ K g gv){J:It}{ds:List D}{M1:DH}{H1:Hp}(it:ItD K J ds M1 H1)(hr1:HR K M1 H1)(hz:ds.length<=A4){R:List D->DH->Prop}{σ:St}{Δ:DE}(sr:SR K M1 H1 σ Δ)(q:cO g tc te ds Δ M1 [] R):
  ∃(W:Nat->Nat->List V->St->Hp->Prop) (Z:List V->St->Hp->Prop),(∃m,W 0 m [] σ H1)/\mM J gv (upT K tc) (ot (up K te)) W Z/\∀ys σ' H',Z ys σ' H'->∃M' acc,Ext M1 H1 M' H'/\HR K M' H'/\aq K M' H' acc ys/\R acc M':=by
 refine⟨λi m ys σ' H'=>∃ Δ' M' acc,m=ds.length-i/\i<=ds.length/\Ext M1 H1 M' H'/\HR K M' H'/\SR K M' H' σ' Δ'/\aq K M' H' acc ys/\acc.length<=i/\cO g tc te (ds.drop i) Δ' M' acc R,_,
  ⟨ds.length,_,M1,[],by simp,R8 _,Ext.refl _ _,hr1,sr,aq.nil,by simp,q⟩,?_,λ_ _ _ z=>z⟩
 rintro i m ys σ2 H2 ⟨Δ2,M2,acc,rfl,hi2,e2,hr2,sr2,ra,la,f2⟩;have hl:ys.length<=A4:=by rw[<-ra.length];lia
 refine⟨hl,?_⟩;obtain⟨go,stop⟩:=it M2 H2 e2 hr2 i
 by_cases hlt:i<ds.length
 ·have hd:ds[i]?=some ds[i]:=by simp[hlt]
  obtain⟨g1,y1⟩:=go _ hd;rw[P7 hlt]at f2;simp only[cO]at f2;obtain⟨Δ3,eg,f3⟩:=f2;refine .inr ⟨g1,λx H' hy=>?_⟩;obtain⟨e3,hr3,rx⟩:=y1 x H' hy;refine kg _ x σ2 Δ2 Δ3 M2 H' _ (sr2.ext e3) hr3 rx eg λσ3 sr3=>?_;refine⟨Δ3,M2,_,sr3,hr3,f3,λb M4 H4 q4 e4 hr4=>?_⟩;cases b with
  |true =>
   simp only[if_true]at q4 ⊢;refine⟨Δ3,M4,_,sr3.ext e4,hr4,q4,λy M5 v5 H5 q5 e5 hr5 rv5=>?_⟩;refine⟨ds.length-(i+1),by lia,Δ3,M5,acc++[y],rfl,hlt,((e2.trans e3).trans e4).trans e5,hr5,(sr3.ext e4).ext e5,(((ra.ext e3).ext e4).ext e5).append (aq.cons rv5 aq.nil),by simp;lia,q5⟩
  |false =>
   simp only[B0,if_false]at q4 ⊢;exact⟨ds.length-(i+1),by lia,Δ3,M4,acc,rfl,hlt,(e2.trans e3).trans e4,hr4,sr3.ext e4,(ra.ext e3).ext e4,by lia,q4⟩
 ·rw[List.drop_eq_nil_of_le (by lia)]at f2;exact .inl ⟨stop (by lia),M2,acc,e2,hr2,ra,f2⟩
theorem pV{K:u8}{wi:TId}{g:GD}{tc:TTd}{te:TEd}{gv:TG}{ms:List Bool}{kk:Nat}(kg:rJ K g gv):
  ∀ σ H Q,up K (dLc ms kk wi g tc te) σ H Q->tLc ms kk (upI K wi) gv (upT K tc) (up K te) σ H Q:=by
 rintro σ H Q ⟨Δ,M,R,sr,hr,q,k⟩;refine⟨Δ,M,_,sr,hr,q,λds M1 J H1 ⟨hz,q1⟩ e1 hr1 it=>?_⟩;obtain⟨W,Z,hW,hC,hZ⟩:=vd kg it hr1 hz ((sr.ext e1).comp ms kk) q1;refine⟨W,Z,hW,hC,λys σ' H' p z hp=>?_⟩;obtain⟨M',acc,e',hr',ra,q'⟩:=hZ _ _ _ z;refine k _ M' _ _ q' ((e1.trans e').trans (Ext.new hr' hp)) (hr'.new hp) ?_;simp only[Rep];exact⟨p,ys,rfl,⟨bh,hr'.fresh hp⟩,ra.ext (Ext.new hr' hp)⟩
variable{scope:T8}{cl:List (Str×A9)}{ms:List Bool}{ay:List Str}{ifs:List D0}
def PGa(X:Cx)(scope:T8)(cl:List (Str×A9))(ay:List Str)(tg:D0)(g:GD):Prop:=∃gv:TG,(∀C s H ex,PG (a6 X scope cl (X.N++ay) C s H ex) tg gv)/\rJ X.K g gv
theorem fM{i:Nat}{x:Str}{pos:Pos}(hN:(X.N++ay).Nodup)(hi:(X.N++ay)[i]?=some x)(hx:(relabel scope X.env).names.lookup x=some .local):PGa X scope cl ay (.Name x pos) (dX i) :=
 ⟨nc i,λC s H ex=>pA hN hi (.inl hx) (.inr hx),λd v σ Δ Δ' M H Q sr hr rv e k=>by cases e;exact k _ (sr.set i rv)⟩
end
abbrev SpD:=List D->DH->(D->DH->Prop)->Prop
def spD(K:u8)(n:Nat)(S:SpD):Sp:=λvs H Q _=>∃(ds:List D) (M:DH) (R:D->DH->Prop),ds.length=n/\aq K M H ds vs/\HR K M H/\S ds M R/\∀d M' v H',R d M'->Ext M H M' H'->HR K M' H'->Rep K M' H' d v->Q v H'
theorem vc{K:u8}{n:Nat}{S:SpD}{vs:List V}{H:Hp}{Q:VK}{E:XK}(h:spD K n S vs H Q E):vs.length=n:=by
 obtain⟨ds,M,R,hl,r,_⟩:=h;rw[<-r.length];exact hl
def dR(N:List Str)(ds:List D):DE:=ds.map some++B3 (N.length-ds.length) none
theorem ng{K:u8}{M:DH}{H:Hp}{N:List Str}:∀{ds:List D}{vs:List V},aq K M H ds vs->SR K M H (eI N vs) (dR N ds):=by
 intro ds vs h;have hl:=h.length;refine⟨by simp[eI,dR,hl],λi d q=>?_⟩;unfold dR at q
 by_cases hi:i<ds.length
 ·rw[E9 (by simpa using hi),K6]at q;cases e:ds[i]? with
  |none=>rw[e]at q;cases q
  |some d' =>
   rw[e]at q;cases q;obtain⟨v,gv,rv⟩:=h.get e;refine⟨v,?_,rv⟩;unfold eI;rw[E9 (by simp;lia),K6,gv];rfl
 ·rw[O7 (by simpa using hi),R7]at q
  split at q<;>cases q
section
variable{P:C6}{w:J1}{K:u8}{mg:Str->Option A0}{base:D6}{f:A9}{fd:B2}
theorem Fun.okD{x qual:Str}{st:N5}{f:A9}{fd:B2}{N ps:List Str}{k n:Nat}{S:SpD}(F:Fun K x qual st f fd)(hn:ps.length=n)(Sc:ar N ps (aj st))
  (hbody:∀ (cdv:A0) (A:E7) (outer:List Env) (s:A2) (H:Hp) (E:XK),bw k (A.deeper (U2 qual (aj st) s.heap.objs.size f cdv)) →
   ∃t:TSd,vn (j8 CX0 P w K mg base N qual (aj st) f cdv A outer s H E).nox (bM st) t/\∀ds M R,ds.length=n->S ds M R->t { nx:=λ_ M'=>R .non M',rt:=R } (dR N ds) M):aK P w K mg base CX0 (k+1) f fd ps (spD K n S):=by
 refine F.ok Sc (λvs H Q E h=>by rw[hn];exact vc h) (λcdv A outer s H vs Q E hr h=>?_);obtain⟨t,ht,hq⟩:=hbody cdv A outer s H E hr;obtain⟨ds,M,R,hl,r,hrr,q,k'⟩:=h;refine⟨_,ht,dR N ds,M,_,ng r,hrr,hq ds M R hl q,⟨λΔ' M' σ' H' q' e' hr' _=>k' .non M' .non H' q' e' hr' (by simp[Rep]),λ_ _ _ _ q'=>K0 q',λ_ _ _ _ q'=>K0 q',λd M' v H' q' e' hr' rv=>k' d M' v H' q' e' hr' rv⟩⟩
end
section
variable{X:Cx}{a b c e:D0}{es:List D0}{te ta tb:TEd}{t:TAd}{pos:Pos}
def ow(n:Nat)(S:SpD)(t:TAd):TEd:=λΔ M Q=>t Δ M λds M1=>ds.length=n/\S ds M1 Q
theorem xy{k:Nat}{f:A9}{fd:B2}{ps:List Str}{n:Nat}{S:SpD}{x:Str}{p:Pos}(F:aK X.prog X.w X.K X.mg X.base CX0 k f fd ps (spD X.K n S))(hr:bw k X.A)(hg:Gl X x)(hm:X.mg x=some (.ref f))(hk:K3 X.K (.ref f)=true)(hb:bS X.K fd ps [])
  (ha:PAd X (e::es) t) (hdb:(x==("__debug__":Str))=false:=by decide) (he:B1 (e::es) X.env=(false,S7 e X.env)::B1 es X.env:=by rfl) (hpl:(Q4 pos (B1 es X.env)).any (·.1)=false:=by rfl) :
  PEd X (.Call (.Name x p) (e::es) [] pos) (ow n S t) :=
 (uJ F hr hg hm hk hb .nil vS ha hdb he hpl).conv λσ H Q hup => hup.el λΔ M R sr hr q k => ⟨Δ,M,_,sr,hr,q,λds M1 vs H1 ⟨hl,q1⟩ e1 hr1 rv => by
  dsimp only;rw[M9];exact⟨ds,M1,R,hl,rv,hr1,q1,λd M' v H' q' e' hr' rv'=>k d M' v H' q' (e1.trans e') hr' rv'⟩⟩
def wW(to te:TEd):TEd:=λΔ M Q=>to Δ M λo M1=>∃a l,o=.ref a/\M1 a=some (.lst l)/\te Δ M1 λd M2=>∃ds,M2 a=some (.lst ds)/\ds.length<A4/\Q .non (bt M2 a (.lst (ds++[d])))
end
def ItW(n:Nat)(Vp:Nat->V->Prop):It:=⟨λi _=>i<n,λi H x H'=>H'=H/\Vp i x,λi _=>n<=i⟩
theorem qR{P:C6}{w:J1}{K:u8}{tg:D0}{it:A9}{n:Nat}{Pv:Nat->A0->Prop}{St:Nat->D6->Prop}{ty:String}{Vp:Nat->V->Prop}
  (W:∀A:E7,A.handled=none->Walks P w A it [it] [it] n Pv St) (ho:∀i h,St i h->∃o,h.get? it=some o/\o.cls=.type ty/\∃vs,o.data=.fields vs)
  (hn:["enumerate","zip","dict_itemiterator","dict_reverseitemiterator","odict_iterator","itertools.zip_longest","itertools.pairwise"].contains ty=false)
  (hv:∀i u,Pv i u->∃x,aL x u/\Vp i x) (hself:∀(A:E7) (i:Nat) (s:A2) (Q:A0->A2->Prop) (E:A0->A2->Prop),St i s.heap->Q (.ref it) s->C1 (E2 P w) A (pyIter (.ref it)) Q E s):mx P w K tg (ItW n Vp) [it] it (λi h=>i<=n/\St i h) where
 mem:=by simp
 obj:=λi h st b hb=>by
  have e:b=it:=by simpa using hb
  subst e;obtain⟨o,e,c,vs,d⟩:=ho i h st.2;exact⟨o,e,λv z=>by rw[d]at z;cases z⟩
 keep:=λi h h' st k=>⟨st.1,(W { handled:=none } rfl).frame i h h' st.2 k⟩
 item:=by
  intro X hP hw hK hc i af s σ H E I hf st hg;subst hP hw hK;obtain⟨f0,f1,f2,f3,f4,f5⟩:=hf it (by simp);refine(W X.A (I.ok.hd hc)).item i s _ _ hg st.2 λv h' tk pv st' kk=>?_;have I1:Inv X af σ H { s with heap:=h',toks:=tk }:=I.turned (λb o hb e=>kk b o (by simpa using hb) e) f0 f1 f3 f4 f5;obtain⟨x,rx,vx⟩:=hv i v pv;obtain⟨o,e,c,vs,d⟩:=ho _ _ st';exact⟨v,rfl,qa (s:={ s with heap:=h',toks:=tk }) e c d hn ⟨x,H,I1,rx,⟨rfl,vx⟩,⟨hg,st'⟩,λb hb=>(hf b hb).1⟩⟩
 done:=by
  intro X hP hw hK hc i af s σ H E I hf st hg;subst hP hw hK;obtain⟨f0,f1,f2,f3,f4,f5⟩:=hf it (by simp);have e:i=n:=Nat.le_antisymm st.1 hg;subst e;exact(W X.A (I.ok.hd hc)).done s _ _ st.2 λh' tk kk=>⟨rfl,I.turned (λb o hb e=>kk b o (by simpa using hb) e) f0 f1 f3 f4 f5⟩
 self:=λA i s Q E st h=>hself A i s Q E st.2 h
section
variable{X:Cx}{a b c e:D0}{es:List D0}{te ta tb:TEd}{t:TAd}{pos:Pos}{tg iter:D0}
noncomputable def signs(x:Str):List D:=x.cps.toList.map λc=>.str ⟨#[c]⟩
theorem pj{af:List (A9×Obj)}{σ:St}{H:Hp}{s:A2}{x:Str}{t:Tok}{R:It->Hp->Prop}(I:Inv X af σ H s)(ty:String)(hn:["enumerate","zip","dict_itemiterator","dict_reverseitemiterator","odict_iterator","itertools.zip_longest","itertools.pairwise"].contains ty=false)
  (W:∀A:E7,A.handled=none->Walks X.prog X.w A s.heap.objs.size [s.heap.objs.size] [s.heap.objs.size] x.cps.size (SignAt x) (λi h=>h.IsStrIter s.heap.objs.size ty x t i))
  (hself:∀(A:E7) (i:Nat) (s':A2) (Q:A0->A2->Prop) (E:A0->A2->Prop),s'.heap.IsStrIter s.heap.objs.size ty x t i->Q (.ref s.heap.objs.size) s'->C1 (E2 X.prog X.w) A (pyIter (.ref s.heap.objs.size)) Q E s')
  (q:R (ItW x.cps.size λi v=>∃c,x.cps[i]?=some c/\v=.str ⟨#[c]⟩) H):PIE X af σ tg R (.ref s.heap.objs.size) { s with heap:=s.heap.push { cls:=.type ty,data:=.fields #[.str x t,.int 0 0] } }:=by
 have I1:Inv X af σ H { s with heap:=s.heap.push { cls:=.type ty,data:=.fields #[.str x t,.int 0 0] } }:=I.kept (t':=s.toks) λb o e=>A1 _ e;refine⟨s.heap.objs.size,[s.heap.objs.size],_,_,H,rfl,I1,qR W (λi h st=>?_) hn (λi u ⟨c,t',e,ev⟩=>⟨.str ⟨#[c]⟩,⟨t',ev⟩,c,e,rfl⟩) hself,⟨R8 _,_,C3 _ rfl,rfl,rfl⟩,λb hb=>?_,q⟩
 ·obtain⟨o,e,c,d⟩:=st;exact⟨o,e,c,_,d⟩
 ·have e:b=s.heap.objs.size:=by simpa using hb
  subst e;exact I.fpOk (B6 _) (I.hok.fresh (B6 _))
end
section
variable{X:Cx}{a b c e:D0}{es:List D0}{te ta tb:TEd}{t:TAd}{pos:Pos}
def eqF(x y:D):Option D:=if dLe x 60=true/\dLe y 60=true then some (.bl (eqD x y))else none
theorem tf{x y z:D}(h:eqF x y=some z):dLe x 60=true/\dLe y 60=true/\z=.bl (eqD x y):=by
 unfold eqF at h
 by_cases hc:dLe x 60=true/\dLe y 60=true
 ·rw[if_pos hc]at h;cases h;exact⟨hc.1,hc.2,rfl⟩
 ·rw[if_neg hc]at h;cases h
theorem cC(hu:X.A.units+64<ad6):br X (E3 .Eq) eqF:=by
 intro af s σ H M x y v u dx dy dz Q I hr rx ry r1 r2 e k;obtain⟨h1,h2,rfl⟩:=tf e;exact(rS I 60 (A:=X.A) (by lia) h1 h2 r1 r2 rx ry).2.1 X.prog X.w X.xe _ ⟨.bl (eqD dx dy),H,I,rfl,k _ H (Ext.refl _ _) hr (by simp[Rep])⟩
def inD(neg:Bool)(x y:D):Option D:=match y with
 |.lst ds=>if bb x=true/\ds.all bb=true then some (.bl (xor neg (ds.any λd=>eqD d x)))else none
 |.tup ds=>if bb x=true/\ds.all bb=true then some (.bl (xor neg (ds.any λd=>eqD d x)))else none
 |_=>none
theorem wn{K:u8}{M:DH}{H:Hp}{d:D}{v:V}(h:bb d=true)(r:Rep K M H d v):v=toV d/\e7 v=true:=by
 cases d<;>first|(simp only[Rep]at r;subst r;exact⟨rfl,rfl⟩)|cases h
theorem u0{x y:D}(hx:bb x=true)(hy:bb y=true):eqV (toV x) (toV y)=eqD x y:=by
 cases x<;>cases y<;>first|(simp[bb]at hx;done)|(simp[bb]at hy;done)|(simp[toV,eqV,eqD];done)
theorem eS{K:u8}{M:DH}{H:Hp}{x:D}(hx:bb x=true):∀{ds:List D}{vs:List V},aq K M H ds vs->ds.all bb=true->vs.all e7=true/\inV (toV x) vs=ds.any λd=>eqD d x
 |[],_,h,_=>by simp only[aq]at h;subst h;simp[inV]
 |d::ds,_,h,ha=>by
  simp only[aq]at h;obtain⟨v,ws,rfl,h3,h4⟩:=h;rw[U3,B8]at ha;obtain⟨e1,e2⟩:=wn ha.1 h3;obtain⟨e3,e4⟩:=eS hx h4 ha.2;subst e1;refine⟨by rw[U3,e2,e3];rfl,?_⟩;unfold inV at e4 ⊢;rw[P5,P5,e4,u0 ha.1 hx]
theorem aN.scal{K:u8}{M:DH}{H:Hp}{d:D}{v:V}(h:bb d=true)(r:aN K M H d v):v=toV d/\e7 v=true:=by
 cases d<;>first|(simp only[aN,Rep]at r;subst r;exact⟨rfl,rfl⟩)|cases h
theorem Ab:br X (E3 .In) (inD false):=br.of qS λH M x y dx dy dz Q hr r1 r2 e q=>by
 cases dy with
 |lst ds =>
  simp only[inD]at e
  by_cases hc:bb dx=true/\ds.all bb=true
  ·rw[if_pos hc]at e;cases e;obtain⟨l,vs,rfl,sq,rl⟩:=r2;obtain⟨e1,e2⟩:=aN.scal hc.1 r1;obtain⟨e3,e4⟩:=eS hc.1 rl hc.2;subst e1;refine⟨l,vs,rfl,.inl (SqL.of sq),e2,e3,q _ H (Ext.refl _ _) hr ?_⟩;rw[e4];simp[Rep]
  ·rw[if_neg hc]at e;cases e
 |tup ds =>
  simp only[inD]at e
  by_cases hc:bb dx=true/\ds.all bb=true
  ·rw[if_pos hc]at e;cases e;obtain⟨l,vs,rfl,sq,rl⟩:=r2;obtain⟨e1,e2⟩:=aN.scal hc.1 r1;obtain⟨e3,e4⟩:=eS hc.1 rl hc.2;subst e1;refine⟨l,vs,rfl,.inr sq,e2,e3,q _ H (Ext.refl _ _) hr ?_⟩;rw[e4];simp[Rep]
  ·rw[if_neg hc]at e;cases e
 |_=>cases e
theorem uR:br X (E3 .NotIn) (inD true):=br.of md λH M x y dx dy dz Q hr r1 r2 e q=>by
 cases dy with
 |lst ds =>
  simp only[inD]at e
  by_cases hc:bb dx=true/\ds.all bb=true
  ·rw[if_pos hc]at e;cases e;obtain⟨l,vs,rfl,sq,rl⟩:=r2;obtain⟨e1,e2⟩:=aN.scal hc.1 r1;obtain⟨e3,e4⟩:=eS hc.1 rl hc.2;subst e1;refine⟨l,vs,rfl,.inl (SqL.of sq),e2,e3,q _ H (Ext.refl _ _) hr ?_⟩;rw[e4];simp[Rep]
  ·rw[if_neg hc]at e;cases e
 |tup ds =>
  simp only[inD]at e
  by_cases hc:bb dx=true/\ds.all bb=true
  ·rw[if_pos hc]at e;cases e;obtain⟨l,vs,rfl,sq,rl⟩:=r2;obtain⟨e1,e2⟩:=aN.scal hc.1 r1;obtain⟨e3,e4⟩:=eS hc.1 rl hc.2;subst e1;refine⟨l,vs,rfl,.inr sq,e2,e3,q _ H (Ext.refl _ _) hr ?_⟩;rw[e4];simp[Rep]
  ·rw[if_neg hc]at e;cases e
 |_=>cases e
def oC(f:D->Option D):List D->Option D
 |[d]=>f d
 |_=>none
theorem nN{K:u8}{M:DH}{H:Hp}{d:D}{xs:List V}(h:R0 (aN K M H) [d] xs):∃v,xs=[v]/\aN K M H d v:=by
 cases h with
 |cons r t=>cases t;exact⟨_,rfl,r⟩
theorem dF{f:D->Option D}{ds:List D}{z:D}(h:oC f ds=some z):∃d,ds=[d]/\f d=some z:=by
 match ds,h with
 |[d],h=>exact⟨d,rfl,h⟩
noncomputable def qM:D->Option D
 |.tup ds=>some (.int ds.length)
 |.lst ds=>some (.int ds.length)
 |.scr ds=>some (.int ds.length)
 |.str x=>if x.length<=A4 then some (.int x.length)else none
 |_=>none
theorem ba:bQ X (.builtin "len") (oC qM):=bQ.of (cD.or mQ mn) λH M xs ds dz Q hr rp e q=>by
 obtain⟨d,rfl,e0⟩:=dF e;clear e;have e:=e0;clear e0;obtain⟨v,rfl,r⟩:=nN rp;cases d with
 |tup ds=>cases e;obtain⟨l,vs,rfl,sq,rl⟩:=r;exact .inl ⟨l,vs,rfl,.inr sq,q _ H (Ext.refl _ _) hr (by rw[<-rl.length];simp[Rep])⟩
 |lst ds=>cases e;obtain⟨l,vs,rfl,sq,rl⟩:=r;exact .inl ⟨l,vs,rfl,.inl (SqL.of sq),q _ H (Ext.refl _ _) hr (by rw[<-rl.length];simp[Rep])⟩
 |scr ds=>cases e;obtain⟨l,vs,rfl,sq,rl⟩:=r;exact .inl ⟨l,vs,rfl,.inl sq,q _ H (Ext.refl _ _) hr (by rw[<-rl.length];simp[Rep])⟩
 |str x =>
  simp only[qM]at e
  by_cases hz:x.length<=A4
  ·rw[if_pos hz]at e;cases e;exact .inr ⟨x,by rw[km r],hz,q _ H (Ext.refl _ _) hr (by simp[Rep])⟩
  ·rw[if_neg hz]at e;cases e
 |_=>cases e
def yE:D->Option D
 |.int i=>some (.int (if i<0 then -i else i))
 |_=>none
theorem zB:bQ X (.builtin "abs") (oC yE):=bQ.of sA λH M xs ds dz Q hr rp e q=>by
 obtain⟨d,rfl,e0⟩:=dF e;clear e;have e:=e0;clear e0;obtain⟨v,rfl,r⟩:=nN rp;cases d with
 |int i=>cases e;exact⟨i,by rw[fA r],q _ H (Ext.refl _ _) hr (by simp[Rep])⟩
 |_=>cases e
def w9:D->Option D
 |.lst ds=>some (.tup ds)
 |.tup ds=>some (.tup ds)
 |_=>none
theorem jd:bQ X (.type "tuple") (oC w9):=bQ.of kz λH M xs ds dz Q hr rp e q=>by
 obtain⟨d,rfl,e0⟩:=dF e;clear e;have e:=e0;clear e0;obtain⟨v,rfl,r⟩:=nN rp;cases d with
 |lst ds=>cases e;obtain⟨l,vs,rfl,sq,rl⟩:=r;exact⟨l,vs,rfl,.inl ⟨SqL.of sq,λp hp=>jy hr hp rl q⟩⟩
 |tup ds=>cases e;have t1:=aN.tup hr r;obtain⟨l,vs,rfl,sq,rl⟩:=r;exact⟨l,vs,rfl,.inr ⟨sq,q _ H (Ext.refl _ _) hr t1⟩⟩
 |_=>cases e
def yC:D->Option D
 |.lst ds=>some (.lst ds)
 |.scr ds=>some (.lst ds)
 |.tup ds=>some (.lst ds)
 |_=>none
theorem sX:bQ X (.type "list") (oC yC):=bQ.of gG λH M xs ds dz Q hr rp e q=>by
 obtain⟨d,rfl,e0⟩:=dF e;clear e;have e:=e0;clear e0;obtain⟨v,rfl,r⟩:=nN rp;cases d with
 |lst ds=>cases e;obtain⟨l,vs,rfl,sq,rl⟩:=r;exact⟨l,vs,rfl,.inl (SqL.of sq),λp hp=>gq hr hp rl q⟩
 |scr ds=>cases e;obtain⟨l,vs,rfl,sq,rl⟩:=r;exact⟨l,vs,rfl,.inl sq,λp hp=>gq hr hp rl q⟩
 |tup ds=>cases e;obtain⟨l,vs,rfl,sq,rl⟩:=r;exact⟨l,vs,rfl,.inr sq,λp hp=>gq hr hp rl q⟩
 |_=>cases e
def uk:D->Bool
 |.bl _=>true
 |_=>false
def rE:D->Bool
 |.bl b=>b
 |_=>false
def ur:D->Option D
 |.lst ds=>if ds.all uk=true then some (.bl (ds.all rE))else none
 |_=>none
theorem qF{p:Nat->Bool}{q:D->Bool}:∀{ds:List D},(∀i d,ds[i]?=some d->p i=q d)->(N8 ds.length).all p=ds.all q:=by
 intro ds h;rw[Q8,L6,L6];constructor
 ·intro hh d hd;obtain⟨i,hi,e⟩:=List.mem_iff_getElem.mp hd;rw[<-h i d (by rw[C4 hi,e])];exact hh i (X6.mpr hi)
 ·intro hh i hi;have hi:=X6.mp hi;rw[h i ds[i] (by simp[hi])];exact hh _ (N4 hi)
theorem tD{K:u8}{M:DH}{H:Hp}{ds:List D}{vs:List V}{us:List A0}(rl:aq K M H ds vs)(rv:aB vs us)(hb:ds.all uk=true){i:Nat}{u:A0}(h:us[i]?=some u):∃d,ds[i]?=some d/\u=.bool (rE d):=by
 have hi:i<ds.length:=by rw[rl.length,rv.length];exact(A7.mp h).1
 obtain⟨v,g,r⟩:=rl.get (i:=i) (d:=ds[i]) (by simp[hi]);obtain⟨u',g',r'⟩:=rv.get g;rw[h]at g';cases g';have hbi:=L6.mp hb ds[i] (N4 hi);refine⟨ds[i],by simp[hi],?_⟩;cases q:ds[i]with
 |bl b=>rw[q]at r;simp only[Rep]at r;subst r;exact r'
 |_=>rw[q]at hbi;cases hbi
theorem pD(hc:X.calm=true):bQ X (.builtin "all") (oC ur):=by
 intro af s σ H M xs us ds dz Q I hr rv rp e k;obtain⟨d,rfl,e0⟩:=dF e;clear e;have e:=e0;clear e0;obtain⟨v,rfl,r⟩:=nN rp;obtain⟨u,rfl,ru⟩:=aB.one rv;cases d with
 |lst ds =>
  simp only[ur]at e
  by_cases hb:ds.all uk=true
  ·rw[if_pos hb]at e;cases e;obtain⟨l,vs,rfl,sq,rl⟩:=r;cases ru;obtain⟨its,rv,pl,hz⟩:=I.list (SqL.of sq);have hne:l≠s.heap.objs.size:=E4 (I.hok.lt sq);refine call_all_walk (wpAny_pyIter_list pl.isList ⟨s.heap.objs.size,[s.heap.objs.size,l],[s.heap.objs.size],its.toArray.size,_,_,λi=>(ds[i]?.map rE).getD false,rfl,Walks.list (A:=X.A.in1) (show X.A.in1.handled=none from I.ok.hd hc) s.heap.objs.size l hne its.toArray,⟨⟨_,C3 _ rfl,rfl,rfl⟩,?_⟩,λi v s' Q' E' hv q=>?_,λh' tk kk=>?_⟩)
   ·obtain⟨o,e,c⟩:=pl.isList;exact⟨o,A1 _ e,c⟩
   ·obtain⟨d,hd,rfl⟩:=tD rl rv hb (i:=i) (u:=v) (by simpa using hv);dsimp only at q;rw[hd]at q;exact K5 q
   ·have I1:Inv X af σ H { s with heap:=h',toks:=tk }:=I.kept (t':=tk) λb o e=>kk b o (by simpa using E4 (B4 e)) (A1 _ e);refine⟨.bl _,H,I1,rfl,k _ H (Ext.refl _ _) hr ?_⟩;rw[A6,<-rv.length,<-rl.length,qF (q:=rE) (λi d hd=>by simp[hd])];simp[Rep]
  ·rw[if_neg hb]at e;cases e
 |_=>cases e
end
section
variable{X:Cx}{a b c e:D0}{es:List D0}{te ta tb:TEd}{t:TAd}{pos:Pos}
noncomputable def uO(T:String):D->Option Bool
 |.non=>some false
 |.bl _=>some (T=="bool" || T=="int")
 |.int _=>some (T=="int")
 |.str _=>some (T=="str")
 |.tup _=>some (T=="tuple")
 |.lst _=>some (T=="list")
 |.emp=>some (T=="dict")
 |_=>none
def okT(T:String):Bool:=T=="bool" || T=="int" || T=="str" || T=="tuple" || T=="list"
def yd(T:String)(te:TEd):TEd:=λΔ M Q=>te Δ M λd M1=>∃k,uO T (rdM M1 d)=some k/\Q (.bl k) M1
theorem ql{T:String}(hT:okT T=true){af:List (A9×Obj)}{s:A2}{σ:St}{H:Hp}{M:DH}{v:V}{u:A0}{d:D}{k:Bool}{Q:VK}(I:Inv X af σ H s)(r:aL v u)(rd:aN X.K M H d v)(e:uO T d=some k)(q:Q (.bl k) H):
  C1 (E2 X.prog X.w) X.A (call (.builtin "isinstance") [u,.type T]) (EP X af σ Q) X.xe s:=by
 have fin:∀{k'} ,k=k'->EP X af σ Q (.bool k') s:=λe=>by subst e;exact⟨.bl k,H,I,rfl,q⟩
 have fint:∀{k'} ,k=k'->EP X af σ Q (.bool k') { s with toks:=s.toks+1 }:=λe=>by subst e;exact⟨.bl k,H,I.tok _,rfl,q⟩
 have h5:T="bool"∨T="int"∨T="str"∨T="tuple"∨T="list":=by
  simp[okT]at hT;rcases hT with(((h|h)|h)|h)|h<;>simp[h]
 cases d with
 |non =>
  simp only[aN,Rep]at rd;subst rd;simp only[aL]at r;subst r;cases e;rcases h5 with rfl|rfl|rfl|rfl|rfl
  ·exact IsiPair.NoneType_bool (fint rfl)
  ·exact IsiPair.NoneType_int (fint rfl)
  ·exact IsiPair.NoneType_str (fint rfl)
  ·exact IsiPair.NoneType_tuple (fint rfl)
  ·exact IsiPair.NoneType_list (fint rfl)
 |bl b =>
  simp only[aN,Rep]at rd;subst rd;simp only[aL]at r;subst r;cases e;rcases h5 with rfl|rfl|rfl|rfl|rfl
  ·exact IsiPair.bool_bool (fin rfl)
  ·exact IsiPair.bool_int (fin rfl)
  ·exact IsiPair.bool_str (fint rfl)
  ·exact IsiPair.bool_tuple (fint rfl)
  ·exact IsiPair.bool_list (fint rfl)
 |int i =>
  simp only[aN,Rep]at rd;subst rd;obtain⟨t,rfl⟩:=r;cases e;rcases h5 with rfl|rfl|rfl|rfl|rfl
  ·exact IsiPair.int_bool (fint rfl)
  ·exact IsiPair.int_int (fin rfl)
  ·exact IsiPair.int_str (fint rfl)
  ·exact IsiPair.int_tuple (fint rfl)
  ·exact IsiPair.int_list (fint rfl)
 |str x =>
  simp only[aN,Rep]at rd;subst rd;obtain⟨t,rfl⟩:=r;cases e;rcases h5 with rfl|rfl|rfl|rfl|rfl
  ·exact IsiPair.str_bool (fint rfl)
  ·exact IsiPair.str_int (fint rfl)
  ·exact IsiPair.str_str (fin rfl)
  ·exact IsiPair.str_tuple (fint rfl)
  ·exact IsiPair.str_list (fint rfl)
 |tup ds =>
  obtain⟨a,vs,rfl,sq,rl⟩:=rd;cases r;cases e;obtain⟨its,rv,⟨o,ho,hc,_⟩,_⟩:=I.tuple sq;rcases h5 with rfl|rfl|rfl|rfl|rfl
  ·exact IsiPair.tuple_bool ho hc (fint rfl)
  ·exact IsiPair.tuple_int ho hc (fint rfl)
  ·exact IsiPair.tuple_str ho hc (fint rfl)
  ·exact IsiPair.tuple_tuple ho hc (fin rfl)
  ·exact IsiPair.tuple_list ho hc (fint rfl)
 |lst ds =>
  obtain⟨a,vs,rfl,sq,rl⟩:=rd;cases r;cases e;obtain⟨its,rv,⟨o,n,ho,hc,_⟩,_⟩:=I.list (SqL.of sq);rcases h5 with rfl|rfl|rfl|rfl|rfl
  ·exact IsiPair.list_bool ho hc (fint rfl)
  ·exact IsiPair.list_int ho hc (fint rfl)
  ·exact IsiPair.list_str ho hc (fint rfl)
  ·exact IsiPair.list_tuple ho hc (fint rfl)
  ·exact IsiPair.list_list ho hc (fin rfl)
 |emp =>
  simp only[aN,Rep]at rd;obtain⟨a,rfl,h1,_⟩:=rd;cases r;cases e;obtain⟨_,_,_,_,o,es,ep,ho,ex,_⟩:=I.hok a _ h1;rcases h5 with rfl|rfl|rfl|rfl|rfl
  ·exact IsiPair.dict_bool ho ex.1 (fint rfl)
  ·exact IsiPair.dict_int ho ex.1 (fint rfl)
  ·exact IsiPair.dict_str ho ex.1 (fint rfl)
  ·exact IsiPair.dict_tuple ho ex.1 (fint rfl)
  ·exact IsiPair.dict_list ho ex.1 (fint rfl)
 |_=>cases e
abbrev TOd:=DE->DH->(Option Int->DH->Prop)->Prop
def upO(K:u8)(t:TOd):TO:=λσ H Q=>∃(Δ:DE) (M:DH) (R:Option Int->DH->Prop),SR K M H σ Δ/\HR K M H/\t Δ M R/\∀i M' H',R i M'->Ext M H M' H'->HR K M' H'->Q i H'
theorem upO.el{K:u8}{t:TOd}{σ:St}{H:Hp}{Q:Option Int->Hp->Prop}{P:Prop}(h:upO K t σ H Q)(f:∀(Δ:DE) (M:DH) (R:Option Int->DH->Prop),SR K M H σ Δ->HR K M H->t Δ M R->(∀i M' H',R i M'->Ext M H M' H'->HR K M' H'->Q i H')->P):P:=by
 obtain⟨x1,x2,x3,a,b,c,d⟩:=h;exact f x1 x2 x3 a b c d
def POd(X:Cx)(e:Option D0)(t:TOd):Prop:=PO X e (upO X.K t)
def l6:TOd:=λ_ M Q=>Q none M
def sO(t:TEd):TOd:=λΔ M Q=>t Δ M λd M1=>∃i,d=.int i/\Q (some i) M1
theorem PO.conv{e:Option D0}{t t':TO}(h:PO X e t)(k:∀ σ H Q,t' σ H Q->t σ H Q):PO X e t':=λp s σ H Q I q=>h p s σ H Q I (k σ H Q q)
theorem uF:POd X none l6:=uE.conv λσ H Q hup=>hup.el λΔ M R sr hr q k=>k none M H q (Ext.refl _ _) hr
theorem ug(h:PEd X e te):POd X (some e) (sO te):=(tV h).conv λσ H Q hup=>hup.el λΔ M R sr hr q k=>⟨Δ,M,_,sr,hr,q,λd M1 v H1 ⟨i,ed,q1⟩ e1 hr1 rv=>⟨i,by subst ed;simpa only[Rep]using rv,k _ M1 H1 q1 e1 hr1⟩⟩
def bP(xs:List D)(lo hi:Option Int):List D:=(xs.drop (HT.sIx xs.length 0 lo)).take (HT.sIx xs.length xs.length hi-HT.sIx xs.length 0 lo)
def slD:D->Option Int->Option Int->Option D
 |.lst ds,lo,hi=>some (.lst (bP ds lo hi))
 |.scr ds,lo,hi=>some (.lst (bP ds lo hi))
 |.str x,lo,hi=>if x.length<=A4 then some (.str (W3 x lo hi))else none
 |.tup ds,lo,hi=>if HT.sIx ds.length 0 lo=0/\HT.sIx ds.length ds.length hi=ds.length then none else some (.tup (bP ds lo hi))
 |_,_,_=>none
def z7:V->Option Int->Option Int->Hp->VK->Prop:=λx lo hi H Q=>∃z,x=.str z/\z.length<=A4/\Q (.str (W3 z lo hi)) H
theorem xj:SlR X z7:=by
 intro af s σ H x v vl vu lo hi sl Q I rx hs pl pu h;obtain⟨z,rfl,hz,q⟩:=h;obtain⟨t,rfl⟩:=rx;refine⟨"str",_,PySem.F.slot_str_getitem.lookup,typeIs_str _ _ _,?_⟩;have fin:∀(t':Tok) (k:Nat),EP X af σ Q (.str (W3 z lo hi) t') { s with toks:=k }:=λt' k=>⟨.str (W3 z lo hi),H,I.tok _,⟨t',rfl⟩,q⟩;cases pl with
 |none =>
  cases pu with
  |none=>exact R9 (l:=none) (u:=none) (st:=none) hs rfl (W4 ⟨H0 (ab0 z _ _) hz,fin⟩)
  |int j tj=>exact R9 (l:=none) (u:=some (j,tj)) (st:=none) hs rfl (W4 ⟨H0 (ab0 z _ _) hz,fin⟩)
 |int i ti =>
  cases pu with
  |none=>exact R9 (l:=some (i,ti)) (u:=none) (st:=none) hs rfl (W4 ⟨H0 (ab0 z _ _) hz,fin⟩)
  |int j tj=>exact R9 (l:=some (i,ti)) (u:=some (j,tj)) (st:=none) hs rfl (W4 ⟨H0 (ab0 z _ _) hz,fin⟩)
end
def bW(names:List (Str×J6))(cells:List (Str×A9)):List (Str×A9):=(names.filterMap λy=>if y.2==.free then(cells.lookup y.1).map λc=>(y.1,c)else none).reverse
noncomputable def dI(env:Env)(y:Str×J6)(cs:List (Str×A9)):Sem (ForInStep (List (Str×A9))):=if(y.2==.free)=true then(do let c <-cellOf env y.1;V1 (L3 ((y.1,c)::cs)))else V1 (L3 cs)
theorem iy{env:Env}:∀(names:List (Str×J6)) (acc:List (Str×A9)),(∀y∈names,y.2=.free->(env.cells.lookup y.1).isSome=true) ->
  (forIn names acc (dI env):Sem (List (Str×A9)))=V1 (bW names env.cells++acc)
 |[],acc,_=>by simp[bW]
 |y::r,acc,h=>by
  rw[List.forIn_cons]
  by_cases hk:(y.2==M8)=true
  ·have hs:=h y J5 (by simpa using hk);obtain⟨c,hc⟩:=Option.isSome_iff_exists.mp hs;have e1:dI env y acc=V1 (L3 ((y.1,c)::acc)):=by
    unfold dI cellOf;rw[if_pos hk,hc];simp only[ad8]
   rw[e1];simp only[ad8];rw[iy r ((y.1,c)::acc) λy hy=>h y (C7 _ hy)];have e2:bW (y::r) env.cells=bW r env.cells++[(y.1,c)]:=by
    unfold bW;rw[O2,if_pos hk,hc];simp
   rw[e2];simp
  ·have e1:dI env y acc=V1 (L3 acc):=by
    unfold dI;rw[if_neg hk]
   rw[e1];simp only[ad8];rw[iy r acc λy hy=>h y (C7 _ hy)];have e2:bW (y::r) env.cells=bW r env.cells:=by
    unfold bW;rw[O2,if_neg hk]
   rw[e2]
theorem uq{scope:T8}{env:Env}(h:∀y∈scope.names,y.2=.free->(env.cells.lookup y.1).isSome=true):closureFor scope env=V1 (bW scope.names env.cells):=by
 have:=iy (env:=env) scope.names [] h;simp only[M9]at this;show(forIn scope.names [] (dI env) >>= λcs=>V1 cs)=_;rw[this];simp only[ad8]
theorem sk{cells:List (Str×A9)}{names:List (Str×J6)}{x:Str}{c:A9}(h:(bW names cells).lookup x=some c):cells.lookup x=some c:=by
 have hm:=J7 h;unfold bW at hm;rw[List.mem_reverse,P2]at hm;obtain⟨y,_,e⟩:=hm
 split at e
 ·cases q:cells.lookup y.1 with
  |none=>rw[q]at e;cases e
  |some c'=>rw[q]at e;cases e;exact q
 ·cases e
theorem cM:∀{l:List (Str×A9)}{x:Str}{c:A9},(x,c)∈l->∃c',l.lookup x=some c'
 |(y,d)::l,x,c,h=>by
  rw[F1];cases q:x==y with
  |true=>exact⟨d,by simp⟩
  |false =>
   rcases B9.mp h with e|h
   ·cases e;simp at q
   ·simpa using cM h
theorem rL{cells:List (Str×A9)}{names:List (Str×J6)}{x:Str}(h:names.lookup x=some .free)(hs:(cells.lookup x).isSome=true):∃c,(bW names cells).lookup x=some c:=by
 obtain⟨c,hc⟩:=Option.isSome_iff_exists.mp hs;refine cM (c:=c) ?_;unfold bW;rw[List.mem_reverse,P2];exact⟨(x,.free),J7 h,by simp[hc]⟩
noncomputable def cW(fs:T8)(N:List Str)(scope:T8)(ms:List Bool):Bool :=
 scope.kind==.function&&scope.names.all (λy=>y.2 != .cell)&&scope.names.all (λy=>y.2 != .local || scope.names.lookup y.1==some .local) &&
 scope.names.all (λy=>y.2 != .free || fs.names.lookup y.1==some .cell)&&(ms.zip N).all (λy=>!y.1 || scope.names.lookup y.2==some .free)&&decide (ms.length<=N.length)
theorem cK{X:Cx}{scope:T8}{ms:List Bool}{ay:List Str}{n0:Nat}(hX:X.env.cells=ad7 n0 X.env.scope.names [])(c:cW X.env.scope X.N scope ms=true):fm X scope (bW scope.names X.env.cells) ms ay:=by
 unfold cW at c;simp only[B8,L6,decide_eq_true_eq]at c;obtain⟨⟨⟨⟨⟨c1,c2⟩,c3⟩,c4⟩,c5⟩,c6⟩:=c;have fr:∀x,(x,M8)∈scope.names->X.env.scope.names.lookup x=some .cell:=λx hx=>by
  have:=c4 _ hx;simpa using this
 have cs:∀x,(x,M8)∈scope.names->(X.env.cells.lookup x).isSome=true:=λx hx=>by
  rw[hX];exact PySem.W.cellsFrom_some _ _ _ (.inl (fr x hx))
 refine⟨by simpa using c1,λy hy e=>?_,λy hy e=>?_,uq λy hy e=>?_,λx c h=>sk h,λx h=>rL h (cs x (J7 h)),λx h=>.inl (fr x (J7 h)),λi x h1 h2=>?_,c6⟩
 ·have:=c2 y hy;rw[e]at this;simp at this
 ·have:=c3 y hy;simpa[e]using this
 ·obtain⟨a,b⟩:=y;cases e;exact cs a hy
 ·have:=c5 (true,x) (by
   rw[List.mem_iff_getElem?];exact⟨i,by rw[List.getElem?_zip_eq_some];exact⟨h1,h2⟩⟩)
  simpa using this
structure FnD(P:C6) (w:J1) (K:u8) (mg:Str->Option A0) (base:D6) (x:Str) (k n:Nat) (S:SpD):Prop where
 ex:∃(f:A9) (fd:B2) (ps:List Str),aK P w K mg base CX0 k f fd ps (spD K n S)/\mg x=some (.ref f)/\K3 K (.ref f)=true/\bS K fd ps []
section
variable{X:Cx}{e:D0}{es:List D0}{t:TAd}{pos p:Pos}{x:Str}{k n:Nat}{S:SpD}
theorem dc(F:FnD X.prog X.w X.K X.mg X.base x k n S)(hr:bw k X.A)(hg:Gl X x)(ha:PAd X (e::es) t)(hdb:(x==("__debug__":Str))=false:=by decide)(he:B1 (e::es) X.env=(false,S7 e X.env)::B1 es X.env:=by rfl)(hpl:(Q4 pos (B1 es X.env)).any (·.1)=false:=by rfl):
  PEd X (.Call (.Name x p) (e::es) [] pos) (ow n S t):=by
 obtain⟨f,fd,ps,h1,h2,h3,h4⟩:=F.ex;exact xy h1 hr hg h2 h3 h4 ha hdb he hpl
end
section
variable{X:Cx}{a b c e:D0}{es:List D0}{te ta tb:TEd}{t:TAd}{pos:Pos}{tg iter:D0}
def vP(te:TEd):TSd:=λE Δ M=>te Δ M λd M1=>∃a ds,d=.ref a/\M1 a=some (.lst ds)/\E.rt (.lst ds) (jr M1 a)
theorem wJ:br X (ad4 .Add) (iOp λi j=>some (.int (i+j))):=by
 intro af s σ H M x y v u dx dy dz Q I hr rx ry r1 r2 e k;obtain⟨i,j,rfl,rfl,e'⟩:=jE e;cases e';exact xK af s σ H x y v u Q I rx ry ⟨i,j,fA r1,fA r2,k _ H (Ext.refl _ _) hr (by simp[Rep])⟩
theorem nu:zd X (unaryOp .USub) (λd=>match d with|.int i=>some (.int (-i))|_=>none):=by
 intro af s σ H M x v dx dz Q I hr rx r1 e k;cases dx with
 |int i=>cases e;exact xY af s σ H x v Q I rx ⟨i,fA r1,k _ H (Ext.refl _ _) hr (by simp[Rep])⟩
 |_=>cases e
def gr:D->Option (List D)
 |.tup ds=>some ds
 |.lst ds=>some ds
 |.scr ds=>some ds
 |.str x=>if x.length<=A4 then some (signs x)else none
 |_=>none
def vE(te:TEd):TId:=λΔ M R=>te Δ M λd M1=>∃ds,gr d=some ds/\(ds.length<=A4->R ds M1)
theorem oE{af:List (A9×Obj)}{σ:St}{H:Hp}{s:A2}{o:Obj}(I:Inv X af σ H s):∀b∈[s.heap.objs.size],dB X af H b:=λb hb=>by
 have e:b=s.heap.objs.size:=by simpa using hb
 subst e;exact I.fpOk (B6 _) (I.hok.fresh (B6 _))
theorem wH{K:u8}{x:Str}{M1:DH}{H1:Hp}:ItD K (ItW x.cps.size λi v=>∃c,x.cps[i]?=some c/\v=.str ⟨#[c]⟩) (signs x) M1 H1:=λM2 H2 e2 hr2 i=>⟨λd hd=>by
  unfold signs at hd;rw[K6]at hd;cases q:x.cps.toList[i]? with
  |none=>rw[q]at hd;cases hd
  |some c =>
   rw[q]at hd;cases hd;have hc:x.cps[i]?=some c:=by simpa using q
   refine⟨?_,λy H' ⟨eH,c',hc',ey⟩=>?_⟩
   ·exact(K1.mp hc).1
   ·subst eH;subst ey;rw[hc]at hc';cases hc';exact⟨Ext.refl _ _,hr2,by simp[Rep]⟩,λhl=>by
  show x.cps.size<=i;simpa[signs]using hl⟩
end
section
variable{M:DH}
theorem vy{i:Int}:rdM M (.int i)=.int i:=rfl
theorem xb{i:Bool}:rdM M (.bl i)=.bl i:=rfl
theorem uX{i:Str}:rdM M (.str i)=.str i:=rfl
theorem ud:rdM M .non=.non:=rfl
theorem u6{i:List D}:rdM M (.tup i)=.tup i:=rfl
theorem vt{i:List D}:rdM M (.lst i)=.lst i:=rfl
theorem uZ{i:List D}:rdM M (.scr i)=.scr i:=rfl
theorem jj{a:A9}{ds:List D}(h:M a=some (.lst ds)):rdM M (.ref a)=.lst ds:=by simp[rdM,h]
theorem uM{a:A9}{ds:List D}:rdM (bt M a (.lst ds)) (.ref a)=.lst ds:=jj fO
theorem wj{f:Int->Int->Option D}{a b:Int}:iOp f (.int a) (.int b)=f a b:=rfl
theorem uB{a b:Int}:i7 (.int a) (.int b)=some (.int (a+b)):=rfl
theorem pY{a b:Str}:i7 (.str a) (.str b)=if a.length+b.length<=A4 then some (.str (a++b))else none:=rfl
theorem u4{a b:List D}:i7 (.lst a) (.lst b)=if a.length+b.length<=A4 then some (.lst (a++b))else none:=rfl
theorem uP{a b:List D}:i7 (.tup a) (.tup b)=if a.length+b.length<=A4 then some (.tup (a++b))else none:=rfl
theorem yj{a:List D}{b:Int}:ixD (.lst a) (.int b)=atI a b:=rfl
theorem yK{a:List D}{b:Int}:ixD (.scr a) (.int b)=atI a b:=rfl
theorem yv{a:List D}{b:Int}:ixD (.tup a) (.int b)=atI a b:=rfl
theorem vF{z:Str}{i:Int}:ixD (.str z) (.int i)=if z.length<=A4 then(atI z.cps.toList i).map λc=>.str ⟨#[c]⟩else none:=rfl
theorem kZ{α:Type}{x:α}{xs:List α}:atI (x::xs) 0=some x:=bp (j:=0) rfl
theorem vO{α:Type}{x y:α}{xs:List α}:atI (x::y::xs) 1=some y:=bp (j:=1) rfl
theorem jW{α:Type}{x y z:α}{xs:List α}:atI (x::y::z::xs) 2=some z:=bp (j:=2) rfl
theorem sy{f:D->Option D}{d:D}:oC f [d]=f d:=rfl
theorem vW{a:List D}:qM (.lst a)=some (.int a.length):=rfl
theorem wx{a:List D}:qM (.tup a)=some (.int a.length):=rfl
theorem xM{a:List D}:qM (.scr a)=some (.int a.length):=rfl
theorem wo{x:Str}:qM (.str x)=if x.length<=A4 then some (.int x.length)else none:=rfl
theorem xU{i:Int}:yE (.int i)=some (.int (if i<0 then -i else i)):=rfl
theorem xX{a:List D}:w9 (.lst a)=some (.tup a):=rfl
theorem wX{a:List D}:w9 (.tup a)=some (.tup a):=rfl
theorem yP{b:Bool}{x:D}{ds:List D}:inD b x (.lst ds)=if bb x=true/\ds.all bb=true then some (.bl (xor b (ds.any λd=>eqD d x)))else none:=rfl
theorem yc{b:Bool}{x:D}{ds:List D}:inD b x (.tup ds)=if bb x=true/\ds.all bb=true then some (.bl (xor b (ds.any λd=>eqD d x)))else none:=rfl
theorem xS{a b:Int}:eqF (.int a) (.int b)=some (.bl (a==b)):=by simp[eqF,dLe,eqD]
theorem wU{a b:Str}:eqF (.str a) (.str b)=some (.bl (a==b)):=by simp[eqF,dLe,eqD]
theorem wL{a b:Bool}:eqF (.bl a) (.bl b)=some (.bl (a==b)):=by simp[eqF,dLe,eqD]
theorem zb{ds:List D}{lo hi:Option Int}:slD (.scr ds) lo hi=some (.lst (bP ds lo hi)):=rfl
theorem zx{ds:List D}{lo hi:Option Int}:slD (.lst ds) lo hi=some (.lst (bP ds lo hi)):=rfl
theorem zm{x:Str}{lo hi:Option Int}:slD (.str x) lo hi=if x.length<=A4 then some (.str (W3 x lo hi))else none:=rfl
theorem tN{a:List D}:gr (.lst a)=some a:=rfl
theorem tS{a:List D}:gr (.tup a)=some a:=rfl
theorem sx{a:List D}:gr (.scr a)=some a:=rfl
theorem sm{x:Str}:gr (.str x)=if x.length<=A4 then some (signs x)else none:=rfl
theorem zK{n:Nat}:ixN (n+1) 0=some 0:=by simp[ixN]<;>omega
theorem y3{n:Nat}:ixN (n+2) 1=some 1:=by simp[ixN]<;>omega
theorem yf{n:Nat}:ixN (n+3) 2=some 2:=by simp[ixN]<;>omega
theorem sz3(n:Nat)(h:n<=1000:=by decide):n<=A4:=H0 h (by decide)
theorem wb{b:Bool}:uO "bool" (.bl b)=some true:=rfl
end
end L2
namespace L2
theorem yw{i j:Int}(h:-18446744073709551616<j/\j<18446744073709551616):iH i j=True:=by unfold iH;simp;right;omega
theorem zg{i j:Int}(h:-18446744073709551616<i/\i<18446744073709551616):iH i j=True:=by unfold iH;simp;left;omega
theorem rZ:kO 10 18=True:=by simp[kO]
theorem zo{i j:Int}(h:0<j/\j<1073741824):mU i j=True:=by unfold mU;simp[h]
end L2
namespace L2
open PySem PySem.Spec PyProof.Rows
theorem cP{g:GD}{tc:TTd}{te:TEd}{M:DH}{Q:List D->DH->Prop}(b:D->Bool)(y:D->D)(Ok:DE->Prop):∀(ds:List D) (Δ:DE) (acc:List D),
  (∀d∈ds,∀ Δ,Ok Δ->∃ Δ',g d Δ=some Δ'/\Ok Δ'/\(∀Q1:Bool->DH->Prop,Q1 (b d) M->tc Δ' M Q1)/\(b d=true->∀Q2:D->DH->Prop,Q2 (y d) M->te Δ' M Q2))->Ok Δ ->
  Q (acc++(ds.filter b).map y) M->cO g tc te ds Δ M acc Q
 |[],Δ,acc,_,_,q=>by simpa[cO]using q
 |d::ds,Δ,acc,h,hΔ,q=>by
  simp only[cO];obtain⟨Δ',eg,ok,h1,h2⟩:=h d J5 Δ hΔ;refine⟨Δ',eg,h1 _ ?_⟩;have hr:∀d∈ds,∀ Δ,Ok Δ->∃ Δ',g d Δ=some Δ'/\Ok Δ'/\(∀Q1:Bool->DH->Prop,Q1 (b d) M->tc Δ' M Q1)/\(b d=true->∀Q2:D->DH->Prop,Q2 (y d) M->te Δ' M Q2):=λx hx=>h x (C7 _ hx);cases hb:b d with
  |true =>
   simp only[if_true];refine h2 hb _ (cP b y Ok ds Δ' (acc++[y d]) hr ok ?_);simpa[J8,hb]using q
  |false =>
   simp only[B0,if_false];refine cP b y Ok ds Δ' acc hr ok ?_;simpa[J8,hb]using q
theorem uv{a b:Str}:eqD (.str a) (.str b)=(a==b):=by simp[eqD]
theorem bJ{x:Str}:∀{ws:List Str},(ws.map D.str).any (λd=>eqD d (.str x))=decide (x∈ws)
 |[]=>by simp
 |w::ws=>by
  rw[J0,P5,bJ (ws:=ws),uv]
  by_cases h:w=x
  ·subst h;simp
  ·have h2:(w==x)=false:=by simpa using h
   have h3:¬ x=w:=λe=>h e.symm;simp[h2,h3]
theorem bZ{ws:List Str}:(ws.map D.str).all bb=true:=by
 induction ws with
 |nil=>rfl
 |cons w ws ih=>rw[J0,U3,ih];rfl
section
variable{X:Cx}{e:D0}{te:TEd}{pos:Pos}
def vQ(te:TEd):TSd:=λE Δ M=>te Δ M λd M1=>∃M2,LeM M2 M1/\E.rt d M2
theorem je{M:DH}{q:A9}{o:HD}(h:M q=none):LeM M (bt M q o):=λa u e=>by
 by_cases ha:a=q
 ·subst ha;rw[h]at e;cases e
 ·rw[jg ha];exact e
end
end L2
namespace L2
open PySem PySem.Spec PyProof.Rows PySem.Builtin.Str
def tx(cs:List Nat):Str:=⟨cs.toArray⟩
theorem wa{a b:List Nat}:tx a=tx b↔a=b:=by
 unfold tx;constructor
 ·intro h;injection h with h;simpa using congrArg Array.toList h
 ·intro h;rw[h]
theorem cY(cs:List Nat):(tx cs).cps.toList=cs:=by simp[tx]
theorem dn(cs:List Nat):(tx cs).length=cs.length:=by show(tx cs).cps.size=_;simp[tx]
theorem sL(a b:List Nat):tx a++tx b=tx (a++b):=by
 show Str.mk (a.toArray++b.toArray)=_;simp[tx]
theorem yg:(D3 "":Str)=tx []:=by decide +kernel
theorem qY{x:Array Nat}:∀k,k<=x.size->(N8 k).filterMap (x[·]?)=x.toList.take k:=by
 intro k
 induction k with
 |zero=>intro _;simp
 |succ k ih =>
  intro h;rw[List.range_succ,List.filterMap_append,ih (by lia)];have hk:x[k]?=some x[k]:=by simp[show k<x.size by lia]
  rw[List.take_add_one];simp[hk,show k<x.size by lia]
theorem oA(cs:List Nat)(k:Nat):W3 (tx cs) none (some (k:Int))=tx (cs.take k):=by
 have hi:strSliceIndices none (some (k:Int)) 1 (tx cs).length=N8 (min k cs.length):=by
  unfold strSliceIndices sliceRange;rw[dn];have h1:(max 0 (min (if(k:Int)<0 then(k:Int)+(cs.length:Int)else(k:Int)) (cs.length:Int)))=((min k cs.length:Nat):Int):=by
   rw[if_neg (by lia)];lia
  simp only[show(1:Int) > 0 by decide,if_true];rw[h1];have h2:(if(0:Int)<((min k cs.length:Nat):Int)then(((min k cs.length:Nat):Int)-0+1-1) / 1 else 0).toNat=min k cs.length:=by
   split<;>lia
  rw[h2];apply List.ext_getElem?;intro j;rw[K6]
  by_cases hj:j<min k cs.length
  ·rw[List.getElem?_range hj];simp
  ·rw[List.getElem?_eq_none (by simp;lia)];rfl
 unfold W3;rw[hi]
 by_cases hl:(((1:Int)==1&&(N8 (min k cs.length)).length==(tx cs).length))=true
 ·rw[if_pos hl];have:cs.length<=k:=by
   simp[dn]at hl
   lia
  rw[L7 this]
 ·rw[if_neg hl];have e:(N8 (min k cs.length)).filterMap ((tx cs).cps[·]?)=cs.take k:=by
   rw[qY _ (by simp[tx];lia),cY];rw[List.take_eq_take_iff]
   lia
  rw[e];rfl
theorem dG{α:Type}[DecidableEq α]:∀(V K:List α),V.Nodup->(∀x∈V,x∈K)->V.length<=K.length
 |[],_,_,_=>R8 _
 |x::V,K,hn,h=>by
  have hx:=h x J5;obtain⟨h1,h2⟩:=U1.mp hn;have:=dG V (K.erase x) h2 λy hy=>(List.mem_erase_of_ne (by rintro rfl;exact h1 hy)).mpr (h y (C7 _ hy));rw[List.length_erase_of_mem hx]at this;have hp:0<K.length:=List.length_pos_of_mem hx;simp only[N3]
  lia
def lq(c:Nat):Prop:=97<=c/\c<=122
def cz(w:Str):Prop:=1<=w.cps.toList.length/\w.cps.toList.length<=8/\∀c∈w.cps.toList,lq c
abbrev abc:Str:=D3 "abcdefghijklmnopqrstuvwxyz"
def fQ:List Nat:=List.range' 97 26
theorem jA:abc=tx fQ:=by decide +kernel
theorem xh{v:Int}(h0:0<=v)(h1:v<26):∃c,lq c/\ixD (.str abc) (.int v)=some (.str (tx [c])):=by
 obtain⟨n,rfl⟩:=L1 h0;have hn:n<26:=by lia
 refine⟨97+n,⟨by lia,by lia⟩,?_⟩;have hl:abc.length<=A4:=by rw[jA,dn];exact sz3 _
 have ha:atI abc.cps.toList (n:Int)=some (97+n):=by
  rw[jA,cY];exact bp (by unfold fQ;rw[List.getElem?_range' hn];simp)
 rw[vF,if_pos hl,ha];rfl
end L2
namespace L2
open PySem PySem.Spec PyProof.Rows
theorem lh{g:GD}{tb:TSd}{E:cV}{all:List D}(I:Nat->DE->DH->Prop)
  (step:∀(i:Nat) (d:D) (Δ:DE) (M:DH) (X:DE->DH->Prop),all[i]?=some d->I i Δ M->(∀ Δ' M',I (i+1) Δ' M'->X Δ' M')->∃ Δ',g d Δ=some Δ'/\tb { E with nx:=X,ct:=X,bk:=E.nx } Δ' M)
  (fin:∀ Δ M,I all.length Δ M->E.nx Δ M):∀(ds:List D) (i:Nat) (Δ:DE) (M:DH),all.drop i=ds->i<=all.length->I i Δ M->bH g tb E ds Δ M
 |[],i,Δ,M,e,hi,h=>by
  have:i=all.length:=by
   have:=congrArg Z9 e;simp at this;lia
  subst this;simpa only[bH]using fin Δ M h
 |d::ds,i,Δ,M,e,hi,h=>by
  have hlt:i<all.length:=by
   have:=congrArg Z9 e;simp at this;lia
  have hd:all[i]?=some d:=by
   have:=congrArg List.head? e;simpa using this
  have hn:all.drop (i+1)=ds:=by
   rw[<-List.tail_drop,e];rfl
  simp only[bH];exact step i d Δ M _ hd h λΔ' M' h'=>lh I step fin ds (i+1) Δ' M' hn hlt h'
theorem bf{g:GD}{tb:TSd}{E:cV}{ds:List D}{Δ:DE}{M:DH}(I:Nat->DE->DH->Prop)(h0:I 0 Δ M)
  (step:∀(i:Nat) (d:D) (Δ:DE) (M:DH) (X:DE->DH->Prop),ds[i]?=some d->I i Δ M->(∀ Δ' M',I (i+1) Δ' M'->X Δ' M')->∃ Δ',g d Δ=some Δ'/\tb { E with nx:=X,ct:=X,bk:=E.nx } Δ' M)
  (fin:∀ Δ M,I ds.length Δ M->E.nx Δ M):bH g tb E ds Δ M:=lh I step fin ds 0 Δ M rfl (R8 _) h0
theorem nr{g:GD}{tc:TTd}{te:TEd}{all:List D}{Q:List D->DH->Prop}(I:Nat->List D->DE->DH->Prop)
  (step:∀ (i:Nat) (d:D) (acc:List D) (Δ:DE) (M:DH) (X:List D → DE → DH → Prop),all[i]? = some d → I i acc Δ M → (∀ acc' Δ' M',I (i + 1) acc' Δ' M' → X acc' Δ' M') →
   ∃ Δ',g d Δ=some Δ'/\tc Δ' M λb M1=>if b=true then te Δ' M1 λy M2=>X (acc++[y]) Δ' M2 else X acc Δ' M1)
  (fin:∀acc Δ M,I all.length acc Δ M->Q acc M):∀(ds:List D) (i:Nat) (acc:List D) (Δ:DE) (M:DH),all.drop i=ds->i<=all.length->I i acc Δ M->cO g tc te ds Δ M acc Q
 |[],i,acc,Δ,M,e,hi,h=>by
  have:i=all.length:=by
   have:=congrArg Z9 e;simp at this;lia
  subst this;simpa only[cO]using fin acc Δ M h
 |d::ds,i,acc,Δ,M,e,hi,h=>by
  have hlt:i<all.length:=by
   have:=congrArg Z9 e;simp at this;lia
  have hd:all[i]?=some d:=by
   have:=congrArg List.head? e;simpa using this
  have hn:all.drop (i+1)=ds:=by
   rw[<-List.tail_drop,e];rfl
  simp only[cO];exact step i d acc Δ M (λacc' Δ' M'=>cO g tc te ds Δ' M' acc' Q) hd h λacc' Δ' M' h'=>nr I step fin ds (i+1) acc' Δ' M' hn hlt h'
theorem nW{g:GD}{tc:TTd}{te:TEd}{ds:List D}{Δ:DE}{M:DH}{Q:List D->DH->Prop}(I:Nat->List D->DE->DH->Prop)(h0:I 0 [] Δ M)
  (step:∀ (i:Nat) (d:D) (acc:List D) (Δ:DE) (M:DH) (X:List D → DE → DH → Prop),ds[i]? = some d → I i acc Δ M → (∀ acc' Δ' M',I (i + 1) acc' Δ' M' → X acc' Δ' M') →
   ∃ Δ',g d Δ=some Δ'/\tc Δ' M λb M1=>if b=true then te Δ' M1 λy M2=>X (acc++[y]) Δ' M2 else X acc Δ' M1)
  (fin:∀acc Δ M,I ds.length acc Δ M->Q acc M):cO g tc te ds Δ M [] Q:=nr I step fin ds 0 [] Δ M rfl (R8 _) h0
theorem szB(n:Nat)(h:n<=16000000:=by decide):n<=A4:=H0 h (by decide)
theorem gP{α:Type}{f:α->D}{xs:List α}{i:Nat}{d:D}(h:(xs.map f)[i]?=some d):∃x,xs[i]?=some x/\d=f x:=by
 rw[K6]at h;cases e:xs[i]? with
 |none=>rw[e]at h;cases h
 |some x=>rw[e]at h;cases h;exact⟨x,rfl,rfl⟩
theorem nE{K:u8}{M:DH}{H:Hp}:∀ns:List Int,aq K M H (ns.map D.int) (ns.map V.int)
 |[]=>aq.nil
 |n::ns=>aq.cons (by simp[Rep]) (nE ns)
theorem qo{K:u8}{H:Hp}{a:A9}{ns:List Int}(hO:vq H)(hS:SqL K H a (ns.map V.int)):aq K noM H [.scr (ns.map D.int)] [.ref a]:=by
 refine aq.cons ?_ aq.nil;simp only[Rep];refine⟨a,ns.map V.int,rfl,?_,nE ns⟩;rcases hS with h|h
 ·left;rcases h with h|h
  ·rcases hO a with z|⟨o,xs,z⟩<;>(rw[h]at z;cases z)
  ·exact⟨h,rfl⟩
 ·right;exact .inr h
def yi(S:SpD):Prop:=∀(ns:List Int) (R:D->DH->Prop),ns.length<=63->(∀M',R (.bl true) M')->S [.scr (ns.map .int)] noM R
theorem yY{S:SpD}(hS:yi S){k:Nat}{x:Str}{l:PySem.W.OpenLaw}{q:C6}{loose:List Str}{XP:(Str->Option A0)->D6->Prop}{YP:J1->D6->Prop}{d:DefRec}{K:Params->u8}(hr:bw k ac1)(hn:l.most=some 63)(hdf:d.params.defaults=[])
  (hY:∀(w:J1) (h:D6),YP w h->(K w.params).In h)
  (F:∀ (w:J1) (mg:Str → Option A0) (fa:A9) (h:D6),(K w.params).In h → h.Ns B7 mg → mg d.name = some (.ref fa) →
   ∃fd:B2,(∀(s:A2) (u:A0),ac6 s fd ⟨[u],[]⟩ [(x,u)])/\∀base:D6,(K w.params).In base->base.Ns B7 mg->aK l.prog w (K w.params) mg base CX0 k fa fd [x] (spD (K w.params) 1 S)) :
  PySem.W.WalkO q loose XP YP l.row.toRowW d [] (λf vs=>PySem.call f vs) :=
 L2.pM (n:=63) (k:=k) (x:=x) (CX:=λ_=>CX0) (sp:=λw=>spD (K w.params) 1 S) hn (by decide) hdf hr hY F
  (λw H a ns hl hO hq=>⟨[.scr (ns.map .int)],noM,λd _=>d=.bl true,rfl,qo hO hq,HR.nil,hS ns _ hl (λ_=>rfl),λd M' v H' e _ _ rv=>by subst e;simpa only[Rep]using rv⟩) λ_ _ _ _ _ z=>z
section
variable{X:Cx}
def neF(x y:D):Option D:=if dLe x 60=true/\dLe y 60=true then some (.bl (!(eqD x y)))else none
theorem qU(hu:X.A.units+64<ad6):br X (E3 .NotEq) neF:=by
 intro af s σ H M x y v u dx dy dz Q I hr rx ry r1 r2 e k;unfold neF at e
 by_cases hc:dLe dx 60=true/\dLe dy 60=true
 ·rw[if_pos hc]at e;cases e;exact(rS I 60 (A:=X.A) (by lia) hc.1 hc.2 r1 r2 rx ry).2.2 X.prog X.w X.xe _ ⟨.bl (!(eqD dx dy)),H,I,rfl,k _ H (Ext.refl _ _) hr (by simp[Rep])⟩
 ·rw[if_neg hc]at e;cases e
theorem xf{a b:Int}:neF (.int a) (.int b)=some (.bl (!(a==b))):=by simp[neF,dLe,eqD]
theorem xa{a b:Str}:neF (.str a) (.str b)=some (.bl (!(a==b))):=by simp[neF,dLe,eqD]
theorem xl{a b:Bool}:neF (.bl a) (.bl b)=some (.bl (!(a==b))):=by simp[neF,dLe,eqD]
end
end L2
namespace HT
open PySem PyProof.Rows
section
variable{prog:C6}{w:J1}{A:E7}{E:A0->A2->Prop}{s:A2}
theorem kQ{t:A9}{items:Array A0}{Q:Bool->A2->Prop}(ht:ad2 s.heap t items)(h:Q true s):C1 (E2 prog w) A (D1.Tuple.tupleIsExact (.ref t)) Q E s:=by
 unfold D1.Tuple.tupleIsExact;exact o0 (T6 ht.typeIs (A3 (by simpa using h)))
theorem getItem_tuple_whole{t sl:A9}{items:Array A0}{vl vu:A0}{lo hi:Option Int}{Q:A0->A2->Prop}(ht:ad2 s.heap t items)(hs:s.heap.IsSliceOf sl vl vu .none)(pl:aa9 vl lo)(pu:aa9 vu hi)
  (hw:sIx items.size 0 lo=0/\sIx items.size items.size hi=items.size) (h:Q (.ref t) s):C1 (E2 prog w) A (X8 (.ref t) (.ref sl)) Q E s:=by
 obtain⟨os,hos,hcs,hds⟩:=id hs;have hTs:s.TypeIs (.ref sl) "slice":=⟨os,hos,hcs⟩;unfold X8
 try with_reducible refine M7 ?_
 first|refine o0 (A3 ?_)|skip
 refine o0 (U7 ht.typeIs (by decide) ?_);refine o0 (K9 (name:=D3 "__getitem__") ht.typeIs D4
  (S1 D4 ht.typeIs entry_tuple_getitem ?_ (args_tuple_getitem _ _)))
 show C1 _ _ (O9 (.ref t) >>= _) _ _ s;refine o0 (aa0 ht ?_);refine o0 (T6 hTs ?_);rw[if_pos (by decide)];refine o0 (dE hs pl pu ?_);show C1 _ _ (if(((sIx items.size 0 lo:Nat):Int)==0&&(1:Int)==1&&(sIx items.size items.size hi-sIx items.size 0 lo)==items.size)=true then _ else _) _ _ s;rw[if_pos (by rw[hw.1,hw.2];simp)];refine o0 (kQ ht ?_);rw[if_pos rfl];refine o0 (wpAny_rule ?_)
 first
  |exact A3 ⟨_,rfl,A3 h⟩
  |exact o0 (A3 (A3 ⟨_,rfl,A3 h⟩))
theorem iB{sl:A9}{tk:Tok}{n:Nat}{Q:Int×Int×Nat->A2->Prop}(hs:s.heap.IsSliceOf sl .none .none (.int (-1) tk))
  (h:Q ((n:Int)-1,-1,n) s):C1 (E2 prog w) A (O8 (.ref sl) (V1 (n:Int))) Q E s:=by
 obtain⟨os,hos,hcs,hds⟩:=id hs;unfold O8 D1.Slice.sliceFields;refine o0 (o0 (K4 hos hds (x:=.none) rfl (o0 (K4 hos hds (x:=.none) rfl (o0 (K4 hos hds (x:=.int (-1) tk) rfl (A3 ?_)))))));refine o0 (slicePart_int ?_);show C1 _ _ (if((-1:Int)==0)=true then _ else _) _ _ s;rw[if_neg (by decide)];refine o0 (X7 (o0 (X7 (o0 (A3 ?_)))));show C1 _ _ (V1 ((n:Int)-1,(-1:Int),J4 ((n:Int)-1) (-1) (-1))) _ _ s;have e:J4 ((n:Int)-1) (-1) (-1)=n:=by
  unfold J4;simp only[show ¬ ((-1:Int) > 0)by omega,if_false]
  split<;>simp<;>omega
 rw[e];exact A3 h
theorem tq(xs:Array A0):((N8 xs.size).filterMap λ(m:Nat)=>xs[((xs.size:Int)-1+(m:Int)*-1).toNat]?)=xs.toList.reverse:=by
 have:∀k,k<=xs.size->((N8 k).filterMap λ(m:Nat)=>xs[((xs.size:Int)-1+(m:Int)*-1).toNat]?)=xs.toList.reverse.take k:=by
  intro k
  induction k with
  |zero=>intro _;simp
  |succ k ih =>
   intro hk;rw[List.range_succ,List.filterMap_append,ih (by omega)];have e1:((xs.size:Int)-1+(k:Int)*-1).toNat=xs.size-1-k:=by omega
   have e2:xs[xs.size-1-k]?=some xs[xs.size-1-k]:=by simp[show xs.size-1-k<xs.size by omega]
   have e3:xs.toList.reverse[k]?=some xs[xs.size-1-k]:=by
    rw[List.getElem?_reverse (by simp;omega)];simpa using e2
   rw[List.take_add_one,e3];have e4:(List.filterMap (λ(m:Nat)=>xs[((xs.size:Int)-1+(m:Int)*-1).toNat]?) [k])=[xs[xs.size-1-k]]:=by
    rw[O2,e1,e2];rfl
   rw[e4];rfl
 rw[this xs.size (B6 _)];exact L7 (by simp)
theorem getItem_tuple_rev{t sl:A9}{items:Array A0}{tk:Tok}{Q:A0->A2->Prop}(ht:ad2 s.heap t items)(hs:s.heap.IsSliceOf sl .none .none (.int (-1) tk))
  (h:Q (.ref s.heap.objs.size) { s with heap:=s.heap.push { cls:=.type "tuple",data:=.seq items.toList.reverse.toArray } }) (hsz:items.size<=A4):C1 (E2 prog w) A (X8 (.ref t) (.ref sl)) Q E s:=by
 have htake:sizeOk (.seq items.toList.reverse.toArray):=by
  show items.toList.reverse.toArray.size<=A4;simpa using hsz
 obtain⟨os,hos,hcs,hds⟩:=id hs;have hTs:s.TypeIs (.ref sl) "slice":=⟨os,hos,hcs⟩;unfold X8
 try with_reducible refine M7 ?_
 first|refine o0 (A3 ?_)|skip
 refine o0 (U7 ht.typeIs (by decide) ?_);refine o0 (K9 (name:=D3 "__getitem__") ht.typeIs D4
  (S1 D4 ht.typeIs entry_tuple_getitem ?_ (args_tuple_getitem _ _)))
 show C1 _ _ (O9 (.ref t) >>= _) _ _ s;refine o0 (aa0 ht ?_);refine o0 (T6 hTs ?_);rw[if_pos (by decide)];refine o0 (iB hs ?_);show C1 _ _ (if((((items.size:Int)-1)==0&&(-1:Int)==1&&items.size==items.size)=true)then _ else _) _ _ s;rw[if_neg (by simp),tq]
 first
  |exact o0 (m:=D9 _) (F3 (A3 ⟨_,rfl,A3 h⟩) htake)
  |exact o0 (m:=D9 _) (F3 (o0 (A3 (A3 ⟨_,rfl,A3 h⟩))) htake)
  |exact o0 (o0 (m:=D9 _) (F3 (A3 (A3 ⟨_,rfl,A3 h⟩)) htake))
  |exact o0 (o0 (m:=D9 _) (F3 (A3 ⟨_,rfl,A3 h⟩) htake))
end
end HT
namespace L2
open PySem PySem.Spec PyProof.Rows
section
variable{X:Cx}{a b c e:D0}{es:List D0}{te ta tb ts:TEd}{t:TAd}{pos:Pos}
def slE:D->Option Int->Option Int->Option D
 |.tup ds,lo,hi=>some (.tup (bP ds lo hi))
 |d,lo,hi=>slD d lo hi
def zT(K:u8):V->Option Int->Option Int->Hp->VK->Prop:=λx lo hi H Q=>∃a xs,x=.ref a/\SqT K H a xs/\(HT.sIx xs.length 0 lo=0/\HT.sIx xs.length xs.length hi=xs.length)/\Q (.ref a) H
theorem sf:SlR X (zT X.K):=by
 intro af s σ H x v vl vu lo hi sl Q I rx hs pl pu h;obtain⟨a,xs,rfl,hx,hw,q⟩:=h;cases rx;obtain⟨its,r,ht,hz⟩:=I.tuple hx;have b6:its.toArray.size=xs.length:=by rw[A6];exact r.length.symm
 exact⟨"tuple",_,D4.lookup,ht.typeIs,HT.getItem_tuple_whole ht hs pl pu (by rw[b6];exact hw) ⟨.ref a,H,I,rfl,q⟩⟩
theorem oZ{ds:List D}{lo hi:Option Int}(h:HT.sIx ds.length 0 lo=0/\HT.sIx ds.length ds.length hi=ds.length):bP ds lo hi=ds:=by
 unfold bP;rw[h.1,h.2];simp
def yx(te:TEd)(tl th:TOd):TEd:=λΔ M Q=>te Δ M λx M1=>tl Δ M1 λl M2=>th Δ M2 λu M3=>∃z,slE (rdM M3 x) l u=some z/\Q z M3
theorem yO{ds:List D}{lo hi:Option Int}:slE (.tup ds) lo hi=some (.tup (bP ds lo hi)):=rfl
theorem zD{ds:List D}{lo hi:Option Int}:slE (.lst ds) lo hi=some (.lst (bP ds lo hi)):=rfl
theorem zt{ds:List D}{lo hi:Option Int}:slE (.scr ds) lo hi=some (.lst (bP ds lo hi)):=rfl
theorem yh{x:Str}{lo hi:Option Int}:slE (.str x) lo hi=if x.length<=A4 then some (.str (W3 x lo hi))else none:=rfl
theorem aq.reverse{K:u8}{M:DH}{H:Hp}:∀{ds:List D}{vs:List V},aq K M H ds vs->aq K M H ds.reverse vs.reverse
 |[],_,h=>by simp only[aq]at h;subst h;exact aq.nil
 |d::ds,_,h=>by
  simp only[aq]at h;obtain⟨v,ws,rfl,h1,h2⟩:=h;rw[U8,U8];exact(aq.reverse h2).append (aq.cons h1 aq.nil)
def rH(te ts:TEd):TEd:=λΔ M Q=>te Δ M λx M1=>ts Δ M1 λst M2=>st=.int (-1)/\∃ds,x=.tup ds/\Q (.tup ds.reverse) M2
variable{scope:T8}{cl:List (Str×A9)}{ay:List Str}{tg:D0}
end
section
variable{X:Cx}{a b c e:D0}{es:List D0}{te ta tb ts:TEd}{t:TAd}{pos:Pos}
def inE(neg:Bool)(x y:D):Option D:=match y with
 |.str j=>match x with
  |.str i=>some (.bl (xor neg (!(R6 j i 0 j.length 1).isEmpty)))
  |_=>none
 |y=>inD neg x y
theorem gd:br X (E3 .In) (inE false):=by
 intro af s σ H M x y v u dx dy dz Q I hr rx ry r1 r2 e k;cases dy with
 |str j =>
  cases dx with
  |str i =>
   cases e;exact qk af s σ H x y v u Q I rx ry ⟨i,j,km r1,km r2,k _ H (Ext.refl _ _) hr (by simp[Rep])⟩
  |_=>cases e
 |_=>exact Ab af s σ H M x y v u dx _ dz Q I hr rx ry r1 r2 e k
theorem og:br X (E3 .NotIn) (inE true):=by
 intro af s σ H M x y v u dx dy dz Q I hr rx ry r1 r2 e k;cases dy with
 |str j =>
  cases dx with
  |str i =>
   cases e;exact ma af s σ H x y v u Q I rx ry ⟨i,j,km r1,km r2,k _ H (Ext.refl _ _) hr (by simp[Rep])⟩
  |_=>cases e
 |_=>exact uR af s σ H M x y v u dx _ dz Q I hr rx ry r1 r2 e k
theorem yF{b:Bool}{x:D}{ds:List D}:inE b x (.lst ds)=if bb x=true/\ds.all bb=true then some (.bl (xor b (ds.any λd=>eqD d x)))else none:=rfl
theorem zq{b:Bool}{x:D}{ds:List D}:inE b x (.tup ds)=if bb x=true/\ds.all bb=true then some (.bl (xor b (ds.any λd=>eqD d x)))else none:=rfl
theorem sZ{b:Bool}{c:Nat}{y:Str}:inE b (.str (tx [c])) (.str y)=some (.bl (xor b (decide (c∈y.cps.toList)))):=by
 show some (D.bl (xor b (!(R6 y ⟨#[c]⟩ 0 y.length 1).isEmpty)))=_;rw[StrLaws.found_one]
theorem iA:fillsNumberSlot (.type "tuple") "mul"=V1 false :=
 PySem.fillsNumberSlot_seq (id:="tuple.__mul__") (r:=some (.builtin "tuple.__rmul__")) F.slot_tuple_mul.lookup (by decide +kernel) F.slot_tuple_rmul.lookup (by decide +kernel)
theorem mD:seqRepeat? (.type "tuple")=V1 (some (.builtin "tuple.__mul__")):=by
 unfold seqRepeat?;rw[PySem.seqSlot_of (T:="tuple") (name:="__mul__") (id:="tuple.__mul__") F.slot_tuple_mul.lookup (by decide +kernel),PySem.seqSlot_of (T:="tuple") (name:="__rmul__") (id:="tuple.__rmul__") F.slot_tuple_rmul.lookup (by decide +kernel)];rfl
theorem jM(a:Int)(t:Tok)(l:A9)(items:Array A0):
  Meets (D1.«int.__rmul__» ⟨[.int a t,.ref l],[]⟩) (λ_ R s=>ad2 s.heap l items/\R (.ok (.ret A0.notImplemented)) s) :=
 .of_wp λprog w A R s h=>by
  obtain⟨hp,g,d,tk,os⟩:=s;obtain⟨⟨⟨cls,dd,data,sl⟩,ho,hc,n,hd⟩,h⟩:=h;simp only at hc hd;subst hc hd
  wp_walk;exact⟨_,rfl,h⟩
theorem kA(l:A9)(items:Array A0)(x:Int)(u:Tok)(hne:items.isEmpty=false)(hx:2<=x)(hx2:x<2 ^ 62)(hz:items.size*x.toNat<=A4):
  Meets (D1.«tuple.__mul__» ⟨[.ref l,.int x u],[]⟩) (λ_ R s=>ad2 s.heap l items/\R (.ok (.ret (.ref s.heap.objs.size))) { s with heap:=s.heap.push { cls:=.type "tuple",data:=.seq (B3 x.toNat items.toList).flatten.toArray } }) :=
 .of_wp λprog w A R s h=>by
  obtain⟨ht,h⟩:=h;show C1 _ _ (do
   let n <-asIndex (.int x u)
   if n < -(2 ^ 63) || n>=2 ^ 63 then
    rule "tuple.repeat.overflow";raiseError "OverflowError" s!"cannot fit '{← typeNameOf (.int x u)}' into an index-sized integer"
   let xs <-O9 (.ref l)
   if xs.isEmpty || n==1 then
    if <-D1.Tuple.tupleIsExact (.ref l)then rule "tuple.repeat.same-object";return <-ret (.ref l)
   if n<=0 || xs.isEmpty then return <-ret (<-D9 #[])
   if xs.size*n > (2 ^ 63-1) / 8 then rule "tuple.repeat.no-memory";raiseNew (<-newExc (.type "MemoryError") [])
   if D1.Tuple.tupleTooMany (xs.size*n)then unsupported "tuple.__mul__:memory"
   ret (<-D9 ((B3 n.toNat xs).foldl (·++·) #[]))) _ _ s
  refine o0 (ac0 (a:=x) rfl ?_);dsimp only;rw[if_neg (by simp only[Bool.or_eq_true,decide_eq_true_eq];lia)];refine o0 (aa0 ht ?_);rw[if_neg (by simp[hne];lia)];rw[if_neg (by simp[hne];lia)];have hxn:((x.toNat:Nat):Int)=x:=by lia
  have hm:(items.size:Int)*x=((items.size*x.toNat:Nat):Int):=by rw[Int.natCast_mul,hxn]
  have h16:A4=16777216:=rfl;rw[if_neg (by rw[hm];lia)];rw[if_neg (by unfold D1.Tuple.tupleTooMany;rw[hm];simp only[decide_eq_true_eq];lia)];have hf:ac8 (λx1 x2=>x1++x2) #[] (B3 x.toNat items)=(B3 x.toNat items.toList).flatten.toArray:=by
   have:=ie items.toList x.toNat [];rw[O4]at this;simpa using this
  rw[hf];have hs:sizeOk (.seq (B3 x.toNat items.toList).flatten.toArray):=by
   show(B3 x.toNat items.toList).flatten.toArray.size<=A4;rw[A6,my,R5,Nat.mul_comm];exact hz
  exact o0 (m:=D9 _) (F3 (A3 ⟨_,rfl,h⟩) hs)
theorem aq.rep{K:u8}{M:DH}{H:Hp}{ds:List D}{vs:List V}(h:aq K M H ds vs):∀k:Nat,aq K M H (B3 k ds).flatten (B3 k vs).flatten
 |0=>aq.nil
 |k+1=>by
  rw[M0,M0,Q7,Q7];exact h.append (aq.rep h k)
def oW:D->D->Option D
 |.int a,.int b=>if iH a b then some (.int (a*b))else none
 |.str x,.int n=>if x.length<=16777216/\-(2 ^ 63)<=n/\n<=16777216/\x.length*n.toNat<=16777216 then some (.str (Txt.mul x n))else none
 |.tup ds,.int n=>if 2<=n/\n<2 ^ 62/\ds≠[]/\ds.length*n.toNat<=A4 then some (.tup (B3 n.toNat ds).flatten)else none
 |.lst ds,.int n=>if -(2 ^ 63)<=n/\n<2 ^ 63/\ds.length*n.toNat<=A4 then some (.lst (B3 n.toNat ds).flatten)else none
 |_,_=>none
theorem gB:br X (N1 .Mult) oW:=by
 intro af s σ H M x y v u dx dy dz Q I hr rx ry r1 r2 e k;cases dx with
 |int a =>
  cases dy with
  |int b=>exact vX af s σ H M x y v u _ _ dz Q I hr rx ry r1 r2 e k
  |_=>cases e
 |str z =>
  cases dy with
  |int n =>
   simp only[oW]at e
   by_cases hc:z.length<=16777216/\-(2 ^ 63)<=n/\n<=16777216/\z.length*n.toNat<=16777216
   ·rw[if_pos hc]at e;cases e;have e1:=km r1;have e2:=fA r2;subst e1;subst e2;obtain⟨t1,rfl⟩:=rx;obtain⟨t2,rfl⟩:=ry;have hok:MulOk z n:=by
     by_cases hn:0<=n
     ·exact mulOk_of z.length n.toNat (B6 _) (by lia) hc.2.1 (by lia) hc.2.2.2
     ·exact mulOk_of z.length 0 (B6 _) (by lia) hc.2.1 (by lia) (by lia)
    exact SB.mul hok λt' kk=>⟨.str _,H,I.tok _,⟨t',rfl⟩,k _ H (Ext.refl _ _) hr (by simp[Rep])⟩
   ·rw[if_neg hc]at e;cases e
  |_=>cases e
 |tup ds =>
  cases dy with
  |int n =>
   simp only[oW]at e
   by_cases hc:2<=n/\n<2 ^ 62/\ds≠[]/\ds.length*n.toNat<=A4
   ·rw[if_pos hc]at e;cases e;have e2:=fA r2;subst e2;obtain⟨t2,rfl⟩:=ry;obtain⟨a,vs,rfl,sq,rl⟩:=r1;cases rx;obtain⟨its,rv,pt,hz⟩:=I.tuple sq;have hl1:=rv.length;have hl2:=rl.length;have hne:its.toArray.isEmpty=false:=by
     cases its with
     |nil =>
      have h0:ds.length=0:=by rw[hl2,hl1];rfl
      exact absurd (List.length_eq_zero_iff.mp h0) hc.2.2.1
     |cons _ _=>rfl
    have hzz:its.toArray.size*n.toNat<=A4:=by rw[A6,<-hl1,<-hl2];exact hc.2.2.2
    refine wpAny_binaryOp_repeat_ref (T:="tuple") (U:="int") (by decide) pt.typeIs (λs'=>ab2 s' n t2) iA F.fills_int_mul W1 mD F.slot_int_index.lookup
     (ab3 W1 (ab2 s n t2) F.entry_int_rmul (F.args_int_rmul_2 _ _) (jM n t2 a its.toArray)
      ⟨pt,rfl,pt.typeIs,ab3 F.slot_tuple_mul pt.typeIs F.entry_tuple_mul (F.args_tuple_mul_2 _ _) (kA a its.toArray n t2 hne hc.1 hc.2.1 hzz) ⟨pt,?_⟩⟩)
    have rr:aB (B3 n.toNat vs).flatten (B3 n.toNat its).flatten:=rv.rep n.toNat;refine⟨.ref s.heap.objs.size,_,I.laid (t':=s.toks) (o:=.tup (B3 n.toNat vs).flatten) (λb ob q=>A1 _ q) (B6 _) ?_,rfl,?_⟩
    ·refine⟨?_,_,rr,by simpa using ja.new _ _⟩;rw[my,Nat.mul_comm,<-hl2];exact hc.2.2.2
    ·exact jy hr (I.hok.fresh (B6 _)) (rl.rep n.toNat) k
   ·rw[if_neg hc]at e;cases e
  |_=>cases e
 |lst ds =>
  cases dy with
  |int n =>
   simp only[oW]at e
   by_cases hc:-(2 ^ 63)<=n/\n<2 ^ 63/\ds.length*n.toNat<=A4
   ·rw[if_pos hc]at e;cases e;obtain⟨a,vs,rfl,sq,rl⟩:=r1;exact wM af s σ H _ _ v u Q I rx ry ⟨a,n,vs,rfl,fA r2,sq,hc.1,hc.2.1,by rw[<-rl.length];exact hc.2.2,λp hp=>gq hr hp (rl.rep n.toNat) k⟩
   ·rw[if_neg hc]at e;cases e
  |_=>cases e
 |_=>cases e
theorem u7{a b:Int}:oW (.int a) (.int b)=if iH a b then some (.int (a*b))else none:=rfl
def jP:D->Bool
 |.non=>true
 |_=>false
def lV(neg:Bool)(x y:D):Option D:=match y with|.non=>some (.bl (xor neg (jP x)))|_=>none
theorem pK{K:u8}{M:DH}{H:Hp}{d:D}{x:V}(r:aN K M H d x):decide (x=V.non)=jP d:=by
 cases d with
 |tup ds=>obtain⟨a,vs,rfl,_⟩:=r;rfl
 |lst ds=>obtain⟨a,vs,rfl,_⟩:=r;rfl
 |scr ds=>obtain⟨a,vs,rfl,_⟩:=r;rfl
 |emp=>simp only[aN,Rep]at r;obtain⟨a,rfl,_⟩:=r;rfl
 |box _ _=>simp only[aN,Rep]at r;obtain⟨a,_,rfl,_⟩:=r;rfl
 |_=>simp only[aN,Rep]at r;subst r;rfl
theorem zi:br X (E3 .Is) (lV false):=by
 intro af s σ H M x y v u dx dy dz Q I hr rx ry r1 r2 e k;cases dy with
 |non =>
  cases e;refine wV af s σ H x y v u Q I rx ry ⟨zu r2,?_⟩;rw[pK r1];exact k _ H (Ext.refl _ _) hr (by simp[Rep])
 |_=>cases e
theorem pS:br X (E3 .IsNot) (lV true):=by
 intro af s σ H M x y v u dx dy dz Q I hr rx ry r1 r2 e k;cases dy with
 |non =>
  cases e;refine vp af s σ H x y v u Q I rx ry ⟨zu r2,?_⟩;rw[pK r1];exact k _ H (Ext.refl _ _) hr (by simp[Rep])
 |_=>cases e
theorem qE{b:Bool}{x:D}:lV b x .non=some (.bl (xor b (jP x))):=rfl
variable{scope:T8}{cl:List (Str×A9)}{ms:List Bool}{ay:List Str}{ifs:List D0}{tg iter elt:D0}
end
@[irreducible] def QEd(X:Cx)(e:D0)(t:TEd):Prop:=PEd X e t
theorem QEd.eq{X:Cx}{e:D0}{t:TEd}:QEd X e t=(PEd X e t):=by unfold QEd;rfl
@[irreducible] def QAd(X:Cx)(e:List D0)(t:TAd):Prop:=PAd X e t
theorem QAd.eq{X:Cx}{e:List D0}{t:TAd}:QAd X e t=(PAd X e t):=by unfold QAd;rfl
@[irreducible] def QTd(X:Cx)(e:D0)(t:TTd):Prop:=PTd X e t
theorem QTd.eq{X:Cx}{e:D0}{t:TTd}:QTd X e t=(PTd X e t):=by unfold QTd;rfl
@[irreducible] def QWd(X:Cx)(e:D0)(t:TTd):Prop:=PWd X e t
theorem QWd.eq{X:Cx}{e:D0}{t:TTd}:QWd X e t=(PWd X e t):=by unfold QWd;rfl
@[irreducible] def QSd(X:Cx)(e:N5)(t:TSd):Prop:=PSd X e t
theorem QSd.eq{X:Cx}{e:N5}{t:TSd}:QSd X e t=(PSd X e t):=by unfold QSd;rfl
@[irreducible] def QSs(X:Cx)(e:List N5)(t:TSd):Prop:=vn X e t
theorem QSs.eq{X:Cx}{e:List N5}{t:TSd}:QSs X e t=(vn X e t):=by unfold QSs;rfl
@[irreducible] def QId(X:Cx)(tg e:D0)(t:TId):Prop:=PId X tg e t
theorem QId.eq{X:Cx}{tg e:D0}{t:TId}:QId X tg e t=(PId X tg e t):=by unfold QId;rfl
@[irreducible] def QIf(X:Cx)(e:List D0)(t:TTd):Prop:=zL X e t
theorem QIf.eq{X:Cx}{e:List D0}{t:TTd}:QIf X e t=(zL X e t):=by unfold QIf;rfl
@[irreducible] def QOd(X:Cx)(e:Option D0)(t:TOd):Prop:=POd X e t
theorem QOd.eq{X:Cx}{e:Option D0}{t:TOd}:QOd X e t=(POd X e t):=by unfold QOd;rfl
theorem aa{X:Cx}(i:Nat){x:Str}{pos:Pos}(hN:X.N[i]?=some x:=by rfl)(hv:Vis X.env.scope x:=by first|exact D8 rfl|exact Z8 (D8 rfl)|exact Z8 (Z8 rfl))(hd:(x==("__debug__":Str))=false:=by decide)
  (hcd:(x==("__classdict__":Str))=false:=by decide):QEd X (.Name x pos) (mO i):=by
 simp only[QEd.eq]at *
 exact(pf hN hv hd hcd).conv λσ H Q ⟨Δ,M,R,sr,hr,⟨d,e,q⟩,k⟩=>let⟨v,ev,rv⟩:=sr.2 i d e;⟨v,ev,k d M v H q (Ext.refl _ _) hr rv⟩
theorem ag{X:Cx}{i j pos}:QEd X (.Constant (.int i) j pos) (dC (.int i)):=by
 simp only[QEd.eq]at *
 exact xB.conv λσ H Q hup=>hup.el λΔ M R sr hr q k=>k _ M _ H q (Ext.refl _ _) hr (by simp[Rep])
theorem ko{X:Cx}{i j pos}:QEd X (.Constant (.bool i) j pos) (dC (.bl i)):=by
 simp only[QEd.eq]at *
 exact vJ.conv λσ H Q hup=>hup.el λΔ M R sr hr q k=>k _ M _ H q (Ext.refl _ _) hr (by simp[Rep])
theorem b7{X:Cx}{i j pos}:QEd X (.Constant (.str i) j pos) (dC (.str i)):=by
 simp only[QEd.eq]at *
 exact tG.conv λσ H Q hup=>hup.el λΔ M R sr hr q k=>k _ M _ H q (Ext.refl _ _) hr (by simp[Rep])
theorem c7{X:Cx}{j pos}:QEd X (.Constant .none j pos) (dC .non):=by
 simp only[QEd.eq]at *
 exact xJ.conv λσ H Q hup=>hup.el λΔ M R sr hr q k=>k _ M _ H q (Ext.refl _ _) hr (by simp[Rep])
theorem eZ{X:Cx}{x:Str}{i:Int}{pos:Pos}(hg:Gl X x)(hm:∃tk,X.mg x=some (.int i tk))(hd:(x==("__debug__":Str))=false:=by decide):QEd X (.Name x pos) (dC (.int i)):=by
 simp only[QEd.eq]at *
 obtain⟨t,ht⟩:=hm;exact vm hg ht hd
theorem tL{X:Cx}{x y:Str}{pos:Pos}(hg:Gl X x)(hm:∃tk,X.mg x=some (.str y tk))(hd:(x==("__debug__":Str))=false:=by decide):QEd X (.Name x pos) (dC (.str y)):=by
 simp only[QEd.eq]at *
 obtain⟨t,ht⟩:=hm;exact tZ hg ht hd
theorem ah{X:Cx}:QAd X [] yS:=by
 simp only[QAd.eq]at *
 exact jO.conv λσ H Q hup=>hup.el λΔ M R sr hr q k=>k _ M _ H q (Ext.refl _ _) hr aq.nil
theorem ae{X:Cx}{a:D0}{es:List D0}{ta:TEd}{tr:TAd}(ha:QEd X a ta)(hr:QAd X es tr)(hs:B1 (a::es) X.env=(false,S7 a X.env)::B1 es X.env:=by rfl):QAd X (a::es) (vN ta tr):=by
 simp only[QEd.eq,QAd.eq]at *
 exact(er ha hr hs).conv λσ H Q hup=>hup.el λΔ M R sr hr q k=>⟨Δ,M,_,sr,hr,q,λd M1 v H1 q1 e1 hr1 rv=>⟨Δ,M1,_,sr.ext e1,hr1,q1,λds M2 vs H2 q2 e2 hr2 rvs =>
   k _ M2 _ H2 q2 (e1.trans e2) hr2 (aq.cons (rv.ext e2) rvs)⟩⟩
theorem aV{X:Cx}{es:List D0}{pos:Pos}{x1}{t:TAd}(h:QAd X es t):QEd X (.Tuple es x1 pos) (zJ t):=by
 simp only[QEd.eq,QAd.eq]at *
 exact(xT h).conv λσ H Q hup=>hup.el λΔ M R sr hr q k=>⟨Δ,M,_,sr,hr,q,λds M1 vs H1 ⟨z,q1⟩ e1 hr1 rv=>⟨by rw[<-rv.length];exact z,λp hp=>k _ M1 _ _ q1 (e1.trans (Ext.new hr1 hp)) (hr1.new hp) (by
   simp only[Rep];exact⟨p,vs,rfl,.inl ⟨.inl bh,hr1.fresh hp⟩,rv.ext (Ext.new hr1 hp)⟩)⟩⟩
theorem cX{X:Cx}{es:List D0}{pos:Pos}{t:TAd}(h:QAd X es t):QEd X (.List es pos) (yt t):=by
 simp only[QEd.eq,QAd.eq]at *
 exact(rP h).conv λσ H Q hup=>hup.el λΔ M R sr hr q k=>⟨Δ,M,_,sr,hr,q,λds M1 vs H1 ⟨z,q1⟩ e1 hr1 rv=>⟨by rw[<-rv.length];exact z,λp hp=>k _ M1 _ _ q1 (e1.trans (Ext.new hr1 hp)) (hr1.new hp) (by
   simp only[Rep];exact⟨p,vs,rfl,⟨bh,hr1.fresh hp⟩,rv.ext (Ext.new hr1 hp)⟩)⟩⟩
theorem gm{X:Cx}{es:List D0}{pos:Pos}{t:TAd}(h:QAd X es t):QEd X (.List es pos) (vK t):=by
 simp only[QEd.eq,QAd.eq]at *
 exact(rP h).conv λσ H Q hup=>hup.el λΔ M R sr hr q k=>⟨Δ,M,_,sr,hr,q,λds M1 vs H1 ⟨z,q1⟩ e1 hr1 rv=>⟨by rw[<-rv.length];exact z,λp hp=>k _ _ _ _ (q1 p (hr1.fresh hp)) (e1.trans (Ext.own hp)) (hr1.own hp rv) (by
   simp only[Rep])⟩⟩
theorem au{X:Cx}{a:D0}{b:D0}{ta:TEd}{tb:TEd}{pos:Pos}{op:ad0}{r:D->D->Option D}(ho:br X (N1 op) r)(ha:QEd X a ta)(hb:QEd X b tb):QEd X (.BinOp a op b pos) (dOp r ta tb):=by
 simp only[QEd.eq]at *
 exact(yB ho.v ha hb).conv tK
theorem cb{X:Cx}{a:D0}{b:D0}{ta:TEd}{tb:TEd}{pos:Pos}{op:ab6}{r:D->D->Option D}(ho:br X (E3 op) r)(ha:QEd X a ta)(hb:QEd X b tb)(hm:N6 op b=false):QEd X (.Compare a [op] [b] pos) (dOp r ta tb):=by
 simp only[QEd.eq]at *
 exact(uT ho.v ha hb hm).conv tK
theorem aw{X:Cx}{a:D0}{b:D0}{ta:TEd}{tb:TEd}{pos:Pos}{r:D->D->Option D}(ho:IxR X (opV X.K r))(ha:QEd X a ta)(hb:QEd X b tb)(hs:pX b):QEd X (.Subscript a b pos) (dOp r ta tb):=by
 simp only[QEd.eq]at *
 exact(yn ho ha hb hs).conv tK
theorem nM{X:Cx}{a:D0}{ta:TEd}{pos:Pos}{op:UnaryOp}{r:D->Option D}(ho:zd X (unaryOp op) r)(ha:QEd X a ta):QEd X (.UnaryOp op a pos) (dUn r ta):=by
 simp only[QEd.eq]at *
 have h:UnR X (unaryOp op) (λx H Q=>∃dx dz M,HR X.K M H/\aN X.K M H dx x/\r dx=some dz/\∀w H',Ext M H M H'->HR X.K M H'->Rep X.K M H' dz w->Q w H'):=λaf s σ H x v Q I rx ⟨dx,dz,M,hr,r1,e,k⟩=>ho af s σ H M x v dx dz Q I hr rx r1 e k;exact(y8 h ha).conv λσ H Q hup=>hup.el λΔ M R sr hr q k=>⟨Δ,M,_,sr,hr,q,λx M1 v H1 ⟨z,ez,q1⟩ e1 hr1 rv=>⟨_,z,M1,hr1,rv.rd hr1,ez,λw H' e2 hr2 rw_=>k z M1 w H' q1 (e1.trans e2) hr2 rw_⟩⟩
theorem aG{X:Cx}{a:D0}{b:D0}{ta:TEd}{tb:TEd}{pos:Pos}{op:ab6}{r:D->D->Option D}(ho:br X (E3 op) r)(ha:QEd X a ta)(hb:QEd X b tb)(hm:N6 op b=false):QTd X (.Compare a [op] [b] pos) (lZ (dOp r ta tb)):=by
 simp only[QEd.eq,QTd.eq]at *
 refine(vf ho.v ha hb hm).conv λσ H Q h=>?_;obtain⟨Δ,M,R,sr,hr,q,k⟩:=h;exact⟨Δ,M,_,sr,hr,q,λx M1 v H1 q1 e1 hr1 rv=>⟨Δ,M1,_,sr.ext e1,hr1,q1,λy M2 u H2 ⟨z,ez,b,eb,q2⟩ e2 hr2 ru=>⟨_,_,z,M2,hr2,(rv.ext e2).rd hr2,ru.rd hr2,ez,λw H' e3 hr3 rw_ =>
  ⟨b,by subst eb;simpa only[Rep]using rw_,k b M2 H' q2 ((e1.trans e2).trans e3) hr3⟩⟩⟩⟩
theorem aJ{X:Cx}{a:D0}{ta:TEd}(h:QEd X a ta)(he:∀whole,isTrue a X.env whole=(do let v <-whole;ad3 a.pos;aa8 [v] (truthy v)):=by intro _;rfl):QTd X a (lZ ta):=by
 simp only[QEd.eq,QTd.eq]at *
 exact(wK h he).conv vI
theorem bY{X:Cx}{a:D0}{pos:Pos}{tA:TTd}(h:QTd X a tA):QTd X (.UnaryOp .Not a pos) (vB tA):=by
 simp only[QTd.eq]at *
 exact(xv h).conv λσ H Q hup=>hup.el λΔ M R sr hr q k=>⟨Δ,M,_,sr,hr,q,λb M1 H1 q1 e1 hr1=>k _ M1 H1 q1 e1 hr1⟩
theorem bV{X:Cx}{a:D0}{pos:Pos}{tA:TTd}(ha:QTd X a tA):QWd X (.BoolOp .And [a] pos) tA:=by
 simp only[QTd.eq,QWd.eq]at *
 exact uj ha
theorem eh{X:Cx}{a:D0}{pos:Pos}{tA:TTd}(ha:QTd X a tA):QWd X (.BoolOp .Or [a] pos) tA:=by
 simp only[QTd.eq,QWd.eq]at *
 exact wz ha
theorem bx{X:Cx}{a:D0}{b:D0}{pos:Pos}{tA:TTd}{tB':TTd}{rest:List D0}(ha:QTd X a tA)(hb:QWd X (.BoolOp .And (b::rest) pos) tB'):QWd X (.BoolOp .And (a::b::rest) pos) (tO tA tB'):=by
 simp only[QTd.eq,QWd.eq]at *
 exact(wO ha hb).conv λσ H Q hup=>hup.el λΔ M R sr hr q k=>⟨Δ,M,_,sr,hr,q,λc M1 H1 q1 e1 hr1=>by
   cases c with
   |true=>simp only[if_true]at q1 ⊢;exact⟨Δ,M1,R,sr.ext e1,hr1,q1,λb M2 H2 q2 e2 hr2=>k b M2 H2 q2 (e1.trans e2) hr2⟩
   |false=>simp only[B0,if_false]at q1 ⊢;exact k _ M1 H1 q1 e1 hr1⟩
theorem e9{X:Cx}{a:D0}{b:D0}{pos:Pos}{tA:TTd}{tB':TTd}{rest:List D0}(ha:QTd X a tA)(hb:QWd X (.BoolOp .Or (b::rest) pos) tB'):QWd X (.BoolOp .Or (a::b::rest) pos) (yq tA tB'):=by
 simp only[QTd.eq,QWd.eq]at *
 exact(zl ha hb).conv λσ H Q hup=>hup.el λΔ M R sr hr q k=>⟨Δ,M,_,sr,hr,q,λc M1 H1 q1 e1 hr1=>by
   cases c with
   |false=>simp only[B0,if_false]at q1 ⊢;exact⟨Δ,M1,R,sr.ext e1,hr1,q1,λb M2 H2 q2 e2 hr2=>k b M2 H2 q2 (e1.trans e2) hr2⟩
   |true=>simp only[if_true]at q1 ⊢;exact k _ M1 H1 q1 e1 hr1⟩
theorem bK{X:Cx}{a:D0}{ta:TEd}{pos:Pos}{op}(h:QEd X a ta):QEd X (.BoolOp op [a] pos) ta:=by
 simp only[QEd.eq]at *
 exact xH h
theorem bj{X:Cx}{a:D0}{b:D0}{ta:TEd}{tb:TEd}{pos:Pos}{rest:List D0}(ha:QEd X a ta)(hb:QEd X (.BoolOp .And (b::rest) pos) tb):QEd X (.BoolOp .And (a::b::rest) pos) (ym ta tb):=by
 simp only[QEd.eq]at *
 exact(wf ha hb).conv λσ H Q hup=>hup.el λΔ M R sr hr q k=>⟨Δ,M,_,sr,hr,q,λd M1 v H1 ⟨c,e,q1⟩ e1 hr1 rv=>⟨c,by subst e;simpa only[Rep]using rv,by
   cases c with
   |true=>simp only[if_true]at q1 ⊢;exact⟨Δ,M1,R,sr.ext e1,hr1,q1,λb M2 v2 H2 q2 e2 hr2 r2=>k b M2 v2 H2 q2 (e1.trans e2) hr2 r2⟩
   |false=>simp only[B0,if_false]at q1 ⊢;exact k _ M1 _ H1 q1 e1 hr1 (by simp[Rep])⟩⟩
theorem sY{X:Cx}{a:D0}{ta:TEd}{pos:Pos}(ha:QEd X a ta):QEd X (.UnaryOp .Not a pos) (zk ta):=by
 simp only[QEd.eq]at *
 exact(wu ha).conv λσ H Q hup=>hup.el λΔ M R sr hr q k=>⟨Δ,M,_,sr,hr,q,λd M1 v H1 ⟨c,e,q1⟩ e1 hr1 rv =>
  ⟨c,by subst e;simpa only[Rep]using rv,k _ M1 _ H1 q1 e1 hr1 (by simp[Rep])⟩⟩
theorem zV{X:Cx}{a:D0}{b:D0}{c:D0}{ta:TEd}{tb:TEd}{pos:Pos}{tA:TTd}(hc:QTd X c tA)(ha:QEd X a ta)(hb:QEd X b tb):QEd X (.IfExp c a b pos) (dIf tA ta tb):=by
 simp only[QEd.eq,QTd.eq]at *
 exact(sH hc ha hb).conv λσ H Q hup=>hup.el λΔ M R sr hr q k=>⟨Δ,M,_,sr,hr,q,λc M1 H1 q1 e1 hr1=>by
   cases c with
   |true=>simp only[if_true]at q1 ⊢;exact⟨Δ,M1,R,sr.ext e1,hr1,q1,λb M2 v2 H2 q2 e2 hr2 r2=>k b M2 v2 H2 q2 (e1.trans e2) hr2 r2⟩
   |false=>simp only[B0,if_false]at q1 ⊢;exact⟨Δ,M1,R,sr.ext e1,hr1,q1,λb M2 v2 H2 q2 e2 hr2 r2=>k b M2 v2 H2 q2 (e1.trans e2) hr2 r2⟩⟩
theorem hU{X:Cx}{a:D0}{b:D0}{c:D0}{ta:TEd}{tb:TEd}{pos:Pos}{tc:TEd}{op op':ab6}{r r':D->D->Option D}(ho:br X (E3 op) r)(ho':br X (E3 op') r')(ha:QEd X a ta)(hb:QEd X b tb)(hc:QEd X c tc)
  (hm:ad5 [op,op'] [b,c]=false:=by with_unfolding_all rfl):QEd X (.Compare a [op,op'] [b,c] pos) (oR r r' ta tb tc):=by
 simp only[QEd.eq]at *
 refine(sR ho.v ho'.v ha hb hc hm).conv λσ H Q h=>?_;obtain⟨Δ,M,R,sr,hr,q,k⟩:=h;refine⟨Δ,M,_,sr,hr,q,λx M1 v H1 q1 e1 hr1 rv=>⟨Δ,M1,_,sr.ext e1,hr1,q1,λy M2 u H2 ⟨b,eb,q2⟩ e2 hr2 ru=>⟨_,_,.bl b,M2,hr2,(rv.ext e2).rd hr2,ru.rd hr2,eb,λw H3 e3 hr3 rw_ =>
  ⟨b,by simpa only[Rep]using rw_,?_⟩⟩⟩⟩
 cases b with
 |true =>
  simp only[if_true]at q2 ⊢;exact⟨Δ,M2,_,(sr.ext (e1.trans e2)).ext e3,hr3,q2,λz M4 w4 H4 ⟨d,ed,q4⟩ e4 hr4 r4=>⟨_,_,d,M4,hr4,((ru.ext e3).ext e4).rd hr4,r4.rd hr4,ed,λw5 H5 e5 hr5 r5=>k d M4 w5 H5 q4 ((((e1.trans e2).trans e3).trans e4).trans e5) hr5 r5⟩⟩
 |false =>
  simp only[B0,if_false]at q2 ⊢;exact k _ M2 _ H3 q2 ((e1.trans e2).trans e3) hr3 (by simp[Rep])
theorem so{X:Cx}{a:D0}{b:D0}{c:D0}{ta:TEd}{tb:TEd}{pos:Pos}{tc:TEd}{op op':ab6}{r r':D->D->Option D}(ho:br X (E3 op) r)(ho':br X (E3 op') r')(ha:QEd X a ta)(hb:QEd X b tb)(hc:QEd X c tc)
  (hm:ad5 [op,op'] [b,c]=false:=by with_unfolding_all rfl):QTd X (.Compare a [op,op'] [b,c] pos) (lZ (oR r r' ta tb tc)):=by
 simp only[QEd.eq,QTd.eq]at *
 refine(rF ho.v ho'.v ha hb hc hm).conv λσ H Q h=>?_;obtain⟨Δ,M,R,sr,hr,q,k⟩:=h;refine⟨Δ,M,_,sr,hr,q,λx M1 v H1 q1 e1 hr1 rv=>⟨Δ,M1,_,sr.ext e1,hr1,q1,λy M2 u H2 ⟨b,eb,q2⟩ e2 hr2 ru=>⟨_,_,.bl b,M2,hr2,(rv.ext e2).rd hr2,ru.rd hr2,eb,λw H3 e3 hr3 rw_ =>
  ⟨b,by simpa only[Rep]using rw_,?_⟩⟩⟩⟩
 cases b with
 |true =>
  simp only[if_true]at q2 ⊢;exact⟨Δ,M2,_,(sr.ext (e1.trans e2)).ext e3,hr3,q2,λz M4 w4 H4 ⟨d,ed,kb,ekb,q4⟩ e4 hr4 r4=>⟨_,_,d,M4,hr4,((ru.ext e3).ext e4).rd hr4,r4.rd hr4,ed,λw5 H5 e5 hr5 r5=>⟨kb,by subst ekb;simpa only[Rep]using r5,k kb M4 H5 q4 ((((e1.trans e2).trans e3).trans e4).trans e5) hr5⟩⟩⟩
 |false =>
  simp only[B0,if_false]at q2 ⊢;obtain⟨kb,ekb,q2⟩:=q2;cases ekb;exact⟨false,rfl,k _ M2 H3 q2 ((e1.trans e2).trans e3) hr3⟩
theorem aA{X:Cx}{pos:Pos}{x:Str}{p:Pos}{e:D0}{es:List D0}{t:TAd}{id:String}{r:List D->Option D}(hc:bQ X (.builtin id) r)(hg:Gl X x)(hm:X.mg x=none)(hv:N7 x=some (.builtin id))(ha:QAd X (e::es) t)(hn:x≠"__name__":=by decide)(hdb:(x==("__debug__":Str))=false:=by decide)
  (he:B1 (e::es) X.env=(false,S7 e X.env)::B1 es X.env:=by rfl) (hpl:(Q4 pos (B1 es X.env)).any (·.1)=false:=by rfl):QEd X (.Call (.Name x p) (e::es) [] pos) (dCB r t):=by
 simp only[QEd.eq,QAd.eq]at *
 exact(mY hc.v hg hm hv ha hn hdb he hpl).conv vR
theorem dD{X:Cx}{pos:Pos}{x:Str}{p:Pos}{e:D0}{es:List D0}{t:TAd}{id:String}{r:List D->Option D}(hc:bQ X (.type id) r)(hg:Gl X x)(hm:X.mg x=none)(hv:N7 x=some (.type id))(ha:QAd X (e::es) t)(hn:x≠"__name__":=by decide)(hdb:(x==("__debug__":Str))=false:=by decide)
  (he:B1 (e::es) X.env=(false,S7 e X.env)::B1 es X.env:=by rfl) (hpl:(Q4 pos (B1 es X.env)).any (·.1)=false:=by rfl):QEd X (.Call (.Name x p) (e::es) [] pos) (dCB r t):=by
 simp only[QEd.eq,QAd.eq]at *
 exact(kS hc.v hg hm hv ha hn hdb he hpl).conv vR
theorem aD{X:Cx}:QSs X [] pO:=by
 simp only[QSs.eq]at *
 exact pP.conv λD σ H hup=>hup.el λΔ M E sr hr q u=>u.nx Δ M σ H q (Ext.refl _ _) hr sr
theorem ak{X:Cx}{st:N5}{rest:List N5}{t:TSd}{u:TSd}(h1:QSd X st t)(h2:QSs X rest u):QSs X (st::rest) (ub t u):=by
 simp only[QSd.eq,QSs.eq]at *
 exact(jJ h1 h2).conv λD σ H hup=>hup.el λΔ M E sr hr q k=>⟨Δ,M,{ E with nx:=u E },sr,hr,q,⟨λΔ' M' σ' H' q' e' hr' sr'=>⟨Δ',M',E,sr',hr',q',k.ext e'⟩,k.bk,k.ct,k.rt⟩⟩
theorem am{X:Cx}{st:N5}{t:TSd}(h1:QSd X st t):QSs X [st] t:=by
 simp only[QSd.eq,QSs.eq]at *
 exact ji h1
theorem az{X:Cx}{e:D0}{te:TEd}{pos:Pos}(he:QEd X e te):QSd X (.Return (some e) pos) (yo te):=by
 simp only[QEd.eq,QSd.eq]at *
 exact(l9 he).conv λD σ H hup=>hup.el λΔ M E sr hr q k=>⟨Δ,M,_,sr,hr,q,k.rt⟩
theorem fb{X:Cx}{e:D0}{te:TEd}{pos:Pos}(he:QEd X e te)(hs:Z3 e none pos.line X.env=V1 false:=by rfl):QSd X (.Expr e pos) (sE te):=by
 simp only[QEd.eq,QSd.eq]at *
 exact(pG he hs).conv λD σ H hup=>hup.el λΔ M E sr hr q k=>⟨Δ,M,_,sr,hr,q,λd M1 v H1 q1 e1 hr1 _=>k.nx Δ M1 σ H1 q1 e1 hr1 (sr.ext e1)⟩
theorem aP{X:Cx}{c:D0}{pos:Pos}{t:TSd}{u:TSd}{sa sb:List N5}{tc:TTd}(hc:QTd X c tc)(ha:QSs X sa t)(hb:QSs X sb u):QSd X (.If c sa sb pos) (uf tc t u):=by
 simp only[QTd.eq,QSd.eq,QSs.eq]at *
 exact(vT hc ha hb).conv λD σ H hup=>hup.el λΔ M E sr hr q k=>⟨Δ,M,_,sr,hr,q,λb M1 H1 q1 e1 hr1=>by
   cases b with
   |true=>simp only[if_true]at q1 ⊢;exact⟨Δ,M1,E,sr.ext e1,hr1,q1,k.ext e1⟩
   |false=>simp only[B0,if_false]at q1 ⊢;exact⟨Δ,M1,E,sr.ext e1,hr1,q1,k.ext e1⟩⟩
theorem aI{X:Cx}{e:D0}{te:TEd}{pos:Pos}{i:Nat}{x:Str}{pos':Pos}(hN:X.N.Nodup)(hi:X.N[i]?=some x)(hx:Loc X.env.scope x)(he:QEd X e te)(hs:Z3 e (some (.Name x pos')) pos.line X.env=V1 false:=by rfl)(hf:X.fn x=true∨X.env.scope.names.lookup x=some .local:=by first|exact .inl rfl|exact .inr rfl|assumption):
  QSd X (.Assign [.Name x pos'] e pos) (we i te):=by
 simp only[QEd.eq,QSd.eq]at *
 exact(wR hN hi hx he hs hf).conv λD σ H hup=>hup.el λΔ M E sr hr q k=>⟨Δ,M,_,sr,hr,q,λd M1 v H1 q1 e1 hr1 rv=>k.nx _ M1 _ H1 q1 e1 hr1 ((sr.ext e1).set i rv)⟩
theorem yH{X:Cx}{e:D0}{te:TEd}{pos:Pos}{i:Nat}{x:Str}{op:ad0}{r:D->D->Option D}{pos':Pos}(hN:X.N.Nodup)(hi:X.N[i]?=some x)(hx:Loc X.env.scope x)(he:QEd X e te)(ho:br X (ad4 op) r)(hf:X.fn x=true∨X.env.scope.names.lookup x=some .local:=by first|exact .inl rfl|exact .inr rfl|assumption):
  QSd X (.AugAssign (.Name x pos') op e pos) (zz i te r):=by
 simp only[QEd.eq,QSd.eq]at *
 have h:PIp X op (opV X.K r):=λaf s σ H x y v u Q I rx ry q=>ho.v af s σ H x y v u Q I rx ry q;refine(xc hN hi hx he h hf).conv λD σ H hh=>?_;obtain⟨Δ,M,E,sr,hr,⟨d,ed,q⟩,k⟩:=hh;obtain⟨v,ev,rv⟩:=sr.2 i d ed;refine⟨v,ev,Δ,M,_,sr,hr,q,λy M1 w H1 ⟨z,ez,q1⟩ e1 hr1 rw_=>⟨_,_,z,M1,hr1,(rv.ext e1).rd hr1,rw_.rd hr1,ez,λw2 H2 e2 hr2 r2=>k.nx _ M1 _ H2 q1 (e1.trans e2) hr2 (((sr.ext e1).ext e2).set i r2)⟩⟩
theorem vk{X:Cx}{t:TSd}{sts:List N5}(i:Nat)(h:QSs X sts t):QSs X sts (sF i t):=by
 simp only[QSs.eq]at *
 exact PSs.conv h λD σ H ⟨Δ,M,E,sr,hr,⟨a,ds,e1,e2,q⟩,k⟩=>by
  refine⟨_,jr M a,E,?_,hr.le LeM.del,q,k.ext (Ext.le LeM.del)⟩;obtain⟨v,ev,rv⟩:=sr.2 i _ e1;simp only[Rep]at rv;subst rv;have:=(sr.ext (Ext.le (M1:=jr M a) LeM.del)).set i (Rep.froze (M1:=jr M a) hr LeM.del e2 lU);have es:σ.set i (some (.ref a))=σ:=by
   apply List.ext_getElem?;intro j
   by_cases hj:j=i
   ·subst hj;have hl:j<σ.length:=(A7.mp ev).1;rw[O6 hl,ev]
   ·rw[T1 (S3 hj)]
  rw[es]at this;exact this
theorem rG{X:Cx}{e:D0}{te:TEd}{pos:Pos}{tg:D0}{g:GD}(he:QEd X e te)(hg:PGd X tg g)(hs:swapsWithSole [tg] e pos.line X.env=V1 false:=by rfl)(hw:swappedStores [tg] e X.env=V1 none:=by rfl)
  (h1:(Q5 [tg] X.env).map (·.2)=[Z4 tg X.env]:=by rfl):QSd X (.Assign [tg] e pos) (yQ te g):=by
 simp only[QEd.eq,QSd.eq]at *
 obtain⟨gv,pg,kg⟩:=hg;exact(sS he pg hs hw h1).conv λD σ H hup=>hup.el λΔ M E sr hr q k=>⟨Δ,M,_,sr,hr,q,λd M1 v H1 ⟨Δ',eg,q1⟩ e1 hr1 rv=>kg d v σ Δ Δ' M1 H1 _ (sr.ext e1) hr1 rv eg λσ' sr'=>k.nx Δ' M1 σ' H1 q1 e1 hr1 sr'⟩
theorem jh{X:Cx}{a:D0}{pos:Pos}{tg:D0}{ta:TAd}{p:Pos}(hg:Gl X "range")(hm:X.mg "range"=none)(ha:QAd X [a] ta)(hs:B1 [a] X.env=[(false,S7 a X.env)]:=by rfl):QId X tg (.Call (.Name "range" p) [a] [] pos) (rC ta):=by
 simp only[QAd.eq,QId.eq]at *
 exact(qv hg hm ha hs).conv λσ H R hup=>hup.el λΔ M R' sr hr q k=>⟨Δ,M,_,sr,hr,q,λds M1 vs H1 ⟨j,ed,h1,h2,q1⟩ e1 hr1 rv=>by
   subst ed;obtain⟨v,ev,rv1⟩:=rv.one;have ev1:v=.int j:=by simpa only[Rep]using rv1
   subst ev1;subst ev;exact⟨j,rfl,h1,h2,k _ M1 _ H1 q1 e1 hr1 pN⟩⟩
theorem va{X:Cx}{a:D0}{b:D0}{pos:Pos}{tg:D0}{ta:TAd}{p:Pos}(hg:Gl X "range")(hm:X.mg "range"=none)(ha:QAd X [a,b] ta)(hs:B1 [a,b] X.env=[(false,S7 a X.env),(false,S7 b X.env)]:=by rfl)(hs2:B1 [b] X.env=[(false,S7 b X.env)]:=by rfl):QId X tg (.Call (.Name "range" p) [a,b] [] pos) (tE ta):=by
 simp only[QAd.eq,QId.eq]at *
 exact(rj hg hm ha hs hs2).conv λσ H R hup=>hup.el λΔ M R' sr hr q k=>⟨Δ,M,_,sr,hr,q,λds M1 vs H1 ⟨i,j,ed,h1,q1⟩ e1 hr1 rv=>by
   subst ed;obtain⟨v,w,ev,rv1,rv2⟩:=rv.two;have ev1:v=.int i:=by simpa only[Rep]using rv1
   have ev2:w=.int j:=by simpa only[Rep]using rv2
   subst ev1;subst ev2;subst ev;exact⟨i,j,rfl,h1,k _ M1 _ H1 q1 e1 hr1 pN⟩⟩
theorem eM{X:Cx}{pos:Pos}{tg:D0}{iter:D0}{body:List N5}{wi:TId}{g:GD}{tb:TSd}(hp:K8 (E2 X.prog X.w) X.A X.env X.xe)(hc:X.calm=true)(hi:QId X tg iter wi)(hg:PGd X tg g)(hb:QSs X body tb)
  (hs:∀x,N9 iter X.env x=V1 x:=by intro _;rfl):QSd X (.For tg iter body [] pos) (xq wi g tb):=by
 simp only[QSd.eq,QSs.eq,QId.eq]at *
 obtain⟨gv,pg,kg⟩:=hg;refine(tw hp hc hi pg hb hs).conv λD σ H hh=>?_;obtain⟨Δ,M,E,sr,hr,q,k⟩:=hh;refine⟨Δ,M,_,sr,hr,q,λds M1 J H1 q1 e1 hr1 it=>?_⟩;refine⟨λi m σ' H'=>∃ Δ' M',m=ds.length-i/\i<=ds.length/\Ext M1 H1 M' H'/\HR X.K M' H'/\SR X.K M' H' σ' Δ'/\bH g tb E (ds.drop i) Δ' M',⟨ds.length,Δ,M1,by simp,R8 _,Ext.refl _ _,hr1,sr.ext e1,q1⟩,?_⟩;rintro i m σ2 H2 ⟨Δ2,M2,rfl,hi2,e2,hr2,sr2,f2⟩;obtain⟨go,stop⟩:=it M2 H2 e2 hr2 i
 by_cases hlt:i<ds.length
 ·have hd:ds[i]?=some ds[i]:=by simp[hlt]
  obtain⟨g1,y1⟩:=go _ hd;rw[P7 hlt]at f2;simp only[bH]at f2;obtain⟨Δ3,eg,f3⟩:=f2;refine .inr ⟨g1,λσ' H'=>∃m',m'<ds.length-i/\∃ Δ' M',m'=ds.length-(i+1)/\i+1<=ds.length/\Ext M1 H1 M' H'/\HR X.K M' H'/\SR X.K M' H' σ' Δ'/\bH g tb E (ds.drop (i+1)) Δ' M',λσ' H' z=>z,λx H' hy=>?_⟩;obtain⟨e3,hr3,rx⟩:=y1 x H' hy;refine kg _ x σ2 Δ2 Δ3 M2 H' _ (sr2.ext e3) hr3 rx eg λσ3 sr3=>?_;refine⟨Δ3,M2,_,sr3,hr3,f3,⟨λΔ' M' σ' H'' q' e' hr' sr'=>?_,λΔ' M' σ' H'' q' e' hr' sr'=>?_,λΔ' M' σ' H'' q' e' hr' sr'=>?_,λd M' v H'' q' e' hr' rv'=>?_⟩⟩
  ·exact⟨_,by lia,Δ',M',rfl,hlt,(e2.trans e3).trans e',hr',sr',q'⟩
  ·exact k.nx Δ' M' σ' H'' q' (((e1.trans e2).trans e3).trans e') hr' sr'
  ·exact⟨_,by lia,Δ',M',rfl,hlt,(e2.trans e3).trans e',hr',sr',q'⟩
  ·exact k.rt d M' v H'' q' (((e1.trans e2).trans e3).trans e') hr' rv'
 ·rw[List.drop_eq_nil_of_le (by lia)]at f2;exact .inl ⟨stop (by lia),k.nx Δ2 M2 σ2 H2 f2 (e1.trans e2) hr2 sr2⟩
theorem pz{X:Cx}{c:D0}{pos:Pos}{body:List N5}{tc:TTd}{tb:TSd}(hp:K8 (E2 X.prog X.w) X.A X.env X.xe)(hc:QTd X c tc)(hb:QSs X body tb):QSd X (.While c body [] pos) (sQ tc tb):=by
 simp only[QTd.eq,QSd.eq,QSs.eq]at *
 refine(rn hp hc hb).conv λD σ H hh=>?_;obtain⟨Δ,M,E,sr,hr,⟨W,⟨m0,w0⟩,turn⟩,k⟩:=hh;refine⟨λm σ' H'=>∃ Δ' M',Ext M H M' H'/\HR X.K M' H'/\SR X.K M' H' σ' Δ'/\W m Δ' M',⟨m0,Δ,M,Ext.refl _ _,hr,sr,w0⟩,?_⟩;rintro m σ1 H1 ⟨Δ1,M1,e1,hr1,sr1,w1⟩;refine⟨Δ1,M1,_,sr1,hr1,turn m Δ1 M1 w1,λb M2 H2 q2 e2 hr2=>?_⟩;cases b with
 |true =>
  simp only[if_true]at q2 ⊢;refine⟨λσ' H'=>∃m',m'<m/\∃ Δ' M',Ext M H M' H'/\HR X.K M' H'/\SR X.K M' H' σ' Δ'/\W m' Δ' M',λσ' H' z=>z,Δ1,M2,_,sr1.ext e2,hr2,q2,⟨λΔ' M' σ' H'' ⟨m',hm,w'⟩ e' hr' sr'=>?_,λΔ' M' σ' H'' q' e' hr' sr'=>?_,λΔ' M' σ' H'' ⟨m',hm,w'⟩ e' hr' sr'=>?_,λd M' v H'' q' e' hr' rv'=>?_⟩⟩
  ·exact⟨m',hm,Δ',M',(e1.trans e2).trans e',hr',sr',w'⟩
  ·exact k.nx Δ' M' σ' H'' q' ((e1.trans e2).trans e') hr' sr'
  ·exact⟨m',hm,Δ',M',(e1.trans e2).trans e',hr',sr',w'⟩
  ·exact k.rt d M' v H'' q' ((e1.trans e2).trans e') hr' rv'
 |false =>
  simp only[B0,if_false]at q2 ⊢;exact k.nx Δ1 M2 σ1 H2 q2 (e1.trans e2) hr2 (sr1.ext e2)
theorem jk{X:Cx}:QIf X [] w6:=by
 simp only[QIf.eq]at *
 exact λaf s σ H Q I ⟨Δ,M,R,sr,hr,q,k⟩=>uG af s σ H Q I (k true M H q (Ext.refl _ _) hr)
theorem xV{X:Cx}{c:D0}{tc:TTd}(h:QTd X c tc):QIf X [c] tc:=by
 simp only[QTd.eq,QIf.eq]at *
 exact vh h
theorem rQ{X:Cx}{pos:Pos}{tg:D0}{iter:D0}{elt:D0}{scope:T8}{cl:List (Str×A9)}{ms:List Bool}{ay:List Str}{ifs:List D0}{wi:TId}{g:GD}{tc:TTd}{te:TEd}(S:fm X scope cl ms ay)(gX:X.calm=true)(hi:QId X tg iter wi)(hg:PGa X scope cl ay tg g)
  (hif:∀C s H ex,QIf (a6 X scope cl (X.N++ay) C s H ex) ifs tc) (he:∀C s H ex,QEd (a6 X scope cl (X.N++ay) C s H ex) elt te)
  (hs:∀x,N9 iter X.env x=V1 x:=by intro _;rfl):QEd X (.ListComp elt [⟨tg,iter,ifs,0⟩] scope pos) (dLc ms ay.length wi g tc te):=by
 simp only[QEd.eq,QId.eq,QIf.eq]at *
 obtain⟨gv,pg,kg⟩:=hg;exact(wt (tc:=upT X.K tc) S gX hi pg hif (tT (te:=up X.K te) he) hs).conv (pV kg)
theorem vA{X:Cx}{pos:Pos}{tg:D0}{iter:D0}{elt:D0}{scope:T8}{cl:List (Str×A9)}{ms:List Bool}{ay:List Str}{ifs:List D0}{i:Nat}{x:Str}{spos pos':Pos}{wi:TId}{g:GD}{tc:TTd}{te:TEd}(hN:X.N.Nodup)(hix:X.N[i]?=some x)(hx:X.env.scope.names.lookup x=some .local)
  (hsw:Z3 (.ListComp elt [⟨tg,iter,ifs,0⟩] scope pos) (some (.Name x pos')) spos.line X.env=V1 true) (S:fm X scope cl ms ay) (gX:X.calm=true) (hi:QId X tg iter wi) (hg:PGa X scope cl ay tg g)
  (hif:∀C s H ex,QIf (a6 X scope cl (X.N++ay) C s H ex) ifs tc) (he:∀C s H ex,QEd (a6 X scope cl (X.N++ay) C s H ex) elt te)
  (hs:∀x,N9 iter X.env x=V1 x:=by intro _;rfl):QSd X (.Assign [.Name x pos'] (.ListComp elt [⟨tg,iter,ifs,0⟩] scope pos) spos) (we i (dLc ms ay.length wi g tc te)):=by
 simp only[QEd.eq,QSd.eq,QId.eq,QIf.eq]at *
 obtain⟨gv,pg,kg⟩:=hg;refine(qq (tc:=upT X.K tc) hN hix hx hsw S gX hi pg hif (tT (te:=up X.K te) he) hs).conv λD σ H hh=>?_;obtain⟨Δ,M,E,sr,hr,q,k⟩:=hh;exact pV kg σ H _ ⟨Δ,M,_,sr,hr,q,λd M1 v H1 q1 e1 hr1 rv=>k.nx _ M1 _ H1 q1 e1 hr1 ((sr.ext e1).set i rv)⟩
theorem iV{X:Cx}{e:D0}{te:TEd}{o:D0}{to:TEd}{kr cT:Pos}(ho:QEd X o to)(he:QEd X e te)(nV:aa2 o "append" X.env (S7 o X.env)=S7 o X.env:=by rfl)
  (hse:B1 [e] X.env=(false,S7 e X.env)::B1 [] X.env:=by rfl)
  (xr:((Q4 cT (B1 [e] X.env)).all (λx => !x.1) && (ad1 cT (aa3 [] X.env)).all (λx => x.1.isSome)
  &&decide ([e].length+([]:List ab9).length+(if([]:List ab9).isEmpty then 0 else 1)<30))=true:=by rfl)
  (tv:(kr.endLine==cT.line)=true:=by rfl) (oU:(Q4 cT (B1 [] X.env)).any (·.1)=false:=by rfl):QEd X (.Call (.Attribute o "append" kr) [e] [] cT) (wW to te):=by
 simp only[QEd.eq]at *
 exact(yz PySem.F.plainAttrs_list PySem.F.slot_list_append PySem.F.type_list_append (show MtR X "list.append" p0 from qB) ho (er he jO hse) nV xr tv hse oU).conv λσ H Q hup=>hup.el λΔ M R sr hr q k=>⟨Δ,M,_,sr,hr,q,λo M1 ov H1 ⟨a,l,eo,em,q1⟩ e1 hr1 ro=>by
   subst eo;simp only[Rep]at ro;subst ro;obtain⟨vs,hv,rl⟩:=hr1 a _ em;refine⟨.inl ⟨rfl,vs,SqL.of hv⟩,Δ,M1,_,sr.ext e1,hr1,q1,λd M2 v H2 ⟨ds,em2,hz,q2⟩ e2 hr2 rv=>?_⟩;obtain⟨ws,hw,rl2⟩:=hr2 a _ em2;refine⟨a,ws,v,rfl,rfl,hw,by rw[<-rl2.length];exact hz,k _ _ _ _ q2 ((e1.trans e2).trans (Ext.write em2)) (hr2.write em2 (rl2.append (aq.cons rv aq.nil))) (by simp[Rep])⟩⟩
theorem bC{X:Cx}{a:D0}{ta:TEd}{pos:Pos}{T:Str}{Tn:String}{p p2:Pos}(hT:okT Tn=true)(hg:Gl X "isinstance")(hm:X.mg "isinstance"=none)(hg2:Gl X T)(hm2:X.mg T=none)(hv2:N7 T=some (.type Tn))(ha:QEd X a ta)(hn2:T≠"__name__":=by decide)(hd2:(T==("__debug__":Str))=false:=by decide)
  (hs:B1 [a,.Name T p2] X.env=(false,S7 a X.env)::B1 [.Name T p2] X.env:=by rfl) (hs2:B1 [.Name T p2] X.env=(false,S7 (.Name T p2) X.env)::B1 [] X.env:=by rfl) (hpl:(Q4 pos (B1 [.Name T p2] X.env)).any (·.1)=false:=by rfl) :
  QEd X (.Call (.Name "isinstance" p) [a,.Name T p2] [] pos) (yd Tn ta):=by
 simp only[QEd.eq]at *
 have hc:cD X (.builtin "isinstance") (λxs H Q=>∃v d k M,xs=[v,.ty Tn]/\aN X.K M H d v/\uO Tn d=some k/\Q (.bl k) H):=by
  intro af s σ H xs us Q I rv h;obtain⟨v,d,k,M,rfl,rd,ek,q⟩:=h;obtain⟨u1,u2,rfl,r1,r2⟩:=aB.two rv;cases r2;exact ql hT I r1 rd ek q
 refine(mY hc hg hm (by kernel_rfl) (er ha (er (vw (v:=.ty Tn) hg2 hm2 hv2 rfl hn2 hd2) jO hs2) hs) (by decide) (by decide) hs hpl).conv λσ H Q hh=>?_;obtain⟨Δ,M,R,sr,hr,q,k⟩:=hh;exact⟨Δ,M,_,sr,hr,q,λd M1 v H1 ⟨kk,ek,q1⟩ e1 hr1 rv=>⟨v,_,kk,M1,rfl,rv.rd hr1,ek,k _ M1 _ H1 q1 e1 hr1 (by simp[Rep])⟩⟩
theorem aQ{X:Cx}:QOd X none l6:=by
 simp only[QEd.eq,QAd.eq,QTd.eq,QWd.eq,QSd.eq,QSs.eq,QId.eq,QIf.eq,QOd.eq]at *
 exact uF 
theorem aF{X:Cx}{e:D0}{te:TEd}(h:QEd X e te):QOd X (some e) (sO te):=by
 simp only[QEd.eq,QAd.eq,QTd.eq,QWd.eq,QSd.eq,QSs.eq,QId.eq,QIf.eq,QOd.eq]at *
 exact ug (h:=h)
theorem qc{X:Cx}{e:D0}{es:List D0}{t:TAd}{pos:Pos}{p:Pos}{x:Str}{k:Nat}{n:Nat}{S:SpD}(F:FnD X.prog X.w X.K X.mg X.base x k n S)(hr:bw k X.A)(hg:Gl X x)(ha:QAd X (e::es) t)(hdb:(x==("__debug__":Str))=false:=by decide)(he:B1 (e::es) X.env=(false,S7 e X.env)::B1 es X.env:=by rfl)(hpl:(Q4 pos (B1 es X.env)).any (·.1)=false:=by rfl):
  QEd X (.Call (.Name x p) (e::es) [] pos) (ow n S t):=by
 simp only[QEd.eq,QAd.eq,QTd.eq,QWd.eq,QSd.eq,QSs.eq,QId.eq,QIf.eq,QOd.eq]at *
 exact dc (F:=F) (hr:=hr) (hg:=hg) (ha:=ha) (hdb:=hdb) (he:=he) (hpl:=hpl)
theorem lX{X:Cx}{e:D0}{te:TEd}{pos:Pos}(he:QEd X e te):QSd X (.Return (some e) pos) (vP te):=by
 simp only[QEd.eq,QSd.eq]at *
 exact(l9 he).conv λD σ H hup=>hup.el λΔ M E sr hr q k=>⟨Δ,M,_,sr,hr,q,λd M1 v H1 ⟨a,ds,ed,em,q1⟩ e1 hr1 rv=>by
  subst ed;simp only[Rep]at rv;subst rv;exact k.rt _ _ _ H1 q1 (e1.trans (Ext.le LeM.del)) (hr1.le LeM.del) (Rep.froze hr1 LeM.del em lU)⟩
theorem cn{X:Cx}{te:TEd}{tg:D0}{iter:D0}(h:QEd X iter te):QId X tg iter (vE te):=by
 simp only[QEd.eq,QId.eq]at *
 intro af s σ H R I hh;obtain⟨Δ,M,R',sr,hr,q,k⟩:=hh;refine thn (h af s σ H (λv H1=>∃d ds M1,gr d=some ds/\(ds.length<=A4->R' ds M1)/\Ext M H M1 H1/\HR X.K M1 H1/\Rep X.K M1 H1 d v) I ⟨Δ,M,_,sr,hr,q,λd M1 v H1 ⟨ds,ed,q1⟩ e1 hr1 rv=>⟨d,ds,M1,ed,q1,e1,hr1,rv⟩⟩) λu s1 ⟨v,H1,I1,r1,d,ds,M1,ed,q1,e1,hr1,rv⟩=>?_;have lo:=aN.len (K:=X.K) I1 rv;cases d with
 |tup es =>
  cases ed;simp only[Rep]at rv;obtain⟨a,vs,rfl,ta,rl⟩:=rv;cases r1;obtain⟨its,rvv,p,hz⟩:=I1.tuple ta.sq;refine wpAny_pyIter_tuple (show s1.heap.IsTuple a its.toArray from p) ?_;refine⟨s1.heap.objs.size,[s1.heap.objs.size],_,_,H1,rfl,I1.kept (t':=s1.toks) λb o e=>A1 _ e,pd a _,⟨_,C3 _ rfl,rfl,rfl⟩,oE (o:=default) I1,?_⟩;refine k _ M1 _ H1 (q1 lo) e1 hr1 λM2 H2 e2 hr2 i=>⟨λd hd=>?_,λhl=>⟨vs,(ta.ext e2).sq,by rw[<-rl.length];exact hl⟩⟩;obtain⟨v,gv,r⟩:=rl.get hd;refine⟨⟨vs,v,(ta.ext e2).sq,gv⟩,λx H' ⟨eH,y⟩=>?_⟩;subst eH;have:=y vs (ta.ext e2).sq;rw[gv]at this;cases this;exact⟨Ext.refl _ _,hr2,r.ext e2⟩
 |lst es =>
  cases ed;simp only[Rep]at rv;obtain⟨a,vs,rfl,ta,rl⟩:=rv;cases r1;obtain⟨its,rvv,p,hz⟩:=I1.list (SqL.of ta.1);refine wpAny_pyIter_list p.isList ?_;refine⟨s1.heap.objs.size,[s1.heap.objs.size],_,_,H1,rfl,I1.kept (t':=s1.toks) λb o e=>A1 _ e,lT a _,⟨_,C3 _ rfl,rfl,rfl⟩,oE (o:=default) I1,?_⟩;refine k _ M1 _ H1 (q1 lo) e1 hr1 λM2 H2 e2 hr2 i=>⟨λd hd=>?_,λhl=>⟨vs,SqL.of (ta.ext e2).1,by rw[<-rl.length];exact hl⟩⟩;obtain⟨v,gv,r⟩:=rl.get hd;refine⟨⟨vs,v,SqL.of (ta.ext e2).1,gv⟩,λx H' ⟨eH,y⟩=>?_⟩;subst eH;have:=y vs (SqL.of (ta.ext e2).1);rw[gv]at this;cases this;exact⟨Ext.refl _ _,hr2,r.ext e2⟩
 |scr es =>
  cases ed;simp only[Rep]at rv;obtain⟨a,vs,rfl,ta,rl⟩:=rv;cases r1;obtain⟨its,rvv,p,hz⟩:=I1.list ta.sq;refine wpAny_pyIter_list p.isList ?_;refine⟨s1.heap.objs.size,[s1.heap.objs.size],_,_,H1,rfl,I1.kept (t':=s1.toks) λb o e=>A1 _ e,lT a _,⟨_,C3 _ rfl,rfl,rfl⟩,oE (o:=default) I1,?_⟩;refine k _ M1 _ H1 (q1 lo) e1 hr1 λM2 H2 e2 hr2 i=>⟨λd hd=>?_,λhl=>⟨vs,(ta.ext e2).sq,by rw[<-rl.length];exact hl⟩⟩;obtain⟨v,gv,r⟩:=rl.get hd;refine⟨⟨vs,v,(ta.ext e2).sq,gv⟩,λx H' ⟨eH,y⟩=>?_⟩;subst eH;have:=y vs (ta.ext e2).sq;rw[gv]at this;cases this;exact⟨Ext.refl _ _,hr2,r.ext e2⟩
 |str x =>
  simp only[gr]at ed
  by_cases hz:x.length<=A4
  ·rw[if_pos hz]at ed;cases ed;simp only[Rep]at rv;subst rv;obtain⟨t,rfl⟩:=r1;have hq:=k _ M1 _ H1 (q1 (by have hz2:x.cps.size<=A4:=hz;simpa[signs]using hz2)) e1 hr1 wH;cases ha:x.cps.all (·<128)
   ·exact wpAny_pyIter_wide ha (pj I1 "str_iterator" (by decide) (λA hA=>Walks.strWide hA _ x t) (λA i s' Q E st q=>wpAny_pyIter_striter_wide st q) hq)
   ·exact wpAny_pyIter_ascii ha (pj I1 "str_ascii_iterator" (by decide) (λA hA=>Walks.strAscii hA _ x t) (λA i s' Q E st q=>wpAny_pyIter_striter_ascii st q) hq)
  ·rw[if_neg hz]at ed;cases ed
 |_=>cases ed
theorem oX{X:Cx}{e:D0}{te:TEd}{pos:Pos}(he:QEd X e te):QSd X (.Return (some e) pos) (vQ te):=by
 simp only[QEd.eq,QSd.eq]at *
 exact(l9 he).conv λD σ H hup=>hup.el λΔ M E sr hr q k=>⟨Δ,M,_,sr,hr,q,λd M1 v H1 ⟨M2,hle,q1⟩ e1 hr1 rv =>
  k.rt _ _ _ H1 q1 (e1.trans (Ext.le hle)) (hr1.le hle) (rv.ext (Ext.le hle))⟩
theorem aE{X:Cx}{e:D0}{te:TEd}{pos:Pos}{lo hi:Option D0}{tl th:TOd}{p2:Pos}(he:QEd X e te)(hl:QOd X lo tl)(hu:QOd X hi th):QEd X (.Subscript e (.Slice lo hi none p2) pos) (yx te tl th):=by
 simp only[QEd.eq,QOd.eq]at *
 refine(rT (SlR.or tW (SlR.or wF (SlR.or xj sf))) he hl hu).conv λσ H Q hh=>?_;obtain⟨Δ,M,R,sr,hr,q,k⟩:=hh;refine⟨Δ,M,_,sr,hr,q,λx M1 v H1 q1 e1 hr1 rv=>⟨Δ,M1,_,sr.ext e1,hr1,q1,λl M2 H2 q2 e2 hr2=>⟨Δ,M2,_,(sr.ext e1).ext e2,hr2,q2,λu M3 H3 ⟨z,ez,q3⟩ e3 hr3=>?_⟩⟩⟩;have rr:=((rv.ext e2).ext e3).rd hr3;have ee:=(e1.trans e2).trans e3;have kk:∀w H',Ext M3 H3 M3 H'->HR X.K M3 H'->Rep X.K M3 H' z w->Q w H':=λw H' e4 hr4 r4=>k z M3 w H' q3 (ee.trans e4) hr4 r4;generalize rdM M3 x=d at rr ez;cases d with
 |lst ds =>
  cases ez;obtain⟨a,vs,rfl,sq,rl⟩:=rr;refine .inl ⟨a,vs,rfl,SqL.of sq,λp hp=>gq hr3 hp ?_ kk⟩;unfold bP mw;rw[<-rl.length];exact(rl.drop _).take _
 |scr ds =>
  cases ez;obtain⟨a,vs,rfl,sq,rl⟩:=rr;refine .inl ⟨a,vs,rfl,sq,λp hp=>gq hr3 hp ?_ kk⟩;unfold bP mw;rw[<-rl.length];exact(rl.drop _).take _
 |str s =>
  simp only[slE,slD]at ez
  by_cases hz:s.length<=A4
  ·rw[if_pos hz]at ez;cases ez;exact .inr (.inr (.inl ⟨s,km rr,hz,kk _ H3 (Ext.refl _ _) hr3 (by simp[Rep])⟩))
  ·rw[if_neg hz]at ez;cases ez
 |tup ds =>
  cases ez;have rt:=aN.tup hr3 rr;obtain⟨a,vs,rfl,sq,rl⟩:=rr
  by_cases hw:HT.sIx ds.length 0 l=0/\HT.sIx ds.length ds.length u=ds.length
  ·refine .inr (.inr (.inr ⟨a,vs,rfl,sq,by rw[<-rl.length];exact hw,kk _ H3 (Ext.refl _ _) hr3 ?_⟩));rw[oZ hw];exact rt
  ·refine .inr (.inl ⟨a,vs,rfl,sq,by rw[<-rl.length];exact hw,λp hp=>jy hr3 hp ?_ kk⟩);unfold bP mw;rw[<-rl.length];exact(rl.drop _).take _
 |_=>cases ez
theorem tR{X:Cx}{e:D0}{te:TEd}{ts:TEd}{pos:Pos}{st:D0}{p2:Pos}(he:QEd X e te)(hs:QEd X st ts):QEd X (.Subscript e (.Slice none none (some st) p2) pos) (rH te ts):=by
 simp only[QEd.eq]at *
 intro af s σ H Q I hh;obtain⟨Δ,M,R,sr,hr,q,k⟩:=hh;refine ac7 (thn (he af s σ H (λv H1=>∃x M1,Rep X.K M1 H1 x v/\Ext M H M1 H1/\HR X.K M1 H1/\ts Δ M1 λst M2=>st=.int (-1)/\∃ds,x=.tup ds/\R (.tup ds.reverse) M2) I
  ⟨Δ,M,_,sr,hr,q,λx M1 v H1 q1 e1 hr1 rv=>⟨x,M1,rv,e1,hr1,q1⟩⟩) λv s1 ⟨vx,H1,I1,r1,x,M1,rv,e1,hr1,q1⟩=>?_)
 refine wpAny_Slice ?_;rw[aa1];refine A3 (A3 ?_);rw[evalPart_some];refine thn (hs af s1 σ H1 (λu H2=>∃M2 ds,u=.int (-1)/\x=.tup ds/\R (.tup ds.reverse) M2/\Ext M1 H1 M2 H2/\HR X.K M2 H2) I1 ⟨Δ,M1,_,sr.ext e1,hr1,q1,λd M2 u H2 ⟨ed,ds,ex,q2⟩ e2 hr2 ru=>⟨M2,ds,by subst ed;simpa only[Rep]using ru,ex,q2,e2,hr2⟩⟩) λu s2 ⟨vu,H2,I2,r2,M2,ds,eu,ex,q2,e2,hr2⟩=>?_;subst eu;subst ex;obtain⟨tk,rfl⟩:=r2;have rv2:=rv.ext e2;simp only[Rep]at rv2;obtain⟨ad,vs,rfl,ta,rl⟩:=rv2;cases r1;have I4:Inv X af σ H2 { s2 with heap:=s2.heap.push { cls:=.type "slice",data:=.fields #[.none,.none,.int (-1) tk] } }:=I2.kept (t':=s2.toks) λb ob q=>A1 _ q;obtain⟨its,r,ht,hz⟩:=I4.tuple ta.sq;have hl:=r.length;refine tail_any (ops:=[.ref ad,.ref s2.heap.objs.size]) ht.typeIs D4.lookup (HT.getItem_tuple_rev ht (D6.IsSliceOf.new ..) ?_ (by rw[A6,<-hl];exact hz)) (by with_unfolding_all rfl);have rr:aB vs.reverse its.reverse:=aB.reverse r;refine⟨.ref _,_,I4.laid (t':=s2.toks) (o:=.tup vs.reverse) (λb ob q=>A1 _ q) (B6 _) ?_,rfl,?_⟩
 ·exact⟨by simpa using hz,_,rr,ja.new _ _⟩
 ·exact jy (ds:=ds.reverse) hr2 (I4.hok.fresh (B6 _)) rl.reverse λw H' e4 hr4 r4=>k _ M2 w H' q2 ((e1.trans e2).trans e4) hr4 r4
section
variable{X:Cx}{rest:List N5}{t:TSd}{e:D0}{tt:TTd}
theorem uL(h:QSs X rest t):vn X rest t:=by
 rw[QSs.eq]at h;exact h
theorem dO(h:QWd X e tt):QTd X e tt:=by
 simp only[QWd.eq,QTd.eq]at *
 exact PWd.pt h
end
end L2
namespace L2
open PySem PySem.Spec PyProof.Rows PySem.Builtin.Str
end L2
namespace L2
open PySem PySem.Spec PyProof.Rows
def Few(n:Int):Prop:=D1.Int.intBits n<=2 ^ 20
end L2
namespace Att
open PySem PySem.W PySem.Calls PyProof.Rows
end Att
namespace L2
open PySem PySem.Spec PyProof.Rows
section
variable{X:Cx}{pos:Pos}
def vM(i j:Int):Prop:=iH i j∨(Few i/\Few j)
theorem vM.ok{i j:Int}(h:vM i j):IntMulOk i j:=by
 rcases h with h|⟨a,b⟩
 ·exact h.ok
 ·exact .of_bits a b
def dmD:List D->Option D
 |[.int i,.int j]=>if mU i j then some (.tup [.int (i / j),.int (i % j)])else none
 |_=>none
noncomputable def zZ:List D->Option D
 |[.int i,.int j]=>some (.int (if j > i then j else i))
 |_=>none
end
open AutoSeq1 (wpAny_loadPart')
section
variable{prog:C6}{w:J1}{A:E7}{E:A0->A2->Prop}{s:A2}
theorem i8(l:A9)(its:Array A0)(n:Nat)(dct:Option A9)(sl:Array (Option A0)):
  Meets (D1.«enumerate.__new__» ⟨[.type "enumerate",.ref l],[]⟩) (λ_ R s=>s.heap.get? l=some { cls:=.type "tuple",dict:=dct,data:=.seq its n,slots:=sl } /\
   R (.ok (.ret (.ref (s.heap.push { cls:=.type "tuple_iterator",data:=.fields #[.ref l,.int 0 0] }).objs.size)))
    { s with heap:=(s.heap.push { cls:=.type "tuple_iterator",data:=.fields #[.ref l,.int 0 0] }).push { cls:=.type "enumerate",data:=.fields #[.none,.bool false,.ref s.heap.objs.size,Z5 0,.none,.none] } }) :=
 .of_wp λprog w A R s h=>by
  obtain⟨hp,g,d,tk,os⟩:=s;have hl:=h.1;have hR:=h.2;have hsb:=sub_enumerate;have hT:D6.IsTuple (A2.heap ⟨hp,g,d,tk,os⟩) l its:=⟨_,hl,rfl,n,rfl⟩
  wp_walk using S4 hl
  refine wpAny_stack_any λst=>A3 ?_
  split
  ·rename_i c _ _ _ _ _;cases(c==E5 "enumerate")<;>(wp_walk using S4 hl,wpAny_pyIter_tuple hT;exact⟨_,rfl,hR⟩)
  ·wp_walk using S4 hl,wpAny_pyIter_tuple hT
   exact⟨_,rfl,hR⟩
theorem iZ{l:A9}{its:Array A0}{Q:A0->A2->Prop}(hL:s.heap.IsTuple l its)
  (h:∀ h',IsEnum h' (s.heap.objs.size + 1) s.heap.objs.size 0 .none → h'.IsTupleIter s.heap.objs.size l 0 → h'.objs.size = s.heap.objs.size + 2 →
   (∀b o,s.heap.get? b=some o->h'.get? b=some o)->Q (.ref (s.heap.objs.size+1)) { s with heap:=h' }) :
  C1 (E2 prog w) A (call (.type "enumerate") [.ref l]) Q E s:=by
 obtain⟨⟨c,dct,dt,sl⟩,hl,hc,n,hd⟩:=hL;obtain rfl:c=.type "tuple":=hc;obtain rfl:dt=.seq its n:=hd;refine callType_new F.called_enumerate (by decide) (F.typeCall_enumerate_1 _) (F.newCall_enumerate_1 _) (λob=>F.args_object_init_2 ob _) F.entry_enumerate_new (i8 l its n dct sl) ⟨hl,?_⟩;have hz:(s.heap.push { cls:=.type "tuple_iterator",data:=.fields #[.ref l,.int 0 0] }).objs.size=s.heap.objs.size+1:=Z0 ..;show _/\_;rw[hz];have he:IsEnum ((s.heap.push { cls:=.type "tuple_iterator",data:=.fields #[.ref l,.int 0 0] }).push { cls:=.type "enumerate",data:=.fields #[.none,.bool false,.ref s.heap.objs.size,Z5 0,.none,.none] }) (s.heap.objs.size+1) s.heap.objs.size 0 .none:=by
  have q:=C3 (s.heap.push { cls:=.type "tuple_iterator",data:=.fields #[.ref l,.int 0 0] }) (o:={ cls:=.type "enumerate",data:=.fields #[.none,.bool false,.ref s.heap.objs.size,Z5 0,.none,.none] }) rfl
  rwa [hz]at q
 exact⟨⟨_,he,rfl⟩,h _ he ⟨_,A1 _ (C3 _ rfl),rfl,rfl⟩ (by rw[Z0,hz]) λb o x=>A1 _ (A1 _ x)⟩
theorem i4{it t:A9}{i:Nat}{its}{x:A0}{Q:A0->A2->Prop}(hit:s.heap.IsTupleIter it t i)(ht:s.heap.IsTuple t its)(hx:its[i]?=some x)
  (hQ:∀h',h'.IsTupleIter it t (i+1)->T5 it s.heap h'->Q x { s with heap:=h' }):C1 (E2 prog w) A (P8 (.ref it)) Q E s:=by
 obtain⟨o,ho,hc,hd⟩:=id hit;obtain⟨ol,hol,_,nl,hdl⟩:=ht;unfold P8;refine o0 (K9 (name:=D3 "__next__") hit.typeIs P0 (S1 P0 hit.typeIs F.entry_tuple_iterator_next ?_ (F.args_tuple_iterator_next_1 _)));show C1 _ _ (field (.ref it) 0 >>= _) _ _ s;refine o0 (K4 ho hd (x:=.ref t) rfl ?_);show C1 _ _ (if(C2 t==C5)=true then _ else _) _ _ s;rw[if_neg (show ¬ ((C2 t==C5)=true)from F0)];show C1 _ _ (field (.ref it) 1 >>= _) _ _ s;refine o0 (K4 ho hd (x:=.int i 0) rfl ?_);show C1 _ _ (seqItems? (.ref t) >>= _) _ _ s;refine o0 (X9 hol hdl ?_);simp only[L9,hx];refine o0 (Z1 ho hd (by simp) (A3 ⟨x,rfl,A3 (hQ _ ?_ (T5.update ..))⟩));exact⟨_,N0 _ ho (Obj.isFreed_of_fields (P6 hd _)),(Obj.cls_mapFields ..).trans hc,by rw[P6 hd];simp[Z5]⟩
theorem jN{it t:A9}{i:Nat}{its}{Q:A0->A2->Prop}(hh:A.handled=none)(hit:s.heap.IsTupleIter it t i)(ht:s.heap.IsTuple t its)(hx:its[i]?=none)
  (hE:∀h' e,D6.ExtBut it s.heap h'->(∃o,h'.get? e=some o/\o.cls=.type "StopIteration")->E (.ref e) { s with heap:=h' }):C1 (E2 prog w) A (P8 (.ref it)) Q E s:=by
 obtain⟨o,ho,hc,hd⟩:=id hit;obtain⟨ol,hol,_,nl,hdl⟩:=ht;unfold P8;refine o0 (K9 (name:=D3 "__next__") hit.typeIs P0 (S1 P0 hit.typeIs F.entry_tuple_iterator_next ?_ (F.args_tuple_iterator_next_1 _)));show C1 _ _ (field (.ref it) 0 >>= _) _ _ s;refine o0 (K4 ho hd (x:=.ref t) rfl ?_);show C1 _ _ (if(C2 t==C5)=true then _ else _) _ _ s;rw[if_neg (show ¬ ((C2 t==C5)=true)from F0)];show C1 _ _ (field (.ref it) 1 >>= _) _ _ s;refine o0 (K4 ho hd (x:=.int i 0) rfl ?_);show C1 _ _ (seqItems? (.ref t) >>= _) _ _ s;refine o0 (X9 hol hdl ?_);simp only[L9,hx];refine o0 (wpAny_rule (o0 (Z1 ho hd (by simp) ?_)));show C1 _ _ (newExc (.type "StopIteration") [] >>= _) _ _ _;refine o0 ?_;simp only[newExc,newTuple];refine o0 (F3 ?_ (by size_fits));refine o0 (m:=firstArgMember _ _) (ac0 (a:=C5) (by first|rfl|(simp only[firstArgMember];rfl)) ?_);refine F3 ?_ (by size_fits);simp only[raiseNew];refine o0 (wpAny_handled ?_)
 first|rw[show A.in1.handled=none from hh]|rw[hh]
 refine o0 (A3 (wpAny_throw ?_));exact hE _ _ (((T5.update ..).extBut.push _).push _) ⟨_,C3 _ rfl,rfl⟩
theorem qV{prog:C6}{w:J1}{A:E7}(hh:A.handled=none)(it l:A9)(hne:l≠it)(its:Array A0):
  Draws prog w A it [it,l] its.size (λi v=>its[i]?=some v) (λi h=>h.IsTupleIter it l i/\h.IsTuple l its) where
 live:=λ_ _ st=>let⟨o,ho,_⟩:=st.1;⟨o,ho⟩
 frame:=λ_ _ _ st hk=>⟨let⟨o,ho,r⟩:=st.1;⟨o,hk it (by simp) o ho,r⟩,let⟨o,ho,r⟩:=st.2;⟨o,hk l (by simp) o ho,r⟩⟩
 item:=λi s Q E hi st hQ=>i4 st.1 st.2 (x:=its[i]) (by simp[hi]) λh' hit' hs'=>hQ _ h' s.toks (by simp[hi]) ⟨hit',st.2.extBut hs'.extBut hne⟩ hs'
 done:=λs Q E st hE=>jN hh st.1 st.2 (by simp) hE
end
section
variable{X:Cx}{af:List (A9×Obj)}{σ:St}{H:Hp}{s:A2}{h':D6}
theorem Inv.turned2{t':Nat}{e it:A9}(I:Inv X af σ H s)(k:∀b o,b≠e->b≠it->s.heap.get? b=some o->h'.get? b=some o)(f1:dB X af H e)(f2:dB X af H it):Inv X af σ H { s with heap:=h',toks:=t' }:=by
 obtain⟨a0,a1,a2,a3,a4,a5⟩:=f1;obtain⟨b0,b1,b2,b3,b4,b5⟩:=f2;have nit:∀b u,H b=some u->b≠e/\b≠it:=λb u q=>⟨λz=>(by rw[z,a0]at q;cases q),λz=>(by rw[z,b0]at q;cases q)⟩;have kk:∀b o,b∉[e,it]->s.heap.get? b=some o->h'.get? b=some o:=λb o hc q=>k b o (λz=>hc (by simp[z])) (λz=>hc (by simp[z])) q;refine I.step (g':=s.gens) (d':=s.drawn) (ch:=[e,it]) (λb hb=>?_) (λb o _ _ hc q _=>kk b o hc q) (λb o _ _ hc q _=>⟨o.slots,kk b o hc q⟩) (λ_ _ _ _ n=>n)
  (λb o hc q=>⟨o,kk b o hc q⟩) (λ_ _ q=>q) (λ_ _ _ q=>q) (λb ps q=>⟨#[],by rw[q];simp⟩) (λm hm=>?_) (λb u q=>?_) I.bare
 ·rcases B9.mp hb with z|z
  ·subst z;exact⟨a3,a1,a4,a5⟩
  ·have z:=A8.mp z;subst z;exact⟨b3,b1,b4,b5⟩
 ·obtain⟨o,es,ep,ho,r⟩:=hm;exact⟨o,es,ep,k _ o (S3 a1) (S3 b1) ho,r⟩
 ·refine(I.hok b u q).stay (λc v hc q'=>?_) (λ_ q=>q) λ_ _ q=>q;rcases hc with z|z
  ·rw[z]at q' ⊢;exact k _ _ (nit b u q).1 (nit b u q).2 q'
  ·exact k c v (nit c _ z).1 (nit c _ z).2 q'
end
def ki(b:Bool)(K:u8)(H:Hp)(a:A9)(xs:List V):Prop:=match b with|true=>SqT K H a xs|false=>SqL K H a xs
def nG(b:Bool)(h:D6)(it a:A9)(i:Nat):Prop:=match b with|true=>h.IsTupleIter it a i|false=>h.IsListIter it a i
def yA(b:Bool):String:=match b with|true=>"tuple_iterator" |false=>"list_iterator"
theorem nG.obj{b:Bool}{h:D6}{it a:A9}{i:Nat}(st:nG b h it a i):∃o,h.get? it=some o/\o.cls=.type (yA b)/\o.data=.fields #[.ref a,.int i 0]:=by
 cases b<;>exact st
theorem nG.of{b:Bool}{h:D6}{it a:A9}{i:Nat}(st:∃o,h.get? it=some o/\o.cls=.type (yA b)/\o.data=.fields #[.ref a,.int i 0]):nG b h it a i:=by
 cases b<;>exact st
theorem oz{X:Cx}{af:List (A9×Obj)}{σ:St}{H:Hp}{s:A2}{b:Bool}{a it:A9}{i:Nat}{xs:List V}(hc:X.calm=true)(I:Inv X af σ H s)(hq:ki b X.K H a xs)(hit:nG b s.heap it a i):
  ∃(its:List A0) (St:Nat->D6->Prop),aB xs its/\Draws X.prog X.w X.A.in1 it [it,a] its.toArray.size (λi v=>its.toArray[i]?=some v) St/\St i s.heap/\(∀j h,St j h->nG b h it a j)/\∃o,s.heap.get? a=some o/\o.cls≠.type "enumerate":=by
 cases b with
 |true =>
  obtain⟨its,rv,p,hz⟩:=I.tuple hq;have hT:s.heap.IsTuple a its.toArray:=p;have hal:a≠it:=λz=>by
   obtain⟨o,q,c,_⟩:=hT;obtain⟨o',q',c',_⟩:=hit;rw[z,q']at q;cases q;rw[c']at c;exact absurd c (by decide)
  obtain⟨o,q,c,_⟩:=id hT;exact⟨its,_,rv,qV (A:=X.A.in1) (I.ok.hd hc) it a hal its.toArray,⟨hit,hT⟩,λj h st=>st.1,o,q,by rw[c];decide⟩
 |false =>
  obtain⟨its,rv,p,hz⟩:=I.list hq;have hT:s.heap.IsList a its.toArray:=p.isList;have hal:a≠it:=λz=>by
   obtain⟨o,q,c,_⟩:=hT;obtain⟨o',q',c',_⟩:=hit;rw[z,q']at q;cases q;rw[c']at c;exact absurd c (by decide)
  obtain⟨o,q,c,_⟩:=id hT;exact⟨its,_,rv,Draws.list (A:=X.A.in1) (I.ok.hd hc) it a hal its.toArray,⟨hit,hT⟩,λj h st=>st.1,o,q,by rw[c];decide⟩
theorem ki.inj{X:Cx}{af:List (A9×Obj)}{σ:St}{H:Hp}{s:A2}{b:Bool}{a:A9}{xs ys:List V}(I:Inv X af σ H s)(h:ki b X.K H a xs)(h':ki b X.K H a ys):xs=ys:=by
 cases b with
 |true=>exact I.tuple_inj h h'
 |false=>exact I.list_inj h h'
def Ite(b:Bool)(K:u8)(a:A9)(n:Nat):It :=
 ⟨λi H=>(∃xs,ki b K H a xs/\xs.length=n)/\i<n,λi H x H'=>∃T y,x=.ref T/\H T=none/\H'=upd H T (.tup [.int i,y])/\∀xs,ki b K H a xs->xs[i]?=some y,λi H=>(∃xs,ki b K H a xs/\xs.length=n)/\n<=i⟩
theorem dB.upd{X:Cx}{af:List (A9×Obj)}{H:Hp}{b T:A9}{o:HO}(f:dB X af H b)(h:b≠T):dB X af (upd H T o) b:=by
 obtain⟨f0,r⟩:=f;exact⟨by rw[aO h];exact f0,r⟩
theorem qQ{P:C6}{w:J1}{K:u8}{elts:List D0}{x1:Nat}{pt:Pos}(b:Bool)(a e it:A9)(n:Nat):mx P w K (.Tuple elts x1 pt) (Ite b K a n) [e,it] e (λi h=>(∃old,IsEnum h e it i old)/\nG b h it a i/\e≠it/\i<=n) where
 mem:=by simp
 obj:=λi h st c hb=>by
  rcases B9.mp hb with z|z
  ·subst z;obtain⟨⟨old,q⟩,_⟩:=st;exact⟨_,q,λv z=>by cases z⟩
  ·have z:=A8.mp z;subst z;obtain⟨_,st,_⟩:=st;obtain⟨o,q,_,d⟩:=st.obj;exact⟨o,q,λv z=>by rw[d]at z;cases z⟩
 keep:=λi h h' st k=>by
  obtain⟨⟨old,q⟩,st,ne,le⟩:=st;obtain⟨o,q2,r⟩:=st.obj;exact⟨⟨old,k e (by simp) _ q⟩,.of ⟨o,k it (by simp) o q2,r⟩,ne,le⟩
 item:=by
  intro X hP hw hK hc i af s σ H E I hf st hg;subst hP hw hK;obtain⟨⟨xs,hq,hxl⟩,hin⟩:=hg;have hx:xs[i]?=some (xs[i]'(by lia)):=by simp[hxl,hin]
  generalize xs[i]'(by lia)=x at hx;obtain⟨⟨old,he⟩,hit,hne,hle⟩:=st;obtain⟨its,St,rv,dr,hst0,hback,ob,hob,hcl⟩:=oz hc I hq hit;obtain⟨u,hu,ru⟩:=rv.get hx;have hea:e≠a:=λz=>by
   rw[<-z,he]at hob;cases hob;exact hcl rfl
  have fe:=hf e (by simp);have fi:=hf it (by simp);have hlt:i<its.toArray.size:=by
   have h1:=(A7.mp hu).1;simpa using h1
  have eT:e<s.heap.objs.size:=B4 he;have iT:it<s.heap.objs.size:=by obtain⟨o,q,_⟩:=hit.obj;exact B4 q
  refine wpAny_pyNext_enum_itemD dr he hst0 hlt hne (by simp[hne,hea]) λy h1 tk hy hout hst hTn hsz hk=>?_;have ey:y=u:=by
   have h2:its[i]?=some y:=by simpa using hy
   rw[hu]at h2;cases h2;rfl
  subst ey;refine⟨_,rfl,?_⟩;have In:H s.heap.objs.size=none:=I.hok.fresh (B6 _);have I1:Inv X af σ (upd H s.heap.objs.size (.tup [.int i,x])) { s with heap:=s.heap.push { cls:=.type "tuple",data:=.seq #[.int i tk,y] },toks:=tk+1 } :=
   I.laid (λb o q=>A1 _ q) (B6 _) ⟨by simp only[N3,W5];rw[sizeLine_eq];decide,[.int i tk,y],.cons ⟨_,rfl⟩ (.cons ru .nil),⟨_,C3 s.heap rfl,rfl,⟨0,rfl⟩,rfl⟩⟩
  have fe1:dB X af (upd H s.heap.objs.size (.tup [.int i,x])) e:=fe.upd (E4 eT);have fi1:dB X af (upd H s.heap.objs.size (.tup [.int i,x])) it:=fi.upd (E4 iT);have I2:Inv X af σ (upd H s.heap.objs.size (.tup [.int i,x])) { s with heap:=h1,toks:=tk+1 }:=I1.turned2 (t':=tk+1) (λb o hb1 hb2 q=>by
   by_cases hbs:b=s.heap.objs.size
   ·subst hbs;rw[C3 s.heap rfl]at q;cases q;exact hTn
   ·refine hk b o hb1 hb2 ?_;rcases D6.get?_push_cases q with z|z
    ·exact absurd z.1 hbs
    ·exact z) fe1 fi1
  refine wpAny_letOwnedTupleGo_enum hout λh2 he2 hs2=>?_;obtain⟨g0,g1,g2,g3,g4,g5⟩:=fe1;have I3:=I2.turned (t':=tk+1) (h':=h2) (it:=e) (λb o hb q=>(hs2.2 b hb).trans q) g0 g1 g3 g4 g5;refine⟨.ref s.heap.objs.size,_,I3,rfl,⟨_,x,rfl,In,rfl,λys hys=>by rw[ki.inj I hys hq];exact hx⟩,⟨⟨y,by simpa using he2⟩,?_,hne,hin⟩,λb hb=>?_⟩
  ·obtain⟨o,q,r⟩:=(hback _ _ hst).obj;exact .of ⟨o,(hs2.2 it (S3 hne)).trans q,r⟩
  ·rcases B9.mp hb with z|z
   ·subst z;exact g0
   ·rw[A8.mp z];exact fi1.1
 done:=by
  intro X hP hw hK hc i af s σ H E I hf st hg;subst hP hw hK;obtain⟨⟨xs,hq,hxl⟩,hx⟩:=hg;obtain⟨⟨old,he⟩,hit,hne,hle⟩:=st;obtain⟨its,St,rv,dr,hst0,_⟩:=oz hc I hq hit;obtain⟨f0,f1,f2,f3,f4,f5⟩:=hf it (by simp);have hl:=rv.length;have hi:i=its.toArray.size:=by simp;lia
  rw[hi]at hst0;exact wpAny_pyNext_enum_endD dr he hst0 λh' eb=>⟨rfl,I.turned (t':=s.toks) (λb o hb q=>eb b o hb q) f0 f1 f3 f4 f5⟩
 self:=λ_ _ _ _ _ st h=>by
  obtain⟨⟨old,he⟩,_⟩:=st;exact wpAny_pyIter_enum he h
section
variable{X:Cx}{a:D0}{t:TAd}{pos:Pos}
def j7(n:Nat):List D->List D
 |[]=>[]
 |d::r=>.tup [.int n,d]::j7 (n+1) r
theorem jX:∀(ds:List D) (n i:Nat),(j7 n ds)[i]?=(ds[i]?).map λd=>.tup [.int ((n+i:Nat):Int),d]
 |[],n,i=>by simp[j7]
 |d::r,n,0=>by simp[j7]
 |d::r,n,i+1=>by
  simp only[j7,List.getElem?_cons_succ];rw[jX r (n+1) i];have:n+1+i=n+(i+1):=by lia
  rw[this]
theorem jF:∀(ds:List D) (n:Nat),(j7 n ds).length=ds.length
 |[],_=>rfl
 |d::r,n=>by simp[j7,jF r (n+1)]
def sqD(b:Bool)(es:List D):D:=match b with|true=>.tup es|false=>.lst es
def uh(b:Bool)(ta:TAd):TId:=λΔ M R=>ta Δ M λds M1=>∃es,ds=[sqD b es]/\(es.length<=A4->R (j7 0 es) M1)
def sM(ta:TAd):TId:=λΔ M R=>ta Δ M λds M1=>∃es,ds=[.tup es]/\(es.length<=A4->R (j7 0 es) M1)
theorem xQ{K:u8}{M:DH}{H:Hp}{b:Bool}{es:List D}{v:V}(h:Rep K M H (sqD b es) v):∃a vs,v=.ref a/\aq K M H es vs/\∀M2 H2,Ext M H M2 H2->ki b K H2 a vs:=by
 cases b with
 |true =>
  simp only[sqD,Rep]at h;obtain⟨a,vs,e,ta,rl⟩:=h;exact⟨a,vs,e,rl,λM2 H2 x=>(ta.ext x).sq⟩
 |false =>
  simp only[sqD,Rep]at h;obtain⟨a,vs,e,ta,rl⟩:=h;exact⟨a,vs,e,rl,λM2 H2 x=>SqL.of (x _ _ ta.1 ta.2).1⟩
theorem oF{prog:C6}{w:J1}{A:E7}{E:A0->A2->Prop}{X:Cx}{af:List (A9×Obj)}{σ:St}{H:Hp}{s:A2}{b:Bool}{l:A9}{xs:List V}{Q:A0->A2->Prop}(I:Inv X af σ H s)(hq:ki b X.K H l xs)
  (h:∀ h',IsEnum h' (s.heap.objs.size + 1) s.heap.objs.size 0 .none → nG b h' s.heap.objs.size l 0 → h'.objs.size = s.heap.objs.size + 2 →
   (∀b o,s.heap.get? b=some o->h'.get? b=some o)->Q (.ref (s.heap.objs.size+1)) { s with heap:=h' }):C1 (E2 prog w) A (call (.type "enumerate") [.ref l]) Q E s:=by
 cases b with
 |true =>
  obtain⟨its,rv,p,hz⟩:=I.tuple hq;exact iZ (show s.heap.IsTuple l its.toArray from p) h
 |false =>
  obtain⟨its,rv,p,hz⟩:=I.list hq;exact call_enumerate_list p.isList h
theorem jo:N7 "enumerate"=some (.type "enumerate"):=by kernel_rfl
theorem uw{b:Bool}{elts:List D0}{x1:Nat}{pt p:Pos}(hg:Gl X "enumerate")(hm:X.mg "enumerate"=none)(ha:PAd X [a] t)(hs:B1 [a] X.env=[(false,S7 a X.env)]:=by rfl):PId X (.Tuple elts x1 pt) (.Call (.Name "enumerate" p) [a] [] pos) (uh b t):=by
 intro af s σ H R I hh;obtain⟨Δ,M,R',sr,hr,q,k⟩:=hh;refine Call_ (iJ I hg hm jo (O3 (thn (ha pos af s σ H (λvs H1=>∃es M1,aq X.K M1 H1 [sqD b es] vs/\(es.length<=A4->R' (j7 0 es) M1)/\Ext M H M1 H1/\HR X.K M1 H1) I ⟨Δ,M,_,sr,hr,q,λds M1 vs H1 ⟨es,ed,q1⟩ e1 hr1 rv=>⟨es,M1,by rw[<-ed];exact rv,q1,e1,hr1⟩⟩) λus s1 ⟨vs,H1,I1,r1,es,M1,rv,q1,e1,hr1⟩=>?_) hs rfl));obtain⟨v,rfl,rt⟩:=rv.one;cases r1 with
 |cons r rr =>
  cases rr;obtain⟨ad,vs,rfl,rl,ta⟩:=xQ rt;cases r;have lo:es.length<=A4:=by
   have hq:=ta _ _ (Ext.refl _ _);rw[rl.length];cases b with
   |true=>exact(I1.tuple hq).choose_spec.2.2
   |false=>exact(I1.list hq).choose_spec.2.2
  have hl2:=rl.length;refine oF I1 (ta _ _ (Ext.refl _ _)) λh' he hit hsz hk=>?_;refine wpAny_pyIter_enum he ?_;refine⟨s1.heap.objs.size+1,[s1.heap.objs.size+1,s1.heap.objs.size],_,_,H1,rfl,I1.kept (t':=s1.toks) hk,qQ b ad _ _ es.length,⟨⟨_,he⟩,hit,Nat.succ_ne_self _,R8 _⟩,λb' hb=>?_,?_⟩
  ·rcases B9.mp hb with z|z
   ·subst z;exact I1.fpOk (by lia) (I1.hok.fresh (by lia))
   ·rw[A8.mp z];exact I1.fpOk (B6 _) (I1.hok.fresh (B6 _))
  ·refine k _ M1 _ H1 (q1 lo) e1 hr1 λM2 H2 e2 hr2 i=>⟨λd hd=>?_,λhl=>⟨⟨vs,(ta _ _ e2),by lia⟩,by rw[jF]at hl;exact hl⟩⟩;rw[jX]at hd;cases hdi:es[i]? with
   |none=>rw[hdi]at hd;cases hd
   |some d0 =>
    rw[hdi]at hd;have hd':D.tup [.int ((0+i:Nat):Int),d0]=d:=by simpa using hd
    subst hd';have hi:i<es.length:=(A7.mp hdi).1;obtain⟨v0,gv,r0⟩:=rl.get hdi;refine⟨⟨⟨vs,(ta _ _ e2),by lia⟩,hi⟩,λx H' ⟨T,y,ex,hT,eH,hy⟩=>?_⟩;subst ex;subst eH;have hh:=hy vs (ta _ _ e2);rw[gv]at hh;cases hh;refine⟨Ext.new hr2 hT,hr2.new hT,?_⟩;simp only[Rep];refine⟨T,[.int i,v0],rfl,.inl ⟨.inl bh,hr2.fresh hT⟩,?_⟩;exact aq.cons (by simp[Rep]) (aq.cons ((r0.ext e2).ext (Ext.new hr2 hT)) aq.nil)
theorem ux{elts:List D0}{x1:Nat}{pt p:Pos}(hg:Gl X "enumerate")(hm:X.mg "enumerate"=none)(ha:QAd X [a] t)(hs:B1 [a] X.env=[(false,S7 a X.env)]:=by rfl):QId X (.Tuple elts x1 pt) (.Call (.Name "enumerate" p) [a] [] pos) (sM t):=by
 simp only[QAd.eq,QId.eq]at *
 exact uw (b:=true) hg hm ha hs
end
section
variable{X:Cx}{pos:Pos}
def yp(to:TE)(tl th:TO):TG:=λv σ H Q=>to σ H λo H1=>tl σ H1 λl H2=>th σ H2 λu H3=>∃la b xs ys a c,o=.ref la/\v=.ref b/\l=some a/\u=some c/\H3 la=some (.lst xs)/\H3 b=some (.lst ys)/\la≠b/\0<=a/\a<=c/\c<=xs.length/\xs.length+ys.length<=A4/\Q σ (upd H3 la (.lst (xs.take a.toNat++ys++xs.drop c.toNat)))
theorem uY{o lo hi:D0}{to:TE}{tl th:TO}{p2:Pos}(ho:PE X o to)(hl:PO X (some lo) tl)(hu:PO X (some hi) th)
  (ha:∀ v,Z4 (.Subscript o (.Slice (some lo) (some hi) none p2) pos) X.env v = (do
   let ov <-aa8 [v] (S7 o X.env)
   let iv <-aa8 [v,ov] (S7 (.Slice (some lo) (some hi) none p2) X.env)
   ad3 pos
   aa8 [v,ov,iv] (setItem ov iv v)
   release [iv,v,ov] []):=by intro _;rfl):PG X (.Subscript o (.Slice (some lo) (some hi) none p2) pos) (yp to tl th):=by
 intro af s σ H v u Q I r h;rw[ha];refine o0 (M7 (thn (ho af s σ H _ I h) λov s1 hup=>hup.el λx H1 I1 r1 q1=>?_));refine o0 (M7 (wpAny_Slice (thn (hl af s1 σ H1 _ I1 q1) λvl s2 ⟨l,H2,I2,pl,q2⟩=>thn (hu af s2 σ H2 _ I2 q2) λvu s3 ⟨c,H3,I3,pu,q3⟩=>?_)));rw[aa1];refine A3 ?_;have I4:Inv X af σ H3 { s3 with heap:=s3.heap.push { cls:=.type "slice",data:=.fields #[vl,vu,.none] } }:=I3.kept (t':=s3.toks) λb ob q=>A1 _ q;obtain⟨la,b,xs,ys,i,j,e1,e2,e3,e4,h1,h2,hne,h3,h4,h5,h6,q⟩:=q3;subst e1;subst e2;subst e3;subst e4;cases r1;cases r;have ra:aL (.int i) vl:=by cases pl;exact⟨_,rfl⟩
 have rc:aL (.int j) vu:=by cases pu;exact⟨_,rfl⟩
 exact o0 (V7 (o0 (M7 (rm I4 h1 h2 hne (D6.IsSliceOf.new ..) ra rc h3 h4 h5 h6 λs' I5=>wpAny_release ⟨σ,_,I5,q⟩))))
def vU(to te:TEd)(tl th:TOd):TSd:=λE Δ M=>te Δ M λd M1=>to Δ M1 λo M2=>tl Δ M2 λl M3=>th Δ M3 λu M4=>∃a ds ys i j,o=.ref a/\d=.lst ys/\l=some i/\u=some j/\M4 a=some (.lst ds)/\0<=i/\i<=j/\j<=ds.length/\ds.length+ys.length<=A4/\E.nx Δ (bt M4 a (.lst (ds.take i.toNat++ys++ds.drop j.toNat)))
theorem xN{o lo hi e:D0}{to te:TEd}{tl th:TOd}{p p2:Pos}(ho:QEd X o to)(hl:QOd X (some lo) tl)(hu:QOd X (some hi) th)(he:QEd X e te)
  (ha:∀ v,Z4 (.Subscript o (.Slice (some lo) (some hi) none p2) p) X.env v = (do
   let ov <-aa8 [v] (S7 o X.env)
   let iv <-aa8 [v,ov] (S7 (.Slice (some lo) (some hi) none p2) X.env)
   ad3 p
   aa8 [v,ov,iv] (setItem ov iv v)
   release [iv,v,ov] []):=by intro _;rfl) (hs:swapsWithSole [.Subscript o (.Slice (some lo) (some hi) none p2) p] e pos.line X.env=V1 false:=by rfl) (hw:swappedStores [.Subscript o (.Slice (some lo) (some hi) none p2) p] e X.env=V1 none:=by rfl)
  (h1:(Q5 [.Subscript o (.Slice (some lo) (some hi) none p2) p] X.env).map (·.2)=[Z4 (.Subscript o (.Slice (some lo) (some hi) none p2) p) X.env]:=by rfl):QSd X (.Assign [.Subscript o (.Slice (some lo) (some hi) none p2) p] e pos) (vU to te tl th):=by
 simp only[QEd.eq,QSd.eq,QOd.eq]at *
 exact(sS he (uY ho hl hu ha) hs hw h1).conv λD σ H hup=>hup.el λΔ M E sr hr q k=>⟨Δ,M,_,sr,hr,q,λd M1 v H1 q1 e1 hr1 rv=>⟨Δ,M1,_,sr.ext e1,hr1,q1,λo M2 ov H2 q2 e2 hr2 ro=>⟨Δ,M2,_,(sr.ext e1).ext e2,hr2,q2,λl M3 H3 q3 e3 hr3=>⟨Δ,M3,_,((sr.ext e1).ext e2).ext e3,hr3,q3,λu M4 H4 ⟨a,ds,ys,i,j,eo,ed,el,eu,em,b1,b2,b3,b4,q4⟩ e4 hr4=>by
   subst eo;subst ed;subst el;subst eu;have rv4:=(((rv.ext e2).ext e3).ext e4);simp only[Rep]at ro rv4;subst ro;obtain⟨b,ws,rfl,tb,rw4⟩:=rv4;obtain⟨vs,hv,rl⟩:=hr4 a _ em;have hne:a≠b:=λz=>by
    have h:=tb.2;rw[<-z,em]at h;cases h
   refine⟨a,b,vs,ws,i,j,rfl,rfl,rfl,rfl,hv,tb.1,hne,b1,b2,by rw[<-rl.length];exact b3,by rw[<-rl.length,<-rw4.length];exact b4,?_⟩;exact k.nx Δ _ σ _ q4 ((((e1.trans e2).trans e3).trans e4).trans (Ext.write em)) (hr4.write em (((rl.take _).append rw4).append (rl.drop _))) (((((sr.ext e1).ext e2).ext e3).ext e4).ext (Ext.write em))⟩⟩⟩⟩
def rY(t:TAd):TEd:=λΔ M Q=>t Δ M λds M1=>∃es,ds=[.tup es]/\∀p,M1 p=none->Q (.ref p) (bt M1 p (.lst es))
theorem uI{e:D0}{t:TAd}{p:Pos}(hg:Gl X "list")(hm:X.mg "list"=none)(hv:N7 "list"=some (.type "list"))(ha:QAd X [e] t)
  (he:B1 [e] X.env=(false,S7 e X.env)::B1 [] X.env:=by rfl) (hpl:(Q4 pos (B1 [] X.env)).any (·.1)=false:=by rfl):QEd X (.Call (.Name "list" p) [e] [] pos) (rY t):=by
 simp only[QEd.eq,QAd.eq]at *
 exact(kS gG hg hm hv ha (by decide) (by decide) he hpl).conv λσ H Q hup=>hup.el λΔ M R sr hr q k=>⟨Δ,M,_,sr,hr,q,λds M1 vs H1 ⟨es,ed,q1⟩ e1 hr1 rv=>by
   subst ed;obtain⟨v,rfl,rt⟩:=rv.one;simp only[Rep]at rt;obtain⟨a,ws,rfl,ta,rl⟩:=rt;exact⟨a,ws,rfl,.inr ta.sq,λl hl=>k _ _ _ _ (q1 l (hr1.fresh hl)) (e1.trans (Ext.own hl)) (hr1.own hl rl) (by simp only[Rep])⟩⟩
theorem wG{i j:Int}:dmD [.int i,.int j]=if mU i j then some (.tup [.int (i / j),.int (i % j)])else none:=rfl
theorem vz{i j:Int}:zZ [.int i,.int j]=some (.int (if j > i then j else i)):=rfl
theorem sv:kO 10 60=True:=by simp[kO]
end
section
variable{X:Cx}{e:D0}{te ts:TEd}{pos:Pos}
end
section
variable{κ:Type} [DecidableEq κ]
noncomputable def o8(kvs:List (κ×D))(k:κ):Option D:=(kvs.find? λkv=>decide (kv.1=k)).map (·.2)
noncomputable def yR(kvs:List (κ×D))(k:κ)(v:D):List (κ×D) :=
 if(kvs.any λkv=>decide (kv.1=k))=true then kvs.map (λkv=>if kv.1=k then(kv.1,v)else kv)else kvs++[(k,v)]
theorem rD{p:κ×D}{r:List (κ×D)}{k:κ}(e:p.1=k):o8 (p::r) k=some p.2:=by simp[o8,S6,e]
theorem tP{p:κ×D}{r:List (κ×D)}{k:κ}(e:¬ p.1=k):o8 (p::r) k=o8 r k:=by simp[o8,S6,e]
variable{K:u8}{M:DH}{H:Hp}
theorem KR.val{kvs:List (κ×D)}{ks:List (κ×V)}(h:KR K M H kvs ks)(k:κ):(∀d,o8 kvs k=some d->∃v,oi ks k=some v/\Rep K M H d v)/\(oi ks k).isSome=(o8 kvs k).isSome:=by
 unfold KR at h
 induction h with
 |nil=>exact⟨λd e=>(nomatch e),rfl⟩
 |@cons p q ps qs r t ih =>
  by_cases e:p.1=k
  ·rw[rD e,nO (r.1.symm.trans e)];exact⟨λd z=>(by cases z;exact⟨_,rfl,r.2⟩),rfl⟩
  ·rw[tP e,nh (λz=>e (r.1.trans z))];exact ih
theorem KR.any{kvs:List (κ×D)}{ks:List (κ×V)}(h:KR K M H kvs ks)(k:κ):(ks.any λkv=>decide (kv.1=k))=kvs.any λkv=>decide (kv.1=k):=by
 unfold KR at h
 induction h with
 |nil=>rfl
 |cons r _ ih=>rw[P5,P5,ih,r.1]
theorem KR.length{kvs:List (κ×D)}{ks:List (κ×V)}(h:KR K M H kvs ks):kvs.length=ks.length:=R0.length h
theorem KR.put{kvs:List (κ×D)}{ks:List (κ×V)}(h:KR K M H kvs ks)(k:κ){d:D}{v:V}(r:Rep K M H d v):KR K M H (yR kvs k d) (uV ks k v):=by
 unfold yR uV;rw[h.any k]
 by_cases e:(kvs.any λkv=>decide (kv.1=k))=true
 ·rw[if_pos e,if_pos e];clear e;unfold KR at h ⊢
  induction h with
  |nil=>exact .nil
  |@cons p q ps qs r1 t ih =>
   rw[J0,J0];refine .cons ?_ ih
   by_cases e:p.1=k
   ·rw[if_pos e,if_pos (r1.1.symm.trans e)];exact⟨r1.1,r⟩
   ·rw[if_neg e,if_neg (λz=>e (r1.1.trans z))];exact r1
 ·rw[if_neg e,if_neg e];exact R0.snoc h ⟨rfl,r⟩
end
def kD:Key->D
 |.inl i=>.int i
 |.inr x=>.str x
section
variable{X:Cx}{a b c e o i:D0}{es:List D0}{te to ti ta tb:TEd}{t:TAd}{pos:Pos}
end
section
variable{X:Cx}{a b c e o:D0}{es:List D0}{te to:TEd}{t:TAd}{pos:Pos}{tg:D0}
noncomputable def zX:List D->Option D
 |[.int i,.int j]=>some (.int (if j<i then j else i))
 |_=>none
end
section
variable{X:Cx}{tg iter elt:D0}{pos:Pos}{scope:T8}{cl:List (Str×A9)}{ms:List Bool}{ay:List Str}{ifs:List D0}
end
end L2
namespace L2
open PySem PySem.W PyProof.Rows
section
variable{α β:Type}
variable{O:KeyOrd}{key:Nat->O.α}{n:Nat}
noncomputable def kp(O:KeyOrd)(key:Nat->O.α)(p:Array Nat)(i:Nat):O.α:=key (p.getD i 0)
end
end L2
namespace L2
open PySem PySem.W PySem.Calls PyProof.Rows
end L2
namespace L2
open PySem PySem.Spec PyProof.Rows
theorem bw.units1{k:Nat}{A:E7}(r:bw k A):A.units+1<ad6:=by have:=r.un;lia
theorem zC{i:Int}{P:Key->Prop}:(∃k,D.int i=kD k/\P k)↔P (.inl i) :=
 ⟨λ⟨k,e,h⟩=>match k,e with|.inl _,rfl=>h,λh=>⟨_,rfl,h⟩⟩
theorem zA{x:Str}{P:Key->Prop}:(∃k,D.str x=kD k/\P k)↔P (.inr x) :=
 ⟨λ⟨k,e,h⟩=>match k,e with|.inr _,rfl=>h,λh=>⟨_,rfl,h⟩⟩
theorem u9{i j:Int}:zX [.int i,.int j]=some (.int (if j<i then j else i)):=rfl
@[irreducible] def tX(t:TSd):TSd:=t
theorem pT{t:TSd}:tX t=t:=by unfold tX;rfl
theorem fN{t:TSd}{E:cV}{Δ:DE}{M:DH}(h:t E Δ M):tX t E Δ M:=by rw[pT];exact h
theorem lr{X:Cx}{st:List N5}{t:TSd}(h:QSs X st t):QSs X st (tX t):=by rw[pT];exact h
theorem tp{K:Params->u8}{as:List A9}{n t:Nat}{q:C6}{loose:List Str}{XP:(Str->Option A0)->D6->Prop}{r:PySem.W.RowW}{d:DefRec}{kwd:List (Str×D0)}{run:A0->List A0->Sem A0}(hk:∀P,as=(K P).map (·.1))
  (h:PySem.W.WalkO q loose XP (λw h=>(K w.params).In h) r d kwd run):PySem.W.WalkX q loose XP (PySem.W.X.obsZ as) (PySem.W.X.valZ K n t) r d kwd run:=by
 intro w s₀ s₁ mg mb G y a o pm cd doc dV kV ho hd hcd hD hmg hg args vals as' L hpre hlay hrd hwl hlo;refine h w s₀ s₁ mg mb G (λb u hu=>L.keeps b u ?_) a o pm cd doc dV kV ho hd hcd hD hmg hg args vals as' hpre hlay hrd hwl hlo;have y1:as.map s₀.heap.get?=(K w.params).map λp=>some p.2:=congrArg (·.1) y;rw[hk w.params,T7]at y1;have key:∀(l:u8),(l.map λp=>s₀.heap.get? p.1)=l.map (λp=>some p.2)->ac2 b l=some u->s₀.heap.get? b=some u:=by
  intro l
  induction l with
  |nil=>intro _ z;cases z
  |cons p l ih =>
   intro e z;rw[J0,J0,F4]at e;rw[F1]at z
   by_cases c:b=p.1
   ·subst c;rw[beq_self_eq_true]at z;cases z;exact e.1
   ·rw[beq_eq_false_iff_ne.mpr c]at z;exact ih e.2 z
 exact key _ y1 hu
end L2
namespace L2
open PySem PySem.W PySem.Calls PyProof.Rows
end L2
namespace L2
open PySem PySem.Spec PyProof.Rows
section
variable{X:Cx}
end
section
variable{X:Cx}
def inF(x y:D):Option D:=match y with
 |.lst ds=>if dLe x 59=true/\cq ds 59=true then some (.bl (ds.any λd=>eqD d x))else none
 |_=>none
theorem zf{x:D}{ds:List D}:inF x (.lst ds)=if dLe x 59=true/\cq ds 59=true then some (.bl (ds.any λd=>eqD d x))else none:=rfl
end
section
variable{X:Cx}{a b e:D0}{ta tb te:TEd}{pos:Pos}
section
open PySem.SeqAt PySem.MeetsSeq AutoSeq1
end
end
section
variable{X:Cx}{scope:T8}{cl:List (Str×A9)}{ay:List Str}{tg:D0}{pos:Pos}
end
section
variable{X:Cx}{e:D0}{te:TEd}
def z5(kvs:List (Key×D)):D:=.box (.dk (kvs.map (·.1))) (kvs.map (·.2))
end
section
variable{X:Cx}{a b c e o i:D0}{es:List D0}{te ta tb to ti:TEd}{t:TAd}{pos:Pos}{tg iter:D0}
end
def yG:D->Option D
 |.box (.dk ks) _=>some (.lst (ks.map kD))
 |_=>none
theorem vo{kvs:List (Key×D)}:yG (z5 kvs)=some (.lst (kvs.map λp=>kD p.1)):=by
 show some (D.lst ((kvs.map (·.1)).map kD))=_;rw[T7];rfl
noncomputable def zE(s:N5)(i:Nat):N5:=match s with
 |.ClassDef _ _ _ b _ _ _ _ _ _ _=>b.getD i (.Pass ⟨0,0,0,0⟩)
 |_=>.Pass ⟨0,0,0,0⟩
noncomputable def zM:D->Option D
 |.int i=>some (.int i)
 |.bl k=>some (.int (if k then 1 else 0))
 |_=>none
theorem xG{k:Bool}:zM (.bl k)=some (.int (if k then 1 else 0)):=rfl
section
variable{X:Cx}
end
section
variable{X:Cx}{e:D0}{t:TEd}
end
section
variable{P:C6}{w:J1}{K:u8}{h base:D6}{mg:Str->Option A0}{x qual:Str}{st:N5}{f:A9}{fd:B2}{k:Nat}{S:SpD}
structure aT(K:u8) (x:Str) (st:N5) (f:A9) (fd:B2):Prop where
 a:C9 K B7 x=some (some (.ref f))
 F:Fun K x x st f fd
theorem yy{oc:A0}{od an:Option A9}{osl:Array (Option A0)}{kV doc pm cdv ct:A0}(a:C9 K B7 x=some (some (.ref f)))(l:K.lookup f=some ⟨oc,od,.func (P4 x x (de st) (bM st) (aj st) .none kV doc pm an cdv ct),osl⟩)
  (c:S2 K cdv x=true) (k:K3 K (.ref f)=true):aT K x st f (P4 x x (de st) (bM st) (aj st) .none kV doc pm an cdv ct):=⟨a,o4 l c k⟩
theorem usS{p:List A0->Prop}{n:Nat}(h:∀a us,us.length=n->p (a::us)):∀us:List A0,us.length=n+1->p us:=by
 intro us e;cases us with
 |nil=>cases e
 |cons a us=>exact h a us (Nat.succ.inj e)
theorem us0{p:List A0->Prop}(h:p []):∀us:List A0,us.length=0->p us:=by
 intro us e;cases us with
 |nil=>exact h
 |cons a us=>cases e
def Bd(x qual:Str)(st:N5)(ps:List Str)(us:List A0):Prop:=∀(kV doc pm:A0) (an:Option A9) (cdv ct:A0),bindArgs (P4 x qual (de st) (bM st) (aj st) .none kV doc pm an cdv ct) ⟨us,[]⟩=V1 (ps.zip us)
theorem m9{ps:List Str}(F:Fun K x qual st f fd)(b:∀us:List A0,us.length=ps.length->Bd x qual st ps us):bS K fd ps []:=F.binds λkV doc pm an cdv ct us hl=>b us hl kV doc pm an cdv ct
variable{p1 p2 p3 p4 p5:Str}
theorem bd1(F:Fun K x qual st f fd)(b:∀a,Bd x qual st [p1] [a]):bS K fd [p1] []:=m9 F (usS λa=>us0 (b a))
theorem bd2(F:Fun K x qual st f fd)(b:∀a c,Bd x qual st [p1,p2] [a,c]):bS K fd [p1,p2] []:=m9 F (usS λa=>usS λc=>us0 (b a c))
theorem bd3(F:Fun K x qual st f fd)(b:∀a c d,Bd x qual st [p1,p2,p3] [a,c,d]):bS K fd [p1,p2,p3] []:=m9 F (usS λa=>usS λc=>usS λd=>us0 (b a c d))
theorem bd4(F:Fun K x qual st f fd)(b:∀a c d e,Bd x qual st [p1,p2,p3,p4] [a,c,d,e]):bS K fd [p1,p2,p3,p4] []:=m9 F (usS λa=>usS λc=>usS λd=>usS λe=>us0 (b a c d e))
theorem bd5(F:Fun K x qual st f fd)(b:∀a c d e g,Bd x qual st [p1,p2,p3,p4,p5] [a,c,d,e,g]):bS K fd [p1,p2,p3,p4,p5] []:=m9 F (usS λa=>usS λc=>usS λd=>usS λe=>usS λg=>us0 (b a c d e g))
theorem fg{ps:List Str}{n:Nat}(X:K.In h)(G:h.Ns B7 mg)(i:aT K x st f fd)(o:aK P w K mg base CX0 k f fd ps (spD K n S))(b:bS K fd ps []):FnD P w K mg base x k n S:=⟨_,_,_,o,F2 X G i.a,i.F.kp,b⟩
theorem xZ{fa:A9}{sp:Sp}{lp:C6}(X:K.In h)(G:h.Ns B7 mg)(hfa:mg "law"=some (.ref fa))(i:aT K "law" st f fd)(b:∀a,Bd "law" "law" st [p1] [a])(o:∀base:D6,aK lp w K mg base CX0 k f fd [p1] sp):
  ∃fd:B2,(∀(s:A2) (v:A0),ac6 s fd ⟨[v],[]⟩ [(p1,v)])/\∀base:D6,K.In base->base.Ns B7 mg->aK lp w K mg base CX0 k fa fd [p1] sp:=by
 have e:=hfa.symm.trans (F2 X G i.a);cases e;refine⟨fd,λs v=>?_,λbase _ _=>o base⟩;obtain⟨oc,od,kV,doc,pm,an,cdv,ct,osl,rfl,lk,hcd⟩:=i.F.ex;exact .of_eq (b v kV doc pm an cdv ct)
end
theorem nbh{op:ab6}{b:D0}(h:op≠.In:=by decide)(h2:op≠.NotIn:=by decide):N6 op b=false:=gR b h h2
theorem fsc{N P:List Str}{sc:T8}(a:sc.kind=.function:=by exact rfl)(b:sc.isCoroutine=false:=by exact rfl)(c:sc.isGenerator=false:=by exact rfl)(d:N.Nodup:=by decide +kernel)(e:N.take P.length=P:=by exact rfl)
  (f:∀x∈P,sc.names.lookup x=some .local∨sc.names.lookup x=some .cell:=by decide +kernel) (g:∀y∈sc.names,y.2≠.free:=by decide +kernel):ar N P sc:=⟨a,b,c,d,e,f,g⟩
section
variable{X:Cx}{e:D0}{es:List D0}{t:TAd}{pos p:Pos}{x:Str}{j k n:Nat}{S:SpD}
theorem qd(F:FnD X.prog X.w X.K X.mg X.base x j n S)(hr:bw k X.A)(ha:QAd X (e::es) t)(h:j<=k:=by decide)(hg:Gl X x:=by exact rfl)(hdb:(x==("__debug__":Str))=false:=by decide)(he:B1 (e::es) X.env=(false,S7 e X.env)::B1 es X.env:=by rfl)(hpl:(Q4 pos (B1 es X.env)).any (·.1)=false:=by rfl):
  QEd X (.Call (.Name x p) (e::es) [] pos) (ow n S t):=qc F (hr.mono h) hg ha hdb he hpl
end
end L2
namespace L2
open PySem
end L2
namespace L2
open PySem PySem.SetTable
def rs(mask:Nat)(h:Int):Nat->Nat×Nat
 |0=>(bits h % (mask+1),bits h)
 |n+1=>leap mask (rs mask h n).1 (rs mask h n).2
variable{mask:Nat}{h:Int}
end L2
namespace L2
open PySem PySem.Spec PyProof.Rows
section
variable{X:Cx}{o i:D0}{to ti:TEd}{pos:Pos}
end
section
variable{P:C6}{w:J1}{K:u8}{mg:Str->Option A0}{base:D6}{f:A9}{fd:B2}
theorem Fun.okR{x qual:Str}{st:N5}{f:A9}{fd:B2}{N ps:List Str}{k n:Nat}{S:SpD}(F:Fun K x qual st f fd)(hn:ps.length=n)(Sc:ar N ps (aj st))
  (hbody:∀ (cdv:A0) (A:E7) (outer:List Env) (s:A2) (H:Hp) (E:XK),bw k (A.deeper (U2 qual (aj st) s.heap.objs.size f cdv)) →
   ∃t:TSd,QSs (j8 CX0 P w K mg base N qual (aj st) f cdv A outer s H E).nox (bM st) t/\∀ds M R (G:Prop),S ds M R->(t { nx:=λ_ M'=>R .non M',rt:=R } (dR N ds) M->G)->G):aK P w K mg base CX0 (k+1) f fd ps (spD K n S):=by
 refine F.okD hn Sc λcdv A outer s H E hr=>?_;obtain⟨t,h1,h2⟩:=hbody cdv A outer s H E hr;exact⟨t,uL h1,λds M R _ hS=>h2 ds M R _ hS id⟩
theorem shr{p:Prop}(h:∀q:Prop,(p->q)->q):p:=h p id
end
end L2
namespace L2
open PySem PyProof.Rows
section
variable{prog:C6}{w:J1}{A:E7}{E:A0->A2->Prop}{s:A2}{O:KeyOrd}{key:Keyed->O.α}{a0:List Keyed}{κ:SortKind}
structure SB(a0:List Keyed) (κ:SortKind) (st:SortSt):Prop where
 perm:(arrOf st).toList.Perm a0
 kind:X4 st=κ
 fail:failedOf st=none
theorem SB.size{st:SortSt}(h:SB a0 κ st):(arrOf st).size=a0.length:=by rw[<-R5];exact h.perm.length_eq
end
end L2
namespace L2
open PySem PySem.SetTable
variable{mask:Nat}{h:Int}
variable{mask:Nat}
end L2
namespace L2
open PySem PySem.SetTable PySem.SeqAt
structure TK(prog:C6) (w:J1) (τ:Type) where
 is:D6->τ->A0->Prop
 hash:τ->Int
 room:E7->Prop
 pyHash:∀{A:E7} {E:A0->A2->Prop} {s:A2} {x:τ} {v:A0} {Q:Int->A2->Prop},room A->is s.heap x v->(∀t,s.toks<=t->Q (hash x) { s with toks:=t })->C1 (E2 prog w) A (PySem.pyHash v) Q E s
 eqB:∀{A:E7} {s:A2} {x y:τ} {v u:A0},room A->is s.heap x v->is s.heap y u->∃b:Bool,(b=true↔x=y)/\EqAt A s v u b
 quiet:∀{A:E7} {E:A0->A2->Prop} {s:A2} {x:τ} {v:A0} {Q:Bool->A2->Prop},room A->is s.heap x v->Q true s->C1 (E2 prog w) A (eqIsQuiet 8 v) Q E s
 noCls:∀{A:E7} {E:A0->A2->Prop} {s:A2} {x:τ} {v:A0} {Q:Bool->A2->Prop},room A->is s.heap x v->Q false s->C1 (E2 prog w) A (ofAClassStatement 8 v) Q E s
 byV:∀{A:E7} {E:A0->A2->Prop} {s:A2} {x:τ} {v:A0} {Q:Bool->A2->Prop},room A->is s.heap x v->(∀b,Q b s)->C1 (E2 prog w) A (hashByValue 8 v) Q E s
 ref:∀{h:D6} {x:τ} {v:A0},is h x v->∃a,v=.ref a
variable{prog:C6}{w:J1}{τ:Type}{κ:TK prog w τ}{A:E7}{E:A0->A2->Prop}{s:A2}
variable{prog:C6}{w:J1}{τ:Type}{κ:TK prog w τ}{A:E7}{E:A0->A2->Prop}{s:A2}
end L2
namespace L2
open PySem PySem.Spec PyProof.Rows PySem.SeqAt
inductive KD where
 |int (i:Int)|str (x:Str)|tup (ks:List KD)
 deriving Inhabited
def hK(w:J1):Nat->KD->Int
 |_,.int i=>hashInt i
 |_,.str x=>hashStr w x
 |0,.tup _=>0
 |n+1,.tup ds=>reduceHash (D1.Tuple.tupleHashOf (ds.map (hK w n)))
end L2
namespace L2
open PySem PySem.Spec PyProof.Rows
end L2
namespace L2
open PySem PySem.Spec PyProof.Rows PySem.SeqAt
mutual
def Cm:KD->KD->Prop
 |.int _,.int _=>True
 |.str _,.str _=>True
 |.tup a,.tup b=>Cms a b
 |_,_=>False
def Cms:List KD->List KD->Prop
 |a::as,b::bs=>Cm a b/\Cms as bs
 |_,_=>True
end
end L2
namespace L2
open PySem PySem.W PySem.Calls PyProof.Rows PySem.SeqAt
end L2
namespace L2
open PySem PySem.Spec PyProof.Rows PySem.Calls PySem.SeqAt
mutual
def kd:KD->D
 |.int i=>.int i
 |.str x=>.str x
 |.tup ks=>.tup (kds ks)
def kds:List KD->List D
 |[]=>[]
 |k::ks=>kd k::kds ks
end
mutual
theorem yb:∀{a b:KD},kd a=kd b->a=b
 |.int _,.int _,h=>by simp[kd]at h;rw[h]
 |.int _,.str _,h=>by simp[kd]at h
 |.int _,.tup _,h=>by simp[kd]at h
 |.str _,.int _,h=>by simp[kd]at h
 |.str _,.str _,h=>by simp[kd]at h;rw[h]
 |.str _,.tup _,h=>by simp[kd]at h
 |.tup _,.int _,h=>by simp[kd]at h
 |.tup _,.str _,h=>by simp[kd]at h
 |.tup a,.tup b,h=>by simp only[kd,D.tup.injEq]at h;rw[pE h]
theorem pE:∀{a b:List KD},kds a=kds b->a=b
 |[],[],_=>rfl
 |[],_::_,h=>by simp[kds]at h
 |_::_,[],h=>by simp[kds]at h
 |a::as,b::bs,h=>by
  simp only[kds,F4]at h;rw[yb h.1,pE h.2]
end
def kh(ks:List KD):D:=.tup (kds ks)
end L2
namespace L2
open PySem PySem.Spec PyProof.Rows PySem.Calls PySem.SeqAt PySem.W
open Classical in
instance decKs:DecidableEq (List KD):=λ_ _=>propDecidable _
end L2
namespace L2
open PySem PySem.Spec PyProof.Rows PySem.Calls PySem.SeqAt
end L2
namespace L2
open PySem PySem.Spec PyProof.Rows
end L2
namespace L2
open PySem PySem.Spec PyProof.Rows PySem.Calls PySem.SeqAt
end L2
namespace L2
open PySem PySem.Spec PyProof.Rows
section
open PySem.Calls PySem.SeqAt
variable{X:Cx}{af:List (A9×Obj)}{s:A2}{σ:St}{H:Hp}{M:DH}{K:u8}
end
end L2
namespace L2
open PySem PySem.Spec PyProof.Rows PySem.Calls PySem.SeqAt
end L2
namespace L2
open PySem PySem.Spec PyProof.Rows PySem.Builtin PySem.Builtin.Str StrLaws
end L2
namespace L2
open PySem PySem.Spec PyProof.Rows
open AutoSeq1 (wpAny_loadPart')
def mB(Φ:Obj->Prop):Prop:=∀o v,Φ o->Φ (o.mapFields (·.setIfInBounds 1 v))
def xw(h base:D6)(e:A9)(Φ:Obj->Prop)(fl:A0):Prop :=
 ∃oe vs T oT ts,h.get? e=some oe/\Φ oe/\oe.data=.fields vs/\vs[1]?=some (.ref T)/\base.get? T=none/\T≠e/\h.get? T=some oT/\oT.data=.fields ts/\ts[3]?=some fl
def GoX(base:D6)(l:List Env)(e:A9)(Φ:Obj->Prop)(fl:A0)(h h':D6):Prop:=base.StaysIn h'/\h'.FunFrames base l/\xw h' base e Φ fl/\h.UpToSlots h'
section
variable{M:Model}{A:E7}{E:A0->A2->Prop}{s:A2}{base:D6}{env:Env}{outer l:List Env}{L e:A9}{Φ:Obj->Prop}{Q:Unit->A2->Prop}
theorem rR{oe:Obj}{vs:Array A0}{head:A0}{hadNext:Bool}(st:mB Φ)
  (hfr:A.frames=some (env::outer)) (hl:s.heap.FunFrames base (env::outer)) (hf:env.frame=some L)
  (he:s.heap.get? e=some oe) (hkb:base.StaysIn s.heap) (hen:base.get? e=none) (hd:oe.data=.fields vs) (hsz:1<vs.size) (h0:Φ oe)
  (h:∀h',GoX base (env::outer) e Φ (Z5 L) s.heap h'->Q () { s with heap:=h' }) :
  C1 M A (do let a <-frameOf env;let pl <-entryPlaceOf L hadNext;let b <-EntryCells.newEntry head a .none (Z5 L) .none pl;setField (.ref e) 1 b) Q E s:=by
 have hene:e∉(env::outer).filterMap (·.frame):=λhm=>by
  obtain⟨_,o,ho,hnf⟩:=hl.mem hm;rw[he]at ho;cases ho;exact hnf vs hd
 refine o0 (wpAny_frameOf_fun hfr hl hf λh1 hs1=>?_);refine o0 (wpAny_entryPlaceOf λpl hpl=>?_);unfold EntryCells.newEntry newFields;refine o0 (F3 ?_ (hpl.sizeOk5 _ _ _ _ _));have he1:h1.get? e=some oe:=(hs1.2.1 e hene).trans he;have kb1:base.StaysIn h1:=λb o hbo=>(hs1.2.1 b λhm=>by rw[(hl.mem hm).1]at hbo;cases hbo).trans (hkb b o hbo);have ts3:([head,.ref L,.none,Z5 L,.none]++(if pl.isEmpty then B3 6 C5 else pl)).toArray[3]?=some (Z5 L):=by simp
 generalize ([head,.ref L,.none,Z5 L,.none]++(if pl.isEmpty then B3 6 C5 else pl)).toArray=ts at ts3 ⊢;have he2:=A1 (h:=h1) { cls:=.type "traceback",dict:=none,data:=.fields ts } he1;refine Z1 he2 hd hsz (h _ ?_);have hTe:h1.objs.size≠e:=X0 (B4 he1);have hd3:=P6 hd (·.setIfInBounds 1 (C2 h1.objs.size));have he3:=N0 (S8 (·.setIfInBounds 1 (C2 h1.objs.size))) he2 (Obj.isFreed_of_fields hd3);have hT3:=(E1 (h1.push { cls:=.type "traceback",dict:=none,data:=.fields ts }) (S8 (·.setIfInBounds 1 (C2 h1.objs.size))) (S3 hTe)).trans (C3 h1 rfl);have keep:∀b o,b≠e->h1.get? b=some o->((h1.push { cls:=.type "traceback",dict:=none,data:=.fields ts }).update e (S8 (·.setIfInBounds 1 (C2 h1.objs.size)))).get? b=some o:=λb o hbe hb=>by
  rw[E1 _ _ (S3 hbe)];exact A1 _ hb
 have noRec:∀b o,s.heap.get? b=some o->(∀vs,o.data≠.fields vs)->b≠e:=λb o hb hnf q=>by
  rw[q,he]at hb;cases hb;exact hnf vs hd
 refine⟨λb o hbo=>keep b o (λq=>by rw[q,hen]at hbo;cases hbo) (kb1 b o hbo),hl.of_keeps λb o hb hnf=>?_,?_,λb o hb hnf=>?_⟩
 ·obtain⟨sl,hs⟩:=hs1.2.2 b o hb;exact⟨_,keep b _ (noRec b o hb hnf) hs,rfl⟩
 ·exact⟨_,_,h1.objs.size,_,_,he3,st _ _ h0,hd3,by simp[hsz],kb1.fresh,hTe,hT3,rfl,ts3⟩
 ·obtain⟨sl,hs⟩:=hs1.2.2 b o hb;exact⟨sl,keep b _ (noRec b o hb hnf) hs⟩
theorem pF{fl:A0}(hkb:base.StaysIn s.heap)(hl:s.heap.FunFrames base l)(ht:xw s.heap base e Φ fl)(h:∀h',GoX base l e Φ .none s.heap h'->Q () { s with heap:=h' }):C1 M A (setFlight (.ref e) none) Q E s:=by
 obtain⟨oe,vs,T,oT,ts,he,h0,hd,h1,hnT,hTe,hT,hdT,h3⟩:=ht;have hsz3:3<ts.size:=(K1.mp h3).1;have other:∀b,b≠T->(s.heap.update T (S8 λx=>x.setIfInBounds 3 C5)).get? b=s.heap.get? b:=λb hb=>E1 _ _ (S3 hb);have noRec:∀b o,s.heap.get? b=some o->(∀vs,o.data≠.fields vs)->b≠T:=λb o hb hnf q=>by
  rw[q,hT]at hb;cases hb;exact hnf ts hdT
 refine wpAny_setFlight_none he hd h1 hT hdT hsz3 (h _ ⟨λb o hbo=>(other b λq=>by rw[q,hnT]at hbo;cases hbo).trans (hkb b o hbo),hl.of_keeps λb o hb hnf=>⟨o,(other b (noRec b o hb hnf)).trans hb,rfl⟩,?_,λb o hb hnf=>⟨o.slots,(other b (noRec b o hb hnf)).trans hb⟩⟩);exact⟨oe,vs,T,_,_,(other e (S3 hTe)).trans he,h0,hd,h1,hnT,hTe,N0 _ hT (Obj.isFreed_of_fields (P6 hdT _)),P6 hdT _,by simp[hsz3]⟩
theorem om{oe:Obj}{vs:Array A0}(st:mB Φ)(hfr:A.frames=some (env::outer))(hl:s.heap.FunFrames base (env::outer))(hf:env.frame=some L)
  (he:s.heap.get? e=some oe) (hkb:base.StaysIn s.heap) (hen:base.get? e=none) (hd:oe.data=.fields vs) (h1:vs[1]?=some .none) (h0:Φ oe)
  (h:∀h',GoX base (env::outer) e Φ .none s.heap h'->Q () { s with heap:=h' }):C1 M A (leaving env (.ref e)) Q E s:=by
 unfold leaving ac5;simp only[hf];refine o0 (o0 (K4 he hd h1 ?_));rw[if_neg (by decide)];exact rR st hfr hl hf he hkb hen hd (K1.mp h1).1 h0 λh2 ⟨g1,g2,g3,g4⟩=>pF g1 g2 g3 λh3 ⟨k1,k2,k3,k4⟩=>h h3 ⟨k1,k2,k3,g4.trans k4⟩
theorem zr(st:mB Φ)(hfr:A.frames=some (env::outer))(hl:s.heap.FunFrames base (env::outer))(hf:env.frame=some L)(ht:xw s.heap base e Φ .none)(hkb:base.StaysIn s.heap)(hen:base.get? e=none)
  (h:∀h',GoX base (env::outer) e Φ (Z5 L) s.heap h'->Q () { s with heap:=h' }):C1 M A (ac5 (.ref e) env) Q E s:=by
 obtain⟨oe,vs,T,oT,ts,he,h0,hd,h1,hnT,hTe,hT,hdT,h3⟩:=ht;unfold ac5;simp only[hf];refine o0 (K4 he hd h1 ?_);rw[if_pos (show(C2 T != C5)=true from by simp)];refine o0 (K4 hT hdT h3 ?_);rw[if_neg (show ¬ ((C5==Z5 L)=true)from by simp[Z5])];refine o0 (Z1 hT hdT (K1.mp h3).1 ?_);have other:∀b,b≠T->(s.heap.update T (S8 (·.setIfInBounds 3 C5))).get? b=s.heap.get? b:=λb hb=>E1 _ _ (S3 hb);have noRec:∀b o,s.heap.get? b=some o->(∀vs,o.data≠.fields vs)->b≠T:=λb o hb hnf q=>by
  rw[q,hT]at hb;cases hb;exact hnf ts hdT
 refine rR st hfr (hl.of_keeps λb o hb hnf=>⟨o,(other b (noRec b o hb hnf)).trans hb,rfl⟩) hf ((other e (S3 hTe)).trans he)
  (λb o hbo=>(other b λq=>by rw[q,hnT]at hbo;cases hbo).trans (hkb b o hbo)) hen hd (K1.mp h1).1 h0
  λh' ⟨x1,x2,x3,x4⟩=>h h' ⟨x1,x2,x3,λb o hb hnf=>x4 b o ((other b (noRec b o hb hnf)).trans hb) hnf⟩
end
theorem i9{prog:C6}{w:J1}{A:E7}{E:A0->A2->Prop}{h:D6}{g:Array ac9}{d:Drawn}{t:Nat}{os:OsState}{nm q:Str}{C N:A9}{bs bm bmB:List A0}{hdct:Bool}
  {sn:List Str} {sub:List A0} {ab:Bool} {col:Option Bool} {dd:Option A9} {k0 k1 k2 k3 k5:Option A0} {B newId initId:String} (F:ExcBaseFacts B newId initId bmB) (T:ad9 h bmB bm)
  {K:u8} {rest:List A0} {fI:A9} {oI:Obj} {Q:PySem.Fin->A2->Prop} (hC:h.get? C=some (S0 nm q C N bs bm hdct sn sub ab col dd k0 k1 k2 k3 k5 newId)) (hn:K.In h)
  (hi:P9 K (.ref C) "__init__"=some (some (C2 fI))) (hfI:h.get? fI=some oI) (hfc:oI.cls=E5 "function")
  (hq:∀(h':D6) (e:A9),h.objs.size<=e->h.MadeExcOf h' e (C2 C) rest->C1 (E2 prog w) A (call (C2 fI) (C2 e::rest)) (λr s'=>r=C5/\Q (Fin.done (Flow.ret (C2 e))) s') E { heap:=h',gens:=g,drawn:=d,toks:=t,os:=os })
  (hrest:rest.length<=A4):C1 (E2 prog w) A (D1.«type.__call__» { pos:=C2 C::rest }) Q E { heap:=h,gens:=g,drawn:=d,toks:=t,os:=os }:=by
 unfold D1.«type.__call__»;dsimp only;refine J3 (W6 (decide ((C2 C==E5 "type")=true))) (o0 ?_);show C1 _ _ (F7 _ _) _ _ _;refine o0 ?_;show C1 _ _ (F7 _ _) _ _ _;refine o0 (aa5 hC (A3 (A3 ?_)));refine J3 (W6 (decide ({ name:=nm,bases:=bs,mro:=C2 C::bm,ns:=N,qualname:=q,hasDict:=hdct,slotNames:=sn,subclasses:=sub,abstract:=ab,collection:=col:ClassData }.mro.isEmpty=true))) ?_;refine o0 (wpAny_madeBy_exc hC (o0 (A3 (o0 (M7 (Z6 ?_))))));refine codeAny_call_builtin_code (Code.quiet_builtin { pos:=C2 C::rest } F.quiet) (wpAny_check_new_subT F T hC (codeAny_exc_new_subT F T hC ?_ hrest));have hC₁:=A1 { cls:=C2 C,data:=T4 #[C2 h.objs.size,C5,C5,C5,V9 false,C5] } (A1 { cls:=E5 "tuple",data:=ab4 rest.toArray } hC);have hfI₁:=A1 { cls:=C2 C,data:=T4 #[C2 h.objs.size,C5,C5,C5,V9 false,C5] } (A1 { cls:=E5 "tuple",data:=ab4 rest.toArray } hfI);have kp:∀b o,h.get? b=some o->((h.push { cls:=E5 "tuple",data:=ab4 rest.toArray }).push { cls:=C2 C,data:=T4 #[C2 h.objs.size,C5,C5,C5,V9 false,C5] }).get? b=some o:=λb o e=>A1 _ (A1 _ e);have hn₁:=hn.keeps kp;have hget:=D6.get?_push_at (h:=h.push { cls:=E5 "tuple",data:=ab4 rest.toArray }) (a:=h.objs.size+1) (o:={ cls:=C2 C,data:=T4 #[C2 h.objs.size,C5,C5,C5,V9 false,C5] }) (by rw[Z0]) rfl;show C1 _ _ (F7 _ _) _ _ _;refine o0 (o0 ?_);show C1 _ _ (F7 _ _) _ _ _;refine o0 (O1 hget (A3 (wpAny_isSubtype_exc hC₁ ?_)));rw[show(C2 C::bm).contains (C2 C)=true by simp];refine J3 (W6 (decide ((!true)=true))) (o0 (M7 ?_));show C1 _ _ (F7 _ _) _ _ _;refine o0 ?_;show C1 _ _ (F7 _ _) _ _ _;refine o0 ?_;show C1 _ _ (F7 _ _) _ _ _;refine o0 (O1 hget (A3 ?_));refine PySem.W.Looks.here (PySem.W.looks_findIn hn₁ hi) ?_;refine M7 (o0 ?_);show C1 _ _ (F7 _ _) _ _ _;refine o0 (T6 ⟨oI,hfI₁,hfc⟩ ?_);refine U9 (W6 (decide ((E5 "function"==E5 "function" || E5 "function"==E5 "method_descriptor" || E5 "function"==E5 "wrapper_descriptor")=true))) (A3 ?_);refine o0 (I0 (hq _ (h.objs.size+1) (ac3 _) ⟨kp,?_,h.objs.size,hget,?_,?_⟩) ?_ λ_ _ z=>z)
 ·exact Q0 (ac3 _)
 ·exact Q0 (B6 _)
 ·exact A1 _ (C3 _ rfl)
 ·rintro r s' ⟨rfl,hQ⟩;exact A3 (J3 (W6 (decide ((C5 != C5)=true))) (A3 hQ))
theorem o6{prog:C6}{w:J1}{A:E7}{E:A0->A2->Prop}{h:D6}{g:Array ac9}{d:Drawn}{t:Nat}{os:OsState}{nm q:Str}{C N:A9}{bs bm bmB:List A0}{hdct:Bool}
  {sn:List Str} {sub:List A0} {ab:Bool} {col:Option Bool} {dd:Option A9} {k0 k1 k2 k3 k5:Option A0} {B newId initId:String} (F:ExcBaseFacts B newId initId bmB) (T:ad9 h bmB bm)
  {K:u8} {rest:List A0} {fI:A9} {oI:Obj} {Q:A0->A2->Prop} (hC:h.get? C=some (S0 nm q C N bs bm hdct sn sub ab col dd k0 k1 k2 k3 k5 newId)) (hn:K.In h)
  (hi:P9 K (.ref C) "__init__"=some (some (C2 fI))) (hfI:h.get? fI=some oI) (hfc:oI.cls=E5 "function")
  (hq:∀(h':D6) (e:A9),h.objs.size<=e->h.MadeExcOf h' e (C2 C) rest->C1 (E2 prog w) (A.under (Code.builtin "type.__call__" { pos:=C2 C::rest })) (call (C2 fI) (C2 e::rest)) (λr s'=>r=C5/\Q (C2 e) s') E { heap:=h',gens:=g,drawn:=d,toks:=t,os:=os })
  (hrest:rest.length<=A4):C1 (E2 prog w) A (call (C2 C) rest) Q E { heap:=h,gens:=g,drawn:=d,toks:=t,os:=os }:=by
 have f1:=tc_lookup;have f2:=tc_bind (C2 C);have hT:A2.TypeIs { heap:=h,gens:=g,drawn:=d,toks:=t,os:=os } (C2 C) "type":=⟨_,hC,rfl⟩;refine Z6 (codeAny_of_tree ?_);show C1 _ _ (F7 _ _) _ _ _;refine o0 (aa5 hC ?_);show C1 _ _ (F7 _ _) _ _ _;refine o0 (wpAny_specialOf hT f1 (o0 (ac0 f2 (o0 ?_))));refine A3 (U9 (W6 (decide (("type.__call__"=="type.__call__")=true))) ?_);refine A3 ⟨rfl,codeAny_call_builtin_at (Code.quiet_builtin _ (by decide +kernel)) entry_typeCall (wpAny_check_type_call_sub hC (i9 F T hC hn hi hfI hfc (λh' e hz hm=>hq h' e hz hm) hrest))⟩
theorem j4{prog:C6}{w:J1}{A:E7}{E:A0->A2->Prop}{h:D6}{g:Array ac9}{d:Drawn}{t:Nat}{os:OsState}{nm q:Str}{C N e:A9}{bs bm bmB:List A0}{hdct:Bool}
  {sn:List Str} {sub:List A0} {ab:Bool} {col:Option Bool} {dd:Option A9} {k0 k1 k2 k3 k5:Option A0} {B newId initId:String} (F:ExcBaseFacts B newId initId bmB) (T:ad9 h bmB bm)
  {rest:List A0} {oe:Obj} {a0 a1 a2 a3 a4 a5:A0} {Q:A0->A2->Prop} (hC:h.get? C=some (S0 nm q C N bs bm hdct sn sub ab col dd k0 k1 k2 k3 k5 newId))
  (he:h.get? e=some oe) (hcl:oe.cls=.ref C) (hda:oe.data=.fields #[a0,a1,a2,a3,a4,a5])
  (hq:∀(h':D6) (t':A9),(∀b o,b≠e->h.get? b=some o->h'.get? b=some o)->h'.get? e=some { oe with data:=.fields #[.ref t',a1,a2,a3,a4,a5] }->Q .none { heap:=h',gens:=g,drawn:=d,toks:=t,os:=os })
  (hrest:rest.length<=A4):C1 (E2 prog w) A (call (A0.builtin initId) (C2 e::rest)) Q E { heap:=h,gens:=g,drawn:=d,toks:=t,os:=os }:=by
 refine Z6 (codeAny_call_builtin F.init.plain F.initEntry (wpAny_check_init_subT F T hC he hcl ?_));unfold D1.«BaseException.__init__»;dsimp only;refine J3 (W6 (decide ((!({ pos:=C2 e::rest }:Args).kw.isEmpty)=true))) ?_;refine o0 ?_;unfold newTuple;obtain⟨oc,od,oda,osl⟩:=oe;obtain rfl:oc=.ref C:=hcl;obtain rfl:oda=_:=hda;have he1:=A1 { cls:=E5 "tuple",data:=ab4 rest.toArray } he;refine J3 (by rw[decide_eq_false_iff_not];simpa using hrest) ?_;refine o0 (wpAny_alloc' (A3 ?_));refine o0 ?_;unfold D1.BaseException.bexcPut;refine o0 ?_;show C1 _ _ (F7 _ _) _ _ _;refine o0 ?_;show C1 _ _ (F7 _ _) _ _ _;refine o0 (aa5 he1 (A3 (A3 (o0 ?_))));show C1 _ _ (F7 _ _) _ _ _;refine o0 (aa5 he1 ?_);dsimp only;refine U9 (W6 (decide (0<#[a0,a1,a2,a3,a4,a5].size))) (wpAny_update' he1 ?_);have fin:Q C5 { heap:=(h.push { cls:=E5 "tuple",data:=ab4 rest.toArray }).update e (S8 λx=>x.setIfInBounds 0 (C2 h.objs.size)),gens:=g,drawn:=d,toks:=t,os:=os }:=by
  refine hq _ h.objs.size (λb o hb hbo=>?_) ?_
  ·rw[E1 _ _ (S3 hb)];exact A1 _ hbo
  ·exact N0 _ he1 rfl
 cases a0
 all_goals first
  |exact wpAny_letGo (A3 fin)
  |exact A3 (A3 fin)
theorem nU{prog:C6}{w:J1}{A:E7}{E:A0->A2->Prop}{s:A2}{K:W.Frag}{x C:A9}{ox:Obj}{name:Str}{v:A0}{vs:Array A0}{cd:ClassData}{Q:Unit->A2->Prop}
  (X:K.In s.heap) (he:s.heap.get? x=some ox) (hcls:ox.cls=.ref C) (hdict:ox.dict=none) (hdata:ox.data=.fields vs)
  (hs:W.findIn K (.ref C) "__setattr__"=some (some (.builtin "object.__setattr__"))) (hc:W.clsIn K C=some cd) (hob:W.mroIn K C (.type "object")=some true)
  (href:∀self,refuseLoop self "__setattr__" cd.mro=V1 ()) (ha:W.findIn K (.ref C) name=some none) (hh:cd.hasDict=true)
  (h:∀(h':D6) (d:A9),(∀b o,b≠x->s.heap.get? b=some o->h'.get? b=some o)->s.heap.get? d=none->h'.get? x=some { ox with dict:=some d }->Q () { s with heap:=h',toks:=s.toks+2 }) :
  C1 (E2 prog w) A (setAttr (.ref x) name v) Q E s:=by
 have I:W.InstAt s.heap x ox C none:=⟨he,hcls,by unfold W.notCls;rw[hdata],by rw[hdict];trivial⟩;refine W.set_plain X I hs ?_;have SF:=F.store_object;have sub:W7 (E2 prog w) s.heap (isInstance (.ref x) (.type "object")) true:=W7.andThen (W.InstAt.type I) (W.looks_mroIn X hob);refine codeAny_call_builtin SF.slot.plain SF.entry ?_;have hk:=SF.kind;have hsp:=SF.split;have har:=SF.args (C2 x) (aa7 name s.toks) v;refine W.check_slot (i:="object.__setattr__") (owner:="object") (self:=.ref x) (rest:=[aa7 name s.toks,v]) (kw:=[]) hk hsp sub har ?_;rw[W.osa_eq,refuse_eq];have hm:W7 (E2 prog w) s.heap (mroOf (.ref C)) cd.mro:=W7.andThen (W.looks_clsIn X hc) W7.now;refine o0 (o0 (V0 (W.InstAt.type I) (o0 (V0 hm ?_))));rw[href];refine A3 (o0 (V0 (W.InstAt.type I) (o0 (V0 (W.looks_findIn X ha) (o0 (V0 (r:=none) W7.now ?_))))));obtain⟨oc,od,oda,osl⟩:=ox;obtain rfl:oc=.ref C:=hcls;obtain rfl:od=none:=hdict;obtain rfl:oda=.fields vs:=hdata;obtain⟨hp,g,d,t,os⟩:=s;refine o0 (A3 (o0 (o0 (wpAny_loadPart he (o0 (V0 (W.looks_clsIn X hc) ?_))))));rw[hh];refine J3 (W6 (decide ((!true)=true))) ?_;refine J3 (W6 (decide ((!true || !typeHasDict (C2 C))=true))) ?_;refine o0 (wpAny_alloc (o0 (wpAny_update (A1 _ he) ?_)));dsimp only;have hsz:hp.get? hp.objs.size=none:=Q0 (B6 _);have hne:hp.objs.size≠x:=λz=>by rw[z]at hsz;dsimp only at he;rw[he]at hsz;cases hsz
 refine A3 ?_;have hx0:(hp.push { cls:=E5 "dict",data:=Z7 #[] }).get? x=some { cls:=.ref C,data:=.fields vs,slots:=osl }:=A1 _ he;have hx1:((hp.push { cls:=E5 "dict",data:=Z7 #[] }).update x λo=>{ cls:=o.cls,dict:=some hp.objs.size,data:=o.data,slots:=o.slots }).get? x=some { cls:=.ref C,dict:=some hp.objs.size,data:=.fields vs,slots:=osl } :=
  N0 _ hx0 rfl
 have hd1:((hp.push { cls:=E5 "dict",data:=Z7 #[] }).update x λo=>{ cls:=o.cls,dict:=some hp.objs.size,data:=o.data,slots:=o.slots }).get? hp.objs.size=some { cls:=E5 "dict",data:=Z7 #[] }:=by
  rw[E1 _ _ (S3 hne)];exact C3 _ rfl
 have hk1:∀b o,b≠x->hp.get? b=some o->((hp.push { cls:=E5 "dict",data:=Z7 #[] }).update x λo=>{ cls:=o.cls,dict:=some hp.objs.size,data:=o.data,slots:=o.slots }).get? b=some o:=λb o hb e=>by
  rw[E1 _ _ (S3 hb)];exact A1 _ e
 generalize ((hp.push { cls:=E5 "dict",data:=Z7 #[] }).update x λo=>{ cls:=o.cls,dict:=some hp.objs.size,data:=o.data,slots:=o.slots })=h1 at *
 refine o0 (A3 (o0 ?_));show C1 _ _ (F7 _ _) _ _ _;refine o0 (o0 (wpAny_askSetting (A3 ?_)));refine o0 (wpAny_mkText (o0 (wpAny_loadPart hd1 ?_)));dsimp only;refine J3 (show decide (aRefKeyMayBeTheName name #[]=true)=false from rfl) (wpAny_updatePart hd1 ?_);dsimp only;have hd2:=N0 (Obj.putName name (if name.cps.isEmpty=true then 0 else reduceHash ((E2 prog w).w.params.strHash name.cps)) (aa7 name (t+1)) v) hd1 rfl;refine o0 (o0 (wpAny_loadPart hd2 ?_));refine A3 (A3 ?_);refine h _ hp.objs.size (λb o hb e=>?_) hsz ?_
 ·rw[E1 _ _ (λz=>by subst z;dsimp only at e;rw[hsz]at e;cases e)];exact hk1 b o hb e
 ·rw[E1 _ _ hne];exact hx1
theorem ph{M:Model}{A:E7}{E:A0->A2->Prop}{env:Env}{nm q:Str}{C N:A9}{bs bm:List A0}{hdct:Bool}{sn:List Str}{sub:List A0}{ab:Bool}{col:Option Bool}{dd:Option A9}
  {k0 k1 k2 k3 k5:Option A0} {newId:String} {s:A2} {x:D0} {pos:Pos} {Q:Flow->A2->Prop} (nV:bm.contains (E5 "BaseException")=true) (hh:A.handled=none)
  (h:C1 M A (S7 x env) (λv s₁ => ∃ e od a0 osl,v = C2 e ∧ s₁.heap.get? C = some (S0 nm q C N bs bm hdct sn sub ab col dd k0 k1 k2 k3 k5 newId) ∧
   s₁.heap.get? e=some { cls:=C2 C,dict:=od,data:=T4 #[a0,C5,C5,C5,V9 false,C5],slots:=osl }/\E (C2 e) s₁) E s) :
  C1 M A (exec (N5.Raise (some x) none pos) env) Q E s:=by
 have hcB:(C2 C::bm).contains (E5 "BaseException")=true:=by
  rw[List.contains_cons,nV,Bool.or_true]
 rw[arm_exec_Raise];show C1 _ _ (F7 _ _) _ _ _;refine o0 ?_;refine V7 ?_;show C1 _ _ (F7 _ _) _ _ _;refine o0 (o0 (I0 h (λv s₁ h₁=>?_) λ_ _ z=>z));obtain⟨e,od,a0,osl,rfl,hC,he,hE⟩:=h₁;obtain⟨hp,g,d,tk,os⟩:=s₁;dsimp only at hC he;refine o0 (V7 (A3 ?_));refine o0 (A3 (o0 (M7 ?_)));show C1 _ _ (F7 _ _) _ _ _;refine o0 ?_;show C1 _ _ (F7 _ _) _ _ _;refine o0 ?_;show C1 _ _ (F7 _ _) _ _ _;refine o0 ?_;refine O1 he (A3 (J3 ?_ (A3 (J3 (W6 (decide (false=true))) ?_))))
 ·rfl
 refine o0 ?_;show C1 _ _ (F7 _ _) _ _ _;refine o0 ?_;show C1 _ _ (F7 _ _) _ _ _;refine o0 (O1 he (A3 (wpAny_isSubtype_exc hC ?_)));rw[hcB];refine U9 (W6 (decide (true=true))) (A3 (o0 ?_));show C1 _ _ (F7 _ _) _ _ _;refine o0 ?_;refine O1 he (A3 (J3 ?_ (o0 ?_)))
 ·rfl
 show C1 _ _ (F7 _ _) _ _ _;refine o0 ?_;show C1 _ _ (F7 _ _) _ _ _;refine o0 (O1 he (A3 (o0 ?_)));show C1 _ _ (F7 _ _) _ _ _;refine o0 (O1 hC (A3 (U9 ?_ (A3 (o0 ?_)))))
 ·rfl
 show C1 _ _ (F7 _ _) _ _ _;refine o0 ?_;show C1 _ _ (F7 _ _) _ _ _;refine o0 ?_;show C1 _ _ (F7 _ _) _ _ _;refine o0 (aa5 he (A3 (A3 (J3 ?_ (A3 (wpAny_raiseNew_none hh hE))))));rfl
abbrev veM:List A0:=[.type "ValueError",.type "Exception",.type "BaseException",.type "object"]
theorem rb(self:A0)(C W:A9):refuseLoop self "__setattr__" [.ref C,.ref W,.type "ValueError",.type "Exception",.type "BaseException",.type "object"]=V1 ():=by
 kernel_rfl
def l0(C e:A9)(h:D6):Prop:=∃a0 osl,h.get? e=some { cls:=.ref C,dict:=none,data:=.fields #[a0,.none,.none,.none,.bool false,.none],slots:=osl }
def mS(C e:A9)(h:D6):Prop:=∃od a0 osl,h.get? e=some { cls:=.ref C,dict:=od,data:=.fields #[a0,.none,.none,.none,.bool false,.none],slots:=osl }
theorem pw{P:C6}{w:J1}{H:Hp}{h:D6}{C e:A9}(x:l0 C e h):cc P w H h e (.ext (l0 C e)):=by
 obtain⟨a0,osl,g⟩:=x;exact⟨⟨a0,osl,g⟩,⟨_,g⟩,λh1 h2 ⟨a,b,q⟩ k=>⟨a,b,k _ q⟩⟩
theorem uN{P:C6}{w:J1}{H:Hp}{h:D6}{C e:A9}(x:mS C e h):cc P w H h e (.ext (mS C e)):=by
 obtain⟨od,a0,osl,g⟩:=x;exact⟨⟨od,a0,osl,g⟩,⟨_,g⟩,λh1 h2 ⟨a,b,c,q⟩ k=>⟨a,b,c,k _ q⟩⟩
structure i3(K:u8) (mg:Str->Option A0) (xC xW fld:Str) (C W fI:A9):Prop where
 gC:mg xC=some (.ref C)
 gW:mg xW=some (.ref W)
 kC:K3 K (.ref C)=true
 lC:∃nm q N bs sn sub ab col dd k0 k1 k2 k3 k5,K.lookup C=some (S0 nm q C N bs [.ref W,.type "ValueError",.type "Exception",.type "BaseException",.type "object"] true sn sub ab col dd k0 k1 k2 k3 k5 "ValueError.__new__")
 iC:P9 K (.ref C) "__init__"=some (some (.ref fI))
 lW:∃c0 dW cdW slW cN dN es ep sN,K.lookup W=some ⟨c0,dW,.cls cdW,slW⟩/\K.lookup cdW.ns=some ⟨cN,dN,.dict es ep,sN⟩/\es.toList.all (λe=>e.key.isStr "__init__"==false&&match e.key with|.str _ _=>true|_=>false)=true
 sW:PySem.W.specialIn K (.ref W) "__getattribute__"=some (some (.builtin "type.__getattribute__"))
 rW:PySem.W.readsIn K W (.type "type")=true
 fW:PySem.W.findCls K (.ref W) (.type "type") "__init__"=some (.val (.builtin "ValueError.__init__"))
 sC:P9 K (.ref C) "__setattr__"=some (some (.builtin "object.__setattr__"))
 mC:PySem.W.mroIn K C (.type "object")=some true
 tC:P9 K (.ref C) fld=some none
theorem i3.tail{K:u8}{mg:Str->Option A0}{xC xW fld:Str}{C W fI:A9}{h:D6}(Y:i3 K mg xC xW fld C W fI)(KX:K.In h):ad9 h veM (.ref W::veM):=by
 obtain⟨c0,dW,cdW,slW,cN,dN,es,ep,sN,h1,h2,h3⟩:=Y.lW;rw[L6]at h3;refine ad9.own (KX _ _ h1) (mA:=nsFind es) ⟨_,es,ep,KX _ _ h2,rfl,λe he=>?_,λ_=>rfl⟩ ?_ ad9.base
 ·have:=h3 e (by simpa using he);rw[B8]at this;cases q:e.key with
  |str n t=>exact⟨n,t,rfl⟩
  |_=>rw[q]at this;simp at this
 ·unfold nsFind findBy;rw[Option.map_eq_none_iff,Array.find?_eq_none];intro e he;have:=h3 e (by simpa using he);rw[B8]at this;simpa using this.1
section
variable{X:Cx}{xC xW fld:Str}{C W fI:A9}
def tWI(C:A9)(i:Nat):TE:=λσ H Q=>∃e,σ[i]?=some (some (.ref e))/\H e=some (.ext (l0 C e))/\Q .non H
theorem yV(Y:i3 X.K X.mg xC xW fld C W fI)(i:Nat){x:Str}{pl:Sem Bool}{p pa ps pos pc:Pos}{txt:Str}{j:Nat}(hg:Gl X xW)(hx:PE X (.Name x ps) (rh i))(ht:PE X (.Constant (.str txt) j pc) (tC (.str txt)))
  (hdb:(xW==("__debug__":Str))=false:=by decide)
  (hst:B1 [.Name x ps,.Constant (.str txt) j pc] X.env=(false,S7 (.Name x ps) X.env)::B1 [.Constant (.str txt) j pc] X.env:=by rfl) (hpl:(Q4 pos (B1 [.Constant (.str txt) j pc] X.env)).any (·.1)=false:=by rfl)
  (hev:S7 (.Call (.Attribute (.Name xW p) "__init__" pa) [.Name x ps,.Constant (.str txt) j pc] [] pos) X.env = (do
   let ov <-S7 (.Name xW p) X.env
   ad3 pa.atName
   let(f,first) <-aa8 [ov] (getMethod ov "__init__" pl)
   callWith pos f first (Q4 pos (B1 [.Name x ps,.Constant (.str txt) j pc] X.env)) (ad1 pos (aa3 [] X.env))):=by rfl) :
  PE X (.Call (.Attribute (.Name xW p) "__init__" pa) [.Name x ps,.Constant (.str txt) j pc] [] pos) (tWI C i):=by
 intro af s σ H Q I h;obtain⟨e,ei,he,q⟩:=h;refine PySem.W.methodCall_KW (pl:=pl) (dS I hg Y.gW ?_ hdb) hev;refine PySem.W.method_cls I.kIn Y.sW (PySem.W.cls_value I.kIn Y.rW Y.fW rfl ?_);have I1:=I.tok (s.toks+1);have ha:PA X [.Name x ps,.Constant (.str txt) j pc] (pC (rh i) (pC (tC (.str txt)) wI)):=er hx (er ht jO);refine PyProof.Rows.callWith_builtin1 (thn (ha pos af _ σ H (λvs H1=>vs=[.ref e,.str txt]/\H1=H) I1 ?_) λus s1 hs=>?_) hst hpl
 ·exact⟨.ref e,ei,rfl,rfl⟩
 obtain⟨vs,H1,I2,rv,rfl,rfl⟩:=hs;obtain⟨u1,u2,rfl,r1,r2⟩:∃u1 u2,us=[u1,u2]/\aL (.ref e) u1/\aL (.str txt) u2:=by
  cases rv with
  |cons r1 rv =>
   cases rv with
   |cons r2 rv =>
    cases rv;exact⟨_,_,rfl,r1,r2⟩
 obtain rfl:u1=.ref e:=r1;obtain⟨⟨a0,osl,g⟩,_⟩:=I2.hok e _ he;obtain⟨nm,q',N,bs,sn,sub,ab,col,dd,k0,k1,k2,k3,k5,lC⟩:=Y.lC;obtain⟨hp,gs,d,t,os⟩:=s1;refine j4 F.excBase_ValueError (Y.tail I2.kIn) (I2.kIn _ _ lC) g rfl rfl (λh' t' kp ge=>?_) (W9 (kT (by simp)));have I3:=I2.write (t':=t) (h':=h') (x:=e) (e:=e) (o:=.ext (l0 C e)) (by rw[he];trivial) (.inl rfl) (λb u hb hu=>kp b u hb hu) ⟨_,ge⟩ (pw ⟨_,_,ge⟩);have eu:upd H1 e (.ext (l0 C e))=H1:=by
  funext b;unfold upd
  split
  ·next z=>rw[z,he]
  ·rfl
 rw[eu]at I3;exact⟨.non,H1,I3,rfl,q⟩
def tSA(C:A9)(i j:Nat):TS:=λD σ H=>∃e v,σ[i]?=some (some (.ref e))/\σ[j]?=some (some v)/\H e=some (.ext (l0 C e))/\D.nx σ (upd H e (.ext (mS C e)))
theorem zw(Y:i3 X.K X.mg xC xW fld C W fI)(i j:Nat){x y:Str}{px py pa pos:Pos}(hx:PE X (.Name x px) (rh i))(hy:PE X (.Name y py) (rh j))
  (hs:Z3 (.Name y py) (some (.Attribute (.Name x px) fld pa)) pos.line X.env=V1 false:=by rfl):PS X (.Assign [.Attribute (.Name x px) fld pa] (.Name y py) pos) (tSA C i j):=by
 intro af s σ H D I h;obtain⟨e,v,ei,ej,he,q⟩:=h;refine plainObj_wpAny_Assign_Attribute (thn (hy af s σ H (λv1 H1=>v1=v/\H1=H) I ⟨v,ej,rfl,rfl⟩) λu s1 hs1=>?_) hs;obtain⟨_,_,I1,rv,rfl,rfl⟩:=hs1;refine thn (hx af s1 σ _ (λv1 H1=>v1=.ref e/\H1=_) I1 ⟨_,ei,rfl,rfl⟩) λu2 s2 hs2=>?_;obtain⟨_,H2,I2,rv2,rfl,rfl⟩:=hs2;obtain rfl:u2=.ref e:=rv2;obtain⟨⟨a0,osl,g⟩,_⟩:=I2.hok e _ he;obtain⟨nm,q',N,bs,sn,sub,ab,col,dd,k0,k1,k2,k3,k5,lC⟩:=Y.lC;refine nU I2.kIn g rfl rfl rfl Y.sC (cd:={ name:=nm,bases:=bs,mro:=[.ref C,.ref W,.type "ValueError",.type "Exception",.type "BaseException",.type "object"],ns:=N,qualname:=q',hasDict:=true,slotNames:=sn,subclasses:=sub,abstract:=ab,collection:=col }) ?_ Y.mC (λself=>rb self C W) Y.tC rfl λh' d' kp hd ge=>?_
 ·unfold PySem.W.clsIn;rw[lC]
 ·exact⟨σ,_,I2.write (t':=s2.toks+2) (x:=e) (e:=e) (o:=.ext (mS C e)) (by rw[he];trivial) (.inl rfl) (λb u hb hu=>kp b u hb hu) ⟨_,ge⟩ (uN ⟨_,_,_,ge⟩),q⟩
end
def spI(C:A9):Sp:=λvs H Q _=>∃e v,vs=[.ref e,v]/\H e=some (.ext (l0 C e))/\Q .non (upd H e (.ext (mS C e)))
section
variable{X:Cx}{xC xW fld:Str}{C W fI:A9}{af:List (A9×Obj)}{σ:St}{H:Hp}{s:A2}
theorem Inv.forget{e:A9}{φ:D6->Prop}(I:Inv X af σ (upd H e (.ext φ)) s)(hn:H e=none):Inv X af σ H s:=by
 have ne:∀{b o},upd H e (.ext φ) b=some o->(∀ ψ,o≠.ext ψ)->H b=some o:=λ{b o} q z=>by
  by_cases hb:b=e
  ·subst hb;rw[bh]at q;cases q;exact absurd rfl (z φ)
  ·rw[aO hb]at q;exact q
 have nn:∀{b},upd H e (.ext φ) b=none->H b=none:=λ{b} q=>by
  by_cases hb:b=e
  ·subst hb;exact hn
  ·rw[aO hb]at q;exact q
 refine⟨I.ok,I.os,I.bare,⟨I.base.keep,I.base.slot,λb o q n x=>nn (I.base.free b o q n x),I.base.there,λb xs q=>ne (I.base.tups b xs q) (λ_ z=>by cases z),λb o u q=>ne (I.base.frzs b o u q) (λ_ z=>by cases z),λb ps q=>?_⟩,I.loc,I.cell,nn I.free,λx c q=>nn (I.freeC x c q),λp hp=>?_,λa o q=>?_,I.len⟩
 ·obtain⟨more,q'⟩:=I.base.tbls b ps q;exact⟨more,ne q' (λ_ z=>by cases z)⟩
 ·obtain⟨h1,h2,h3⟩:=I.pin p hp;exact⟨h1,nn h2,h3⟩
 ·have ha:a≠e:=by rintro rfl;rw[hn]at q;cases q
  refine(I.hok a o (by rw[aO ha];exact q)).stay (λc v _ r=>r) (λc r=>ne r (λ_ z=>by cases z)) λc xs r=>ne r (λ_ z=>by cases z)
def tRs(XW:Hp->Prop)(te:TE):TS:=λ_ σ H=>te σ H λx H1=>[x].length=1/\XW H1
theorem yk{XW:Hp->Prop}{k:Nat}{fd:B2}{ps:List Str}{e:D0}{te:TE}{p pos pc:Pos}(Y:i3 X.K X.mg xC xW fld C W fI)(F:aK X.prog X.w X.K X.mg X.base CX0 k fI fd ps (spI C))(hb:bS X.K fd ps [])(hf:∃oI,X.K.lookup fI=some oI/\oI.cls=E5 "function")
  (hr:bw (k+1) X.A) (hg:Gl X xC) (hc:X.calm=true) (he:PE X e te)
  (hx:∀af σ H s a,Inv X af σ H s->XW H->H a=none->mS C a s.heap->X.s₀.heap.get? a=none->X.xe (.ref a) s)
  (hdb:(xC==("__debug__":Str))=false:=by decide) (hst:B1 [e] X.env=(false,S7 e X.env)::B1 [] X.env:=by rfl) :
  PS X (.Raise (some (.Call (.Name xC p) [e] [] pc)) none pos) (tRs XW te):=by
 intro af s σ H D I h;obtain⟨nm,q',N,bs,sn,sub,ab,col,dd,k0,k1,k2,k3,k5,lC⟩:=Y.lC;obtain⟨oI,lI,cI⟩:=hf;refine ph (C:=C) (bm:=[.ref W,.type "ValueError",.type "Exception",.type "BaseException",.type "object"]) (hdct:=true) (nm:=nm) (q:=q') (N:=N) (bs:=bs) (sn:=sn) (sub:=sub) (ab:=ab) (col:=col) (dd:=dd) (k0:=k0) (k1:=k1) (k2:=k2) (k3:=k3) (k5:=k5) (newId:="ValueError.__new__") rfl (I.ok.hd hc) (P3 (dS I hg Y.gC ?_ hdb));have ha:PA X [e] (pC te wI):=er he jO hst;refine U0 (h₀:=X.base) I.ok.mod.kin Y.kC (thn (ha pc af s σ H (λvs H1=>vs.length=1/\XW H1) I h) λus s1 hs=>⟨?_,?_⟩) hst rfl
 ·obtain⟨vs,H1,I1,rv,_⟩:=hs;exact I1.kIn
 obtain⟨vs,H1,I1,rv,hl,q⟩:=hs;obtain⟨hp,gs,d,t,os⟩:=s1;have hul:us.length=1:=by rw[<-rv.length];exact hl
 refine o6 PySem.F.excBase_ValueError (Y.tail I1.kIn) (I1.kIn _ _ lC) I1.kIn Y.iC (I1.kIn _ _ lI) cI (λh' a hsz made=>?_) ?_
 ·obtain⟨kp,new,t',ge,_,_⟩:=made;have I2:Inv X af σ (upd H1 a (.ext (l0 C a))) { heap:=h',gens:=gs,drawn:=d,toks:=t,os:=os }:=I1.laid (t':=t) kp hsz (pw ⟨_,_,ge⟩);have hn1:H1 a=none:=I1.hok.fresh hsz;obtain⟨v,rfl⟩:∃v,vs=[v]:=by
   match vs,hl with
   |[v],_=>exact⟨v,rfl⟩
  have r2:aB [V.ref a,v] (C2 a::us):=.cons rfl rv;have hsp:spI C [V.ref a,v] (upd H1 a (.ext (l0 C a))) (λu H2=>u=.non/\H2=upd H1 a (.ext (mS C a))) E0:=⟨a,v,rfl,bh,rfl,uy⟩;have hpl:(C2 a::us++[]).length=ps.length:=by
   rw[M9,<-r2.length];exact F.len _ _ _ _ hsp
  refine Z6 (X1 (F.run _ X.stack _ _ ⟨C2 a::us,[]⟩ (C2 a::us) _ _ E0 (hr.make C us []) (I2.env0.make C us []) (by simpa using hb _ (C2 a::us) I2.kIn hpl) r2 hsp) λr s' hq'=>?_);cases r with
  |error e=>exact hq'.elim
  |ok fl =>
   cases fl with
   |ret u =>
    obtain⟨v3,H3,I3,rv3,rfl,rfl⟩:=I2.after hq';obtain rfl:u=C5:=rv3;obtain⟨od,a0,osl,g3⟩:=(I3.hok a _ bh).1;refine⟨rfl,a,od,a0,osl,rfl,I3.kIn _ _ lC,g3,?_⟩;refine hx af σ H1 s' a (I3.forget hn1) q hn1 ⟨od,a0,osl,g3⟩ ?_;exact Q0 (H0 I1.sz hsz)
   |next=>exact K0 hq'
   |brk=>exact K0 hq'
   |cont=>exact K0 hq'
 ·rw[O4,hul];exact W9 (kT (by decide))
end
theorem cc.is{P:C6}{w:J1}{H:Hp}{h:D6}{a:A9}{o:HO}(x:cc P w H h a o):∃u,h.get? a=some u:=by
 cases o with
 |lst xs=>obtain⟨_,_,_,_,e⟩:=x;exact⟨_,e⟩
 |tup xs=>obtain⟨_,_,_,ob,e,_⟩:=x;exact⟨_,e⟩
 |dK kvs=>obtain⟨_,_,_,_,o,_,_,e,_⟩:=x;exact⟨_,e⟩
 |dT kvs=>obtain⟨_,_,_,_,o,_,_,e,_⟩:=x;exact⟨_,e⟩
 |set S n=>obtain⟨o,_,_,_,e,_⟩:=x;exact⟨_,e⟩
 |ins C dx fs=>obtain⟨_,_,_,e,_⟩:=x;exact⟨_,e⟩
 |own y=>exact x
 |xd fs=>obtain⟨_,⟨_,_,_,e,_⟩,_⟩:=x;exact⟨_,e⟩
 |rng lo hi=>obtain⟨_,_,_,e⟩:=x;exact⟨_,e⟩
 |frz ob u=>obtain⟨e,_⟩:=x;exact⟨_,e⟩
 |tbl ps=>exact⟨_,x⟩
 |met f y=>exact⟨_,x⟩
 |ext φ=>exact x.2.1
def ExF(C:A9)(o:Obj):Prop:=o.cls=.ref C/\∃vs,o.data=.fields vs/\vs[2]?=some .none
theorem jt{C:A9}:mB (ExF C):=λo v ⟨h1,vs,h2,h3⟩=>⟨(Obj.cls_mapFields _ _).trans h1,_,P6 h2 _,by rw[Array.getElem?_setIfInBounds_ne (by decide)];exact h3⟩
def zh(C a T:A9)(h0 h:D6):Prop:=∃oe vs oT ts,h.get? a=some oe/\ExF C oe/\oe.data=.fields vs/\vs[1]?=some (.ref T)/\h0.get? T=none/\T≠a/\h.get? T=some oT/\oT.data=.fields ts/\ts[3]?=some .none
def CX1(P:C6)(w:J1)(C:A9):CXT:=λouter H s E e s'=>∃a T H',e=.ref a/\s'.os=s.os/\V3 s'.gens/\Un (frs outer) [] H H' s.heap s'.heap/\HOk P w H' s'.heap/\s.heap.get? a=none/\H' a=none/\H' T=none/\zh C a T s.heap s'.heap/\E (.ref C) none H'
section
variable{P:C6}{w:J1}{K:u8}{mg:Str->Option A0}{base:D6}{N:List Str}{qual:Str}{scope:T8}{f:A9}{cd:A0}{A:E7}{outer:List Env}{s:A2}{H:Hp}{E:XK}{C:A9}
theorem wy{af:List (A9×Obj)}{σ:St}{H1:Hp}{s1:A2}{a:A9}(I:Inv (j8 (CX1 P w C) P w K mg base N qual scope f cd A outer s H E) af σ H1 s1)(q:E (.ref C) none H1)(hn:H1 a=none)(x:mS C a s1.heap)(h0:s.heap.get? a=none):
  (j8 (CX1 P w C) P w K mg base N qual scope f cd A outer s H E).xe (.ref a) s1:=by
 obtain⟨od,a0,osl,g⟩:=x;have hst:=I.stack;have hfr:∀b∈frs (U2 qual scope s.heap.objs.size f cd::outer),∃o,s1.heap.get? b=some o/\∀vs:Array A0,o.data≠T4 vs:=λb hb=>(hst.mem hb).2;have hany:a∉frs (U2 qual scope s.heap.objs.size f cd::outer):=λhb=>by
  obtain⟨o,e,d⟩:=hfr a hb;rw[g]at e;cases e;exact d _ rfl
 refine om jt (base:=PySem.W.hideAll s1.heap (a::frs (U2 qual scope s.heap.objs.size f cd::outer))) I.ok.frames ?_ (L:=s.heap.objs.size) rfl g ?_ ?_ rfl rfl ⟨rfl,_,rfl,rfl⟩ λh' lf=>?_
 ·exact PySem.W.funFrames_hide hst λenv he b hb=>C7 _ (P2.mpr ⟨env,he,hb⟩)
 ·exact λb o e=>PySem.W.of_hideAll _ e
 ·exact T0 _ J5
 obtain⟨st,ff,⟨oe,vs,T,oT,ts,t1,t2,t3,t4,t5,t6,t7,t8,t9⟩,up⟩:=lf;have keep:∀b o,s1.heap.get? b=some o->b≠a->b∉frs (U2 qual scope s.heap.objs.size f cd::outer)->h'.get? b=some o:=λb o e hb hf=>st b o (R4 _ e (λz=>(B9.mp z).elim hb hf));have hT:s1.heap.get? T=none:=by
  cases e:s1.heap.get? T with
  |none=>rfl
  |some o =>
   by_cases hf:T∈frs (U2 qual scope s.heap.objs.size f cd::outer)
   ·obtain⟨o',e',d'⟩:=hfr T hf;obtain⟨sl,e2⟩:=up T o' e' d';rw[t7]at e2;cases e2;exact absurd t8 (d' ts)
   ·rw[R4 _ e (λz=>(B9.mp z).elim t6 hf)]at t5;cases t5
 have un:Un (frs outer) [] H H1 s.heap s1.heap:=I.base;have hfree:∀b∈frs (U2 qual scope s.heap.objs.size f cd::outer),H1 b=none:=I.stkFree;have hsz:∀b o,s.heap.get? b=some o->b∈frs (U2 qual scope s.heap.objs.size f cd::outer)->b∈frs outer:=λb o e hb=>by
  rcases B9.mp hb with z|z
  ·subst z;exact absurd (B4 e) (P1 _)
  ·exact z
 refine⟨a,T,H1,rfl,I.os,I.bare,⟨λb o e n h1 h2=>?_,λb o e n h1 h2=>?_,λb o e n h2=>un.free b o e n h2,λb o e h2=>?_,un.tups,un.frzs,un.tbls⟩,λb o e=>?_,h0,hn,?_,⟨oe,vs,oT,ts,t1,t2,t3,t4,?_,t6,t7,t8,t9⟩,q⟩
 ·exact keep b o (un.keep b o e n h1 h2) (λz=>by rw[z,h0]at e;cases e) λz=>h1 (hsz b o e z)
 ·obtain⟨sl,e1⟩:=un.slot b o e n h1 h2;obtain⟨o',e',d'⟩:=hfr b (C7 _ h1);rw[e1]at e';cases e';obtain⟨sl',e2⟩:=up b _ e1 d';exact⟨sl',e2⟩
 ·obtain⟨o1,e1⟩:=un.there b o e h2
  by_cases hf:b∈frs (U2 qual scope s.heap.objs.size f cd::outer)
  ·obtain⟨o',e',d'⟩:=hfr b hf;obtain⟨sl',e2⟩:=up b _ e' d';exact⟨_,e2⟩
  ·exact⟨o1,keep b o1 e1 (λz=>by rw[z,h0]at e;cases e) hf⟩
 ·refine(I.hok b o e).stay (λc v hc r=>keep c v r ?_ ?_) (λc r=>r) λc xs r=>r
  ·rintro rfl;rcases hc with rfl|hc
   ·rw[hn]at e;cases e
   ·rw[hn]at hc;cases hc
  ·intro hf;have:=hfree c hf;rcases hc with rfl|hc
   ·rw[this]at e;cases e
   ·rw[this]at hc;cases hc
 ·cases e:H1 T with
  |none=>rfl
  |some o =>
   obtain⟨o1,e1⟩:=(I.hok T o e).is;rw[hT]at e1;cases e1
 ·cases e:s.heap.get? T with
  |none=>rfl
  |some o =>
   obtain⟨o1,e1⟩:=un.there T o e (by simp);rw[hT]at e1;cases e1
end
def xD:D:=.box (.dk [.inl 0]) []
theorem wZ{K:u8}{M:DH}{H:Hp}{v:V}:¬ Rep K M H xD v:=λh=>by
 obtain⟨a,vs,_,⟨hl,_⟩,r⟩:=h;simp only[aq]at r;subst r;cases hl
def yX(K:u8)(XW:Hp->Prop)(t:TSd):TS:=λD σ H=>∃(Δ:DE) (M:DH) (E:cV),SR K M H σ Δ/\HR K M H/\t E Δ M/\UpE K E D M H/\∀M' H',E.rt xD M'->Ext M H M' H'->HR K M' H'->XW H'
def PSx(X:Cx)(XW:Hp->Prop)(st:N5)(t:TSd):Prop:=PS X st (yX X.K XW t)
def nH(X:Cx)(XW:Hp->Prop)(st:List N5)(t:TSd):Prop:=PSs X st (yX X.K XW t)
section
variable{X:Cx}{XW:Hp->Prop}{a b c e:D0}{te:TEd}{pos:Pos}{st:N5}{rest:List N5}{t u:TSd}{xC xW fld:Str}{C W fI:A9}
theorem rX(h:QSd X st t):PSx X XW st t:=by
 rw[QSd.eq]at h;exact PS.conv h λD σ H ⟨Δ,M,E,sr,hr,q,k,_⟩=>⟨Δ,M,E,sr,hr,q,k⟩
theorem wQ:nH X XW [] pO:=pP.conv λD σ H ⟨Δ,M,E,sr,hr,q,u,_⟩=>u.nx Δ M σ H q (Ext.refl _ _) hr sr
theorem gJ(h1:PSx X XW st t)(h2:nH X XW rest u):nH X XW (st::rest) (ub t u) :=
 (jJ h1 h2).conv λD σ H ⟨Δ,M,E,sr,hr,q,k,x⟩=>⟨Δ,M,{ E with nx:=u E },sr,hr,q,⟨λΔ' M' σ' H' q' e' hr' sr'=>⟨Δ',M',E,sr',hr',q',k.ext e',λM'' H'' z1 z2 z3=>x M'' H'' z1 (e'.trans z2) z3⟩,k.bk,k.ct,k.rt⟩,x⟩
theorem oB(h1:PSx X XW st t):nH X XW [st] t:=ji h1
theorem Ak{sa sb:List N5}{tc:TTd}(hc:QTd X c tc)(ha:nH X XW sa t)(hb:nH X XW sb u):PSx X XW (.If c sa sb pos) (uf tc t u):=by
 rw[QTd.eq]at hc;exact(vT hc ha hb).conv λD σ H ⟨Δ,M,E,sr,hr,q,k,x⟩=>⟨Δ,M,_,sr,hr,q,λb M1 H1 q1 e1 hr1=>by
  cases b with
  |true=>simp only[if_true]at q1 ⊢;exact⟨Δ,M1,E,sr.ext e1,hr1,q1,k.ext e1,λM'' H'' z1 z2 z3=>x M'' H'' z1 (e1.trans z2) z3⟩
  |false=>simp only[B0,if_false]at q1 ⊢;exact⟨Δ,M1,E,sr.ext e1,hr1,q1,k.ext e1,λM'' H'' z1 z2 z3=>x M'' H'' z1 (e1.trans z2) z3⟩⟩
def sj(te:TEd):TSd:=λE Δ M=>te Δ M λ_ M1=>∃M2,LeM M2 M1/\E.rt xD M2
theorem Ai{k:Nat}{fd:B2}{ps:List Str}{p pc:Pos}(Y:i3 X.K X.mg xC xW fld C W fI)(F:aK X.prog X.w X.K X.mg X.base CX0 k fI fd ps (spI C))(hb:bS X.K fd ps [])(hf:∃oI,X.K.lookup fI=some oI/\oI.cls=E5 "function")
  (hr:bw (k+1) X.A) (hg:Gl X xC) (hc:X.calm=true) (he:QEd X e te)
  (hx:∀af σ H s a,Inv X af σ H s->XW H->H a=none->mS C a s.heap->X.s₀.heap.get? a=none->X.xe (.ref a) s)
  (hdb:(xC==("__debug__":Str))=false:=by decide) (hst:B1 [e] X.env=(false,S7 e X.env)::B1 [] X.env:=by rfl) :
  PSx X XW (.Raise (some (.Call (.Name xC p) [e] [] pc)) none pos) (sj te):=by
 rw[QEd.eq]at he;exact(yk (XW:=XW) Y F hb hf hr hg hc he hx hdb hst).conv λD σ H ⟨Δ,M,E,sr,hr,q,k,x⟩=>⟨Δ,M,_,sr,hr,q,λd M1 v H1 ⟨M2,hle,q1⟩ e1 hr1 _=>⟨rfl,x M2 H1 q1 (e1.trans (Ext.le hle)) (hr1.le hle)⟩⟩
theorem yr{tg iter:D0}{body:List N5}{wi:TId}{g:GD}{tb:TSd}(hp:K8 (E2 X.prog X.w) X.A X.env X.xe)(hc:X.calm=true)(hi:QId X tg iter wi)(hg:PGd X tg g)(hb:nH X XW body tb)
  (hs:∀x,N9 iter X.env x=V1 x:=by intro _;rfl):PSx X XW (.For tg iter body [] pos) (xq wi g tb):=by
 rw[QId.eq]at hi;obtain⟨gv,pg,kg⟩:=hg;refine(tw hp hc hi pg hb hs).conv λD σ H hh=>?_;obtain⟨Δ,M,E,sr,hr,q,k,xx⟩:=hh;refine⟨Δ,M,_,sr,hr,q,λds M1 J H1 q1 e1 hr1 it=>?_⟩;refine⟨λi m σ' H'=>∃ Δ' M',m=ds.length-i/\i<=ds.length/\Ext M1 H1 M' H'/\HR X.K M' H'/\SR X.K M' H' σ' Δ'/\bH g tb E (ds.drop i) Δ' M',⟨ds.length,Δ,M1,by simp,R8 _,Ext.refl _ _,hr1,sr.ext e1,q1⟩,?_⟩;rintro i m σ2 H2 ⟨Δ2,M2,rfl,hi2,e2,hr2,sr2,f2⟩;obtain⟨go,stop⟩:=it M2 H2 e2 hr2 i
 by_cases hlt:i<ds.length
 ·have hd:ds[i]?=some ds[i]:=by simp[hlt]
  obtain⟨g1,y1⟩:=go _ hd;rw[P7 hlt]at f2;simp only[bH]at f2;obtain⟨Δ3,eg,f3⟩:=f2;refine .inr ⟨g1,λσ' H'=>∃m',m'<ds.length-i/\∃ Δ' M',m'=ds.length-(i+1)/\i+1<=ds.length/\Ext M1 H1 M' H'/\HR X.K M' H'/\SR X.K M' H' σ' Δ'/\bH g tb E (ds.drop (i+1)) Δ' M',λσ' H' z=>z,λx H' hy=>?_⟩;obtain⟨e3,hr3,rx⟩:=y1 x H' hy;refine kg _ x σ2 Δ2 Δ3 M2 H' _ (sr2.ext e3) hr3 rx eg λσ3 sr3=>?_;refine⟨Δ3,M2,_,sr3,hr3,f3,⟨λΔ' M' σ' H'' q' e' hr' sr'=>?_,λΔ' M' σ' H'' q' e' hr' sr'=>?_,λΔ' M' σ' H'' q' e' hr' sr'=>?_,λd M' v H'' q' e' hr' rv'=>?_⟩,λM'' H'' z1 z2 z3=>xx M'' H'' z1 (((e1.trans e2).trans e3).trans z2) z3⟩
  ·exact⟨_,by lia,Δ',M',rfl,hlt,(e2.trans e3).trans e',hr',sr',q'⟩
  ·exact k.nx Δ' M' σ' H'' q' (((e1.trans e2).trans e3).trans e') hr' sr'
  ·exact⟨_,by lia,Δ',M',rfl,hlt,(e2.trans e3).trans e',hr',sr',q'⟩
  ·exact k.rt d M' v H'' q' (((e1.trans e2).trans e3).trans e') hr' rv'
 ·rw[List.drop_eq_nil_of_le (by lia)]at f2;exact .inl ⟨stop (by lia),k.nx Δ2 M2 σ2 H2 f2 (e1.trans e2) hr2 sr2⟩
end
def spX(K:u8)(n:Nat)(S:SpD)(C:A9):Sp:=λvs H Q E=>∃(ds:List D) (M:DH) (R:D->DH->Prop),ds.length=n/\aq K M H ds vs/\HR K M H/\S ds M R/\(∀d M' v H',R d M'->Ext M H M' H'->HR K M' H'->Rep K M' H' d v->Q v H') /\
 ∀M' H',R xD M'->Ext M H M' H'->HR K M' H'->E (.ref C) none H'
section
variable{P:C6}{w:J1}{K:u8}{mg:Str->Option A0}{base:D6}{f:A9}{fd:B2}
theorem Fun.okX{x qual:Str}{st:N5}{f:A9}{fd:B2}{N ps:List Str}{k n:Nat}{S:SpD}{C:A9}(F:Fun K x qual st f fd)(hn:ps.length=n)(Sc:ar N ps (aj st))
  (hbody:∀ (cdv:A0) (A:E7) (outer:List Env) (s:A2) (H:Hp) (E:XK),bw k (A.deeper (U2 qual (aj st) s.heap.objs.size f cdv)) →
   ∃t:TSd,nH (j8 (CX1 P w C) P w K mg base N qual (aj st) f cdv A outer s H E) (λH'=>E (.ref C) none H') (bM st) t/\∀ds M R,ds.length=n->S ds M R->t { nx:=λ_ M'=>R .non M',rt:=R } (dR N ds) M):aK P w K mg base (CX1 P w C) (k+1) f fd ps (spX K n S C):=by
 obtain⟨oc,od,kV,doc,pm,an,cdv,ct,osl,rfl,lk,hcd⟩:=F.ex;refine vL lk hcd Sc (λvs H Q E h=>?_) λA outer s H vs Q E hr h=>?_
 ·obtain⟨ds,M,R,hl,r,_⟩:=h;rw[hn,<-r.length];exact hl
 obtain⟨t,ht,hq⟩:=hbody cdv A outer s H E hr;obtain⟨ds,M,R,hl,r,hrr,q,k',kx⟩:=h;exact⟨_,ht,dR N ds,M,_,ng r,hrr,hq ds M R hl q,⟨λΔ' M' σ' H' q' e' hr' _=>k' .non M' .non H' q' e' hr' (by simp[Rep]),λ_ _ _ _ q'=>K0 q',λ_ _ _ _ q'=>K0 q',λd M' v H' q' e' hr' rv=>k' d M' v H' q' e' hr' rv⟩,kx⟩
end
structure FnX(P:C6) (w:J1) (K:u8) (mg:Str->Option A0) (base:D6) (x:Str) (k n:Nat) (S:SpD) (C:A9):Prop where
 ex:∃(f:A9) (fd:B2) (ps:List Str),aK P w K mg base (CX1 P w C) k f fd ps (spX K n S C)/\mg x=some (.ref f)/\K3 K (.ref f)=true/\bS K fd ps []
section
variable{X:Cx}{af:List (A9×Obj)}{σ:St}{H1 H':Hp}{s1 s':A2}{C a T:A9}
theorem oh{h:D6}{Z:List A9}(I1:Inv X af σ H1 s1)(os:s'.os=s1.os)(bare:V3 s'.gens)(un:Un (frs X.stack) [] H1 H' s1.heap s'.heap)(hok:HOk X.prog X.w H' s'.heap)
  (kp:∀b o,s'.heap.get? b=some o->b∉Z->b∉frs X.stack->h.get? b=some o) (fr:∀b o,b∈frs X.stack->s'.heap.get? b=some o->∃sl,h.get? b=some { o with slots:=sl })
  (hz:∀b∈Z,s1.heap.get? b=none/\H' b=none):Inv X af σ H' { s' with heap:=h }:=by
 have I':Inv X af σ H' s':=I1.call' (ch:=[]) os un hok bare λb z=>absurd z (by simp);have hfree:=I'.stkFree;have nz:∀{b o},s1.heap.get? b=some o->b∉Z:=λ{b o} e z=>by rw[(hz b z).1]at e;cases e
 refine I1.call' (s':={ s' with heap:=h }) (ch:=[]) os ⟨λb o e n h1 h2=>kp b o (un.keep b o e n h1 h2) (nz e) h1,λb o e n h1 h2=>?_,un.free,λb o e h2=>?_,un.tups,un.frzs,un.tbls⟩ (λb o e=>?_) bare λb z=>absurd z (by simp)
 ·obtain⟨sl,e1⟩:=un.slot b o e n h1 h2;obtain⟨sl',e2⟩:=fr b _ h1 e1;exact⟨sl',e2⟩
 ·obtain⟨o1,e1⟩:=un.there b o e h2
  by_cases hf:b∈frs X.stack
  ·obtain⟨sl',e2⟩:=fr b _ hf e1;exact⟨_,e2⟩
  ·exact⟨o1,kp b o1 e1 (nz e) hf⟩
 ·refine(hok b o e).stay (λc v hc r=>kp c v r (λz=>?_) (λz=>?_)) (λc r=>r) λc xs r=>r
  ·have:=(hz c z).2;rcases hc with rfl|hc
   ·rw[this]at e;cases e
   ·rw[this]at hc;cases hc
  ·have:=hfree c z;rcases hc with rfl|hc
   ·rw[this]at e;cases e
   ·rw[this]at hc;cases hc
end
theorem i3.cls{K:u8}{mg:Str->Option A0}{xC xW fld:Str}{C W fI:A9}(Y:i3 K mg xC xW fld C W fI):∃nm q N bs bm hd sn sub ab col dd k0 k1 k2 k3 k5 newId,K.lookup C=some (S0 nm q C N bs bm hd sn sub ab col dd k0 k1 k2 k3 k5 newId)/\bm.contains (.type "BaseException")=true:=by
 obtain⟨nm,q,N,bs,sn,sub,ab,col,dd,k0,k1,k2,k3,k5,lC⟩:=Y.lC;exact⟨nm,q,N,bs,_,_,sn,sub,ab,col,dd,k0,k1,k2,k3,k5,_,lC,rfl⟩
end L2
namespace L2
open PySem PySem.Spec PySem.Calls PyProof.Rows PySem.W PySem.Builtin PySem.Builtin.ObjectAttr PySem.Builtin.Getset_descriptor
end L2
namespace L2
open PySem PySem.Spec PyProof.Rows
def zU(j:Nat)(E:cV):cV where
 nx:=λΔ M=>∃M3,LeM M3 M/\E.nx (Δ.set j none) M3
 bk:=λΔ M=>∃M3,LeM M3 M/\E.bk (Δ.set j none) M3
 ct:=λΔ M=>∃M3,LeM M3 M/\E.ct (Δ.set j none) M3
 rt:=λd M=>∃M3,LeM M3 M/\E.rt d M3
abbrev Cx.caught(X:Cx)(a:A9):Cx:={ X with A:=X.A.mark (some (.ref a)),calm:=false,xe:=λ_ _=>False }
theorem fgX{P:C6}{w:J1}{K:u8}{mg:Str->Option A0}{base h:D6}{x:Str}{st:N5}{f C:A9}{fd:B2}{S:SpD}{k:Nat}{ps:List Str}{n:Nat}(X:K.In h)(G:h.Ns B7 mg)(i:aT K x st f fd)(o:aK P w K mg base (CX1 P w C) k f fd ps (spX K n S C))(b:bS K fd ps []):FnX P w K mg base x k n S C:=⟨_,_,_,o,F2 X G i.a,i.F.kp,b⟩
def xR(K:u8)(P:A9):u8:=K.filter λp=>p.1 != P
theorem cU{P a:A9}(h:a≠P):∀K:u8,(xR K P).lookup a=K.lookup a
 |[]=>rfl
 |(b,o)::K=>by
  have ih:=cU h K;unfold xR at ih ⊢
  by_cases hb:b=P
  ·rw[List.filter_cons_of_neg (by simp[hb]),ih,F1,beq_eq_false_iff_ne.mpr (λe=>h (e.trans hb))]
  ·rw[List.filter_cons_of_pos (by simp[hb]),F1,F1,ih]
theorem aT.cut{K:u8}{P f:A9}{x:Str}{st:N5}{fd:B2}(i:aT K x st f fd)(hP:K.lookup P=some (PySem.W.tabObj #[])):aT (xR K P) x st f fd:=by
 obtain⟨a,⟨oc,od,kV,doc,pm,an,cdv,ct,osl,e,lk,hcd⟩,kp⟩:=i;have hf:f≠P:=λz=>by rw[z,hP]at lk;cases lk
 have hg:B7≠P:=λz=>by
  unfold C9 at a;rw[z,hP]at a;cases a
 refine⟨?_,⟨oc,od,kV,doc,pm,an,cdv,ct,osl,e,(cU hf K).trans lk,?_⟩,?_⟩
 ·unfold C9 at a ⊢;rw[cU hg];exact a
 ·cases cdv<;>try (exact hcd)
  rename_i c;have hc:c≠P:=λz=>by
   unfold S2 at hcd;rw[z]at hcd;simp only[hP]at hcd;cases hcd
  unfold S2 at hcd ⊢;simp only[cU hc];exact hcd
 ·unfold K3;simp only[cU hf,lk]
end L2
namespace L2
open PySem PySem.Spec PySem.Calls PyProof.Rows
end L2
namespace L2
open PySem PySem.Spec PyProof.Rows
end L2
namespace L2
open PySem PySem.Spec PyProof.Rows PySem.Calls PySem.SeqAt
end L2
namespace L2
open PySem PySem.Spec PyProof.Rows PySem.Calls PySem.SeqAt PySem.W
end L2
namespace L2
open PySem PySem.Spec PyProof.Rows PySem.Calls
end L2
namespace L2
open PySem PySem.Spec PyProof.Rows
def gK(w:J1)(K:u8)(mg:Str->Option A0)(x:Str)(kvs:List (Str×Str)):Prop :=
 ∃a o es ep,mg x=some (.ref a)/\K.lookup a=some o/\o.ExactDict/\o.data=.dict es ep/\(a==ab1)=false/\(kvs.map (·.1)).Nodup /\
  R0 (λ(e:ac4) (kv:Str×Str)=>(∃t,e.key=.str kv.1 t)/\e.hash=kP w (.inr kv.1)/\mg kv.2=some e.val) es.toList kvs
def fnD(mg:Str->Option A0)(nm:Str):D:=match mg nm with
 |some (.ref f)=>.ref f
 |_=>.non
def gp(kvs:List (Str×Str))(k:Str):Option Str:=(kvs.find? λkv=>kv.1==k).map (·.2)
section
variable{P:C6}{w:J1}{K:u8}{mg:Str->Option A0}{x:Str}{kvs:List (Str×Str)}
theorem td:∀{es:List ac4}{kvs:List (Str×Str)},R0 (λ(e:ac4) (kv:Str×Str)=>(∃t,e.key=.str kv.1 t)/\e.hash=kP w (.inr kv.1)/\mg kv.2=some e.val) es kvs ->
  ∃vs:List (Key×A0),Pairs (cp P w) es vs/\vs.map (·.1)=kvs.map (λkv=>V2 kv.1)/\(∀e∈es,∃k,(cp P w).is k e.key=true/\e.hash=(cp P w).hash k)/\∀k,(U4 vs (.inr k)).isSome=(gp kvs k).isSome/\∀nm,gp kvs k=some nm->∃u,U4 vs (.inr k)=some u/\mg nm=some u:=by
 intro es kvs h
 induction h with
 |nil=>exact⟨[],.nil,rfl,by simp,λk=>⟨rfl,λnm e=>by simp[gp]at e⟩⟩
 |@cons e kv es kvs hq _ ih =>
  obtain⟨vs,h1,h2,h3,h4⟩:=ih;obtain⟨⟨t,e1⟩,e2,e3⟩:=hq;have hk:(cp P w).is (.inr kv.1) e.key=true:=by rw[e1];exact se (k:=.inr kv.1) (show aL (.str kv.1) (.str kv.1 t)from⟨t,rfl⟩)
  refine⟨(.inr kv.1,e.val)::vs,.cons hk rfl h1,by simp[h2],λe' he=>?_,λk=>?_⟩
  ·rcases B9.mp he with rfl|he
   ·exact⟨_,hk,e2⟩
   ·exact h3 e' he
  ·by_cases z:kv.1=k
   ·subst z;have a:U4 ((V2 kv.1,e.val)::vs) (.inr kv.1)=some e.val:=by simp[U4]
    have b:gp (kv::kvs) kv.1=some kv.2:=by simp[gp]
    rw[a,b];exact⟨rfl,λnm q=>⟨_,rfl,by cases q;exact e3⟩⟩
   ·have a:U4 ((V2 kv.1,e.val)::vs) (.inr k)=U4 vs (.inr k):=by simp[U4,z]
    have b:gp (kv::kvs) k=gp kvs k:=by simp[gp,z]
    rw[a,b];exact h4 k
theorem gK.dict(P:C6)(G:gK w K mg x kvs):∃a vs,mg x=some (.ref a)/\(a==ab1)=false/\(∀h:D6,K.In h->h.DictOf (cp P w) a vs) /\
  ∀k,(U4 vs (.inr k)).isSome=(gp kvs k).isSome/\∀nm,gp kvs k=some nm->∃u,U4 vs (.inr k)=some u/\mg nm=some u:=by
 obtain⟨a,o,es,ep,h1,h2,h3,h4,h5,h6,h7⟩:=G;obtain⟨vs,g1,g2,g3,g4⟩:=td (P:=P) h7;refine⟨a,vs,h1,h5,λh hK=>⟨o,es,ep,hK _ _ h2,h3,h4,λe he=>g3 e (by simpa using he),g1,?_⟩,g4⟩;have:(vs.map λx=>x.fst)=vs.map (·.1):=rfl;rw[this,g2];have e:(kvs.map λkv=>(V2 kv.1:Key))=(kvs.map (·.1)).map V2:=by simp
 rw[e];exact(List.pairwise_map.mpr (List.Pairwise.imp (λh z=>h (by simpa using z)) h6))
end
def sd(mg:Str->Option A0)(kvs:List (Str×Str))(ti:TEd):TEd:=λΔ M R=>ti Δ M λd M1=>∃k nm f,d=.str k/\gp kvs k=some nm/\mg nm=some (.ref f)/\R (fnD mg nm) M1
def pH(kvs:List (Str×Str))(ti:TEd):TEd:=λΔ M R=>ti Δ M λd M1=>∃k,d=.str k/\R (.bl (!(gp kvs k).isSome)) M1
section
variable{X:Cx}{x:Str}{kvs:List (Str×Str)}{i e:D0}{es:List D0}{ti:TEd}{t:TAd}{pos p:Pos}
theorem xg(hu:X.A.units+1<ad6)(hg:Gl X x)(G:gK X.w X.K X.mg x kvs)(hi:PEd X i ti)(hs:v6 i)(hdb:(x==("__debug__":Str))=false:=by decide):PEd X (.Subscript (.Name x p) i pos) (sd X.mg kvs ti):=by
 obtain⟨a,vs,h1,h2,h3,h4⟩:=G.dict X.prog;intro af s σ H Q I ⟨Δ,M,R,sr,hr,q,k⟩;refine vi PySem.F.slot_dict_getitem.lookup hs (dS I hg h1 ?_ hdb);refine thn (hi af s σ H (λv H1=>∃k nm f,v=.str k/\gp kvs k=some nm/\X.mg nm=some (.ref f)/\Q (.ref f) H1) I ⟨Δ,M,_,sr,hr,q,λd M' v H' ⟨k0,nm,f,e1,e2,e3,q'⟩ e' hr' rv'=>?_⟩) λu s1 ⟨v,H1,I1,rv,k0,nm,f,e1,e2,e3,q1⟩=>?_
 ·subst e1;refine⟨k0,nm,f,by simpa[Rep]using rv',e2,e3,k _ M' _ H' q' e' hr' ?_⟩;simp[fnD,e3,Rep]
 ·subst e1;have dd:=h3 _ I1.kIn;obtain⟨u',hu',hm'⟩:=(h4 k0).2 nm e2;rw[e3]at hm';cases hm';exact⟨dd.typeIs,wpAny_getItem_of (se (k:=.inr k0) rv) dd.mapOf hu' ⟨.ref f,H1,I1.tok _,rfl,q1⟩⟩
theorem um(hg:Gl X x)(G:gK X.w X.K X.mg x kvs)(hi:PEd X i ti)(hdb:(x==("__debug__":Str))=false:=by decide):PC X .NotIn i (.Name x p) (up X.K (pH kvs ti)):=by
 obtain⟨a,vs,h1,h2,h3,h4⟩:=G.dict X.prog;intro af s σ H Q I ⟨Δ,M,R,sr,hr,q,k⟩;refine thn (hi af s σ H (λv H1=>∃k,v=.str k/\Q (.bl (!(gp kvs k).isSome)) H1) I ⟨Δ,M,_,sr,hr,q,λd M' v H' ⟨k0,e1,q'⟩ e' hr' rv'=>?_⟩) λu s1 ⟨v,H1,I1,rv,k0,e1,q1⟩=>?_
 ·subst e1;exact⟨k0,by simpa[Rep]using rv',k _ M' _ H' q' e' hr' (by simp[Rep])⟩
 ·subst e1;refine dS I1 hg h1 ?_ hdb;have dd:=h3 _ I1.kIn;refine wpAny_notIn_of (se (k:=.inr k0) rv) h2 dd.mapOf ?_;rw[(h4 k0).1];exact⟨.bl _,H1,I1.tok _,rfl,q1⟩
theorem uK(hg:Gl X x)(G:gK X.w X.K X.mg x kvs)(hi:PEd X i ti)(hdb:(x==("__debug__":Str))=false:=by decide):PTd X (.Compare i [.NotIn] [.Name x p] pos) (lZ (pH kvs ti)):=(wg (um hg G hi hdb)).conv vI
def oD(i:Nat)(mg:Str->Option A0)(nm:Str)(n:Nat)(S:SpD)(t:TAd):TEd:=λΔ M R=>Δ[i]?=some (some (fnD mg nm))/\t Δ M λds M1=>ds.length=n/\S ds M1 R
theorem u3(i:Nat){k:Nat}{f:A9}{fd:B2}{ps:List Str}{n:Nat}{S:SpD}{nm:Str}(F:aK X.prog X.w X.K X.mg X.base CX0 k f fd ps (spD X.K n S))(hr:bw k X.A)(hm:X.mg nm=some (.ref f))(hk:K3 X.K (.ref f)=true)(hb:bS X.K fd ps [])
  (ha:PAd X (e::es) t) (hN:X.N[i]?=some x:=by rfl) (hv:Vis X.env.scope x:=by first|exact D8 rfl|exact Z8 (D8 rfl)|exact Z8 (Z8 rfl)) (hdb:(x==("__debug__":Str))=false:=by decide) (hcd:(x==("__classdict__":Str))=false:=by decide) (he:B1 (e::es) X.env=(false,S7 e X.env)::B1 es X.env:=by rfl) (hpl:(Q4 pos (B1 es X.env)).any (·.1)=false:=by rfl) :
  PEd X (.Call (.Name x p) (e::es) [] pos) (oD i X.mg nm n S t):=by
 intro af s σ H Q I ⟨Δ,M,R,sr,hrr,⟨ei,q⟩,kq⟩;obtain⟨v,ev,rv⟩:=sr.2 i _ ei;have ev':v=.ref f:=by simpa[fnD,hm,Rep]using rv
 subst ev';refine P3 (pf hN hv hdb hcd af s σ H (λv' H'=>v'=.ref f/\H'=H) I ⟨_,ev,rfl,rfl⟩ |> λz=>thn z λu s0 ⟨v',H',I',r',e1,e2⟩=>?_);subst e1;subst e2;obtain rfl:u=C2 f:=r';refine U0 (h₀:=X.base) I'.ok.mod.kin hk (thn (ha pos af s0 σ H' (λvs H1=>spD X.K n S vs H1 Q λ_ _ _=>False) I' ⟨Δ,M,_,sr,hrr,q,λds M1 vs H1 ⟨hl,q1⟩ e1 hr1 rv1=>?_⟩) λus s1 hup=>hup.el λvs H1 I1 r q1=>⟨I1.kIn,?_⟩) he hpl
 ·exact⟨ds,M1,R,hl,rv1,hr1,q1,λd M' v H' q' e' hr' rv'=>kq d M' v H' q' (e1.trans e') hr' rv'⟩
 ·exact sU (dvs:=[]) (ds:=[]) F hr hb .nil vS I1 r (by rw[M9];exact q1)
end
section
variable{X:Cx}{af:List (A9×Obj)}{σ:St}{H1 H':Hp}{s1 s':A2}{C a T:A9}
theorem u5{xW:Str}{p pos:Pos}{b0:N5}{suite:List N5}{Q:Flow->A2->Prop}{E':A0->A2->Prop}(I1:Inv X af σ H1 s1)(hsk:X.stack=X.env::X.outer)(hfm:X.env.frame=some X.env.locals)(hg:Gl X xW)(hm:X.mg xW=some (.ref C))
  (lC:∃nm q N bs bm hd sn sub ab col dd k0 k1 k2 k3 k5 newId,X.K.lookup C=some (S0 nm q C N bs bm hd sn sub ab col dd k0 k1 k2 k3 k5 newId)/\bm.contains (.type "BaseException")=true)
  (os:s'.os=s1.os) (bare:V3 s'.gens) (un:Un (frs X.stack) [] H1 H' s1.heap s'.heap) (hok:HOk X.prog X.w H' s'.heap) (ha:s1.heap.get? a=none) (hna:H' a=none) (hnT:H' T=none) (fl:zh C a T s1.heap s'.heap)
  (k:∀h,Inv X af σ H' { s' with heap:=h }->C1 (E2 X.prog X.w) (X.A.mark (some (.ref a))) (execs (b0::suite) X.env) Q (λ_ _=>False) { s' with heap:=h }) (hdb:(xW==("__debug__":Str))=false:=by decide) :
  C1 (E2 X.prog X.w) X.A (ac5 (.ref a) X.env) (λ_ s2=>C1 (E2 X.prog X.w) X.A (setFlight (.ref a) none) (λ_ s3=>C1 (E2 X.prog X.w) X.A (handleBy (.ref a) X.env [.ExceptHandler (some (.Name xW p)) none (b0::suite) pos]) Q E' s3) E' s2) E' s':=by
 obtain⟨oe,vs,oT,ts,f1,f2,f3,f4,f5,f6,f7,f8,f9⟩:=fl;have I':Inv X af σ H' s':=I1.call' (ch:=[]) os un hok bare λb z=>absurd z (by simp);have hst:=I'.stack;have hfr:∀b∈frs X.stack,∃o,s'.heap.get? b=some o/\∀vs:Array A0,o.data≠T4 vs:=λb hb=>(hst.mem hb).2;have hA:X.A.frames=some (X.env::X.outer):=by rw[<-hsk];exact I1.ok.frames
 refine zr jt (base:=PySem.W.hideAll s'.heap (a::T::frs X.stack)) hA (by rw[<-hsk];exact PySem.W.funFrames_hide hst λenv he b hb=>C7 _ (C7 _ (P2.mpr ⟨env,he,hb⟩))) hfm
  ⟨oe,vs,T,oT,ts,f1,f2,f3,f4,T0 _ (by simp),f6,f7,f8,f9⟩ (λb o e=>PySem.W.of_hideAll _ e) (T0 _ (by simp)) λh1 g=>pF g.1 g.2.1 g.2.2.1 λh2 fly2=>?_
 have up1:=g.2.2.2;obtain⟨st2,ff2,⟨oe2,vs2,T2,oT2,ts2,t1,t2,t3,t4,t5,t6,t7,t8,t9⟩,up2⟩:=fly2;have kp2:∀b o,s'.heap.get? b=some o->b∉[a,T]->b∉frs X.stack->h2.get? b=some o:=λb o e hz hf=>st2 b o (R4 _ e λz=>by
  rcases B9.mp z with z|z
  ·exact hz (by simp[z])
  rcases B9.mp z with z|z
  ·exact hz (by simp[z])
  ·exact hf z)
 have fr2:∀b o,b∈frs X.stack->s'.heap.get? b=some o->∃sl,h2.get? b=some { o with slots:=sl }:=λb o hb e=>by
  obtain⟨o',e',d'⟩:=hfr b hb;rw[e]at e';cases e';obtain⟨sl,q1⟩:=up1 b o e d';obtain⟨sl',q2⟩:=up2 b _ q1 d';exact⟨sl',q2⟩
 have hz2:∀b∈[a,T],s1.heap.get? b=none/\H' b=none:=λb hb=>by
  rcases B9.mp hb with rfl|hb
  ·exact⟨ha,hna⟩
  ·obtain rfl:=A8.mp hb;exact⟨f5,hnT⟩
 have I2:=oh I1 os bare un hok kp2 fr2 hz2;obtain⟨nm,q,N,bs,bm,hd,sn,sub,ab,col,dd,k0,k1,k2,k3,k5,newId,lC,hbm⟩:=lC;refine wpAny_handleBy_cons (codeAny_handlers_test (Calls.Name_function_global I2.ok.kind hg (Calls.loadGlobal_global (by rw[I2.ok.glob];exact I2.mod.glob.keeps I2.bk) hm ?_) hdb)) (by intro z;cases z);refine wpAny_excMatches_sub_self (I2.kIn _ _ lC) t1 t2.1 hbm ?_;refine codeAny_handlers_suite ?_;have hts:3<ts2.size:=(K1.mp t9).1;refine wpAny_setFlight_none t1 t3 t4 t7 t8 hts ?_;have hT2f:T2∉frs X.stack:=λhb=>by
  obtain⟨o',e',d'⟩:=hfr T2 hb;obtain⟨sl,q2⟩:=fr2 T2 o' hb e';rw[t7]at q2;cases q2;exact d' _ t8
 have hT2:T2=T∨s'.heap.get? T2=none:=by
  by_cases z:T2=T
  ·exact .inl z
  ·right;cases e:s'.heap.get? T2 with
   |none=>rfl
   |some o =>
    rw[R4 _ e λz'=>by
     rcases B9.mp z' with z'|z'
     ·exact t6 z'
     rcases B9.mp z' with z'|z'
     ·exact z z'
     ·exact hT2f z']at t5
    cases t5
 have hz3:∀b∈[a,T,T2],s1.heap.get? b=none/\H' b=none:=λb hb=>by
  rcases B9.mp hb with rfl|hb
  ·exact⟨ha,hna⟩
  rcases B9.mp hb with rfl|hb
  ·exact⟨f5,hnT⟩
  obtain rfl:=A8.mp hb;rcases hT2 with rfl|z
  ·exact⟨f5,hnT⟩
  ·constructor
   ·cases e:s1.heap.get? b with
    |none=>rfl
    |some o =>
     obtain⟨o1,e1⟩:=un.there b o e (by simp);rw[z]at e1;cases e1
   ·cases e:H' b with
    |none=>rfl
    |some o =>
     obtain⟨o1,e1⟩:=(hok b o e).is;rw[z]at e1;cases e1
 have I3:=oh (h:=h2.update T2 (S8 λx=>x.setIfInBounds 3 C5)) I1 os bare un hok (Z:=[a,T,T2]) (λb o e hz hf=>by
   rw[E1 _ _ (λz=>hz (by simp[z]))];exact kp2 b o e (λz=>hz (by
    rcases B9.mp z with z|z
    ·simp[z]
    ·simp[A8.mp z])) hf)
  (λb o hb e => by
   rw[E1 _ _ (λz=>hT2f (by rw[z];exact hb))];exact fr2 b o hb e) hz3
 exact I0 (k _ I3) (λf s2 z=>z) λ_ _ z=>z.elim
end
def sJ(b:Bool)(n:Nat)(S:SpD)(r:D->D->Option D)(t:TAd)(te:TEd):TSd:=λE Δ M=>t Δ M λds M1=>ds.length=n/\S ds M1 λd M2 =>
 (d=xD->E.rt (.bl b) M2)/\(d≠xD->te Δ M2 λd2 M3=>∃z,r (rdM M3 d) (rdM M3 d2)=some z/\E.rt z M3)
section
variable{X:Cx}{e e2:D0}{es:List D0}{t:TAd}{te:TEd}{S:SpD}{C:A9}{fn xC:Str}
theorem wB{b:Bool}{k n:Nat}{r:D->D->Option D}{op:ab6}{p2 p3 p4 p5 p6 p7 p8 p9 p10:Pos}{j:Nat}(FX:FnX X.prog X.w X.K X.mg X.base fn k n S C)(hr:bw k X.A)(hgf:Gl X fn)(hno:∀e s,¬ X.xe e s)(hsk:X.stack=X.env::X.outer)(hfm:X.env.frame=some X.env.locals)
  (hg:Gl X xC) (hm:X.mg xC=some (.ref C))
  (lC:∃nm q N bs bm hd sn sub ab col dd k0 k1 k2 k3 k5 newId,X.K.lookup C=some (S0 nm q C N bs bm hd sn sub ab col dd k0 k1 k2 k3 k5 newId)/\bm.contains (.type "BaseException")=true)
  (ha:PAd X (e::es) t) (he2:PEd X e2 te) (ho:br X (E3 op) r) (hmk:N6 op e2=false:=by first|exact gR _ (by decide) (by decide)|rfl) (hdf:(fn==("__debug__":Str))=false:=by decide) (hdb:(xC==("__debug__":Str))=false:=by decide)
  (he:B1 (e::es) X.env=(false,S7 e X.env)::B1 es X.env:=by rfl) (hpl:(Q4 p3 (B1 es X.env)).any (·.1)=false:=by rfl) :
  PSd X (.Try [.Return (some (.Compare (.Call (.Name fn p2) (e::es) [] p3) [op] [e2] p4)) p6] [.ExceptHandler (some (.Name xC p5)) none [.Return (some (.Constant (.bool b) j p7)) p8] p9] [] [] p10) (sJ b n S r t te):=by
 intro af s σ H D I hh;obtain⟨Δ,M,E,sr,hrr,q,kk⟩:=hh;obtain⟨f,fd,ps,F,hmf,hkf,hbf⟩:=FX.ex;refine wpAny_Try_except (wpAny_execs_cons (wpAny_Return_some (wpAny_Compare1 (P3 (dS I hgf hmf ?_ hdf)) hmk)));refine U0 (h₀:=X.base) I.ok.mod.kin hkf (I0 (ha p3 af s σ H (λvs H1=>∃ds M1,ds.length=n/\S ds M1 (λd M2=>(d=xD->E.rt (.bl b) M2)/\(d≠xD->te Δ M2 λd2 M3=>∃z,r (rdM M3 d) (rdM M3 d2)=some z/\E.rt z M3))/\Ext M H M1 H1/\HR X.K M1 H1/\aq X.K M1 H1 ds vs) I
  ⟨Δ,M,_,sr,hrr,q,λds M1 vs H1 ⟨hl,q1⟩ e1 hr1 rl=>⟨ds,M1,hl,q1,e1,hr1,rl⟩⟩) (λus s1 hs=>⟨?_,?_⟩) λe s' z=>(hno e s' z).elim) he hpl
 ·obtain⟨vs,H1,I1,_⟩:=hs;exact I1.kIn
 obtain⟨vs,H1,I1,rv,ds,M1,hl,q1,e1,hr1,rl⟩:=hs;have hsp:spX X.K n S C vs H1 (λv H2=>∃d M2,Ext M1 H1 M2 H2/\HR X.K M2 H2/\Rep X.K M2 H2 d v/\te Δ M2 λd2 M3=>∃z,r (rdM M3 d) (rdM M3 d2)=some z/\E.rt z M3) (λ_ _ H2=>D.rt (.bl b) H2) :=
  ⟨ds,M1,_,hl,rl,hr1,q1,λd M' v H' q' e' hr' rv'=>⟨d,M',e',hr',rv',q'.2 λz=>wZ (z▸rv')⟩,λM' H' q' e' hr'=>kk.rt _ M' _ H' (q'.1 rfl) (e1.trans e') hr' (by simp[Rep])⟩
 have hpl2:(us++[]).length=ps.length:=by
  rw[M9,<-rv.length];exact F.len _ _ _ _ hsp
 refine Z6 (X1 (F.run X.A X.stack s1 H1 ⟨us,[]⟩ us vs _ _ hr I1.env0 (by simpa using hbf s1 us I1.kIn hpl2) rv hsp) λrr s' hq=>?_);cases rr with
 |error e =>
  obtain⟨a,T,H',rfl,os,bare,un,hok,h0,hna,hnT,fl,qx⟩:=hq;refine u5 I1 hsk hfm hg hm lC os bare un hok h0 hna hnT fl (λh I3=>?_) hdb;have J:Inv (X.caught a) af σ H' { s' with heap:=h }:=⟨⟨I3.ok.mod,I3.ok.kind,I3.ok.glob,I3.ok.blt,I3.ok.above,I3.ok.inj,I3.ok.has,I3.ok.cab,λz=>(by cases z),I3.ok.frames,I3.ok.stk,I3.ok.exf,I3.ok.bs,I3.ok.bsz,I3.ok.noex,I3.ok.exfs,I3.ok.funs,I3.ok.frf⟩,I3.os,I3.bare,I3.base,I3.loc,I3.cell,I3.free,I3.freeC,I3.pin,I3.hok,I3.len⟩;have hset:PSs (X.caught a) [.Return (some (.Constant (.bool b) j p7)) p8] (ye (tC (.bl b))):=ji (l9 vJ);refine I0 (hset af _ σ H' D J qx) (λfl s2 z=>?_) λ_ _ z=>z;cases fl with
  |next=>obtain⟨σ2,H2,J2,q2⟩:=z;exact⟨σ2,H2,⟨I.ok,J2.os,J2.bare,J2.base,J2.loc,J2.cell,J2.free,J2.freeC,J2.pin,J2.hok,J2.len⟩,q2⟩
  |brk=>obtain⟨σ2,H2,J2,q2⟩:=z;exact⟨σ2,H2,⟨I.ok,J2.os,J2.bare,J2.base,J2.loc,J2.cell,J2.free,J2.freeC,J2.pin,J2.hok,J2.len⟩,q2⟩
  |cont=>obtain⟨σ2,H2,J2,q2⟩:=z;exact⟨σ2,H2,⟨I.ok,J2.os,J2.bare,J2.base,J2.loc,J2.cell,J2.free,J2.freeC,J2.pin,J2.hok,J2.len⟩,q2⟩
  |ret u=>obtain⟨v2,σ2,H2,J2,r2,q2⟩:=z;exact⟨v2,σ2,H2,⟨I.ok,J2.os,J2.bare,J2.base,J2.loc,J2.cell,J2.free,J2.freeC,J2.pin,J2.hok,J2.len⟩,r2,q2⟩
 |ok fl =>
  cases fl with
  |ret u =>
   obtain⟨v2,H2,I2,rv2,d,M2,e2',hr2,rd2,q2⟩:=I1.after hq;refine I0 (he2 af s' σ H2 (λy H3=>∃d2 M3 z,Ext M2 H2 M3 H3/\HR X.K M3 H3/\Rep X.K M3 H3 d2 y/\r (rdM M3 d) (rdM M3 d2)=some z/\E.rt z M3) I2 ⟨Δ,M2,_,(sr.ext e1).ext e2',hr2,q2,λd2 M3 v H3 ⟨z,ez,qz⟩ e3 hr3 rv3=>⟨d2,M3,z,e3,hr3,rv3,ez,qz⟩⟩)
    (λw s2 ⟨y,H3,I3,ry,d2,M3,z,e3,hr3,rd3,ez,qz⟩=>?_) λe s' z=>(hno e s' z).elim
   refine I0 (ho af s2 σ H3 M3 v2 y u w _ _ z (λv4 H4=>D.rt v4 H4) I3 hr3 rv2 ry ((rd2.ext e3).rd hr3) (rd3.rd hr3) ez λw4 H4 e4 hr4 rz=>?_) (λw4 s4 hup=>hup.el λv4 H4 I4 r4 q4=>⟨v4,σ,H4,I4,r4,q4⟩) λe s' z=>(hno e s' z).elim;exact kk.rt z M3 w4 H4 qz (((e1.trans e2').trans e3).trans e4) hr4 rz
  |next=>exact K0 hq
  |brk=>exact K0 hq
  |cont=>exact K0 hq
theorem wY{b:Bool}{k n:Nat}{r:D->D->Option D}{op:ab6}{p2 p3 p4 p5 p6 p7 p8 p9 p10:Pos}{j:Nat}(FX:FnX X.prog X.w X.K X.mg X.base fn k n S C)(hr:bw k X.A)(hgf:Gl X fn)(hno:∀e s,¬ X.xe e s)(hsk:X.stack=X.env::X.outer)(hfm:X.env.frame=some X.env.locals)
  (hg:Gl X xC) (hm:X.mg xC=some (.ref C))
  (lC:∃nm q N bs bm hd sn sub ab col dd k0 k1 k2 k3 k5 newId,X.K.lookup C=some (S0 nm q C N bs bm hd sn sub ab col dd k0 k1 k2 k3 k5 newId)/\bm.contains (.type "BaseException")=true)
  (ha:QAd X (e::es) t) (he2:QEd X e2 te) (ho:br X (E3 op) r) (hmk:N6 op e2=false:=by first|exact gR _ (by decide) (by decide)|rfl) (hdf:(fn==("__debug__":Str))=false:=by decide) (hdb:(xC==("__debug__":Str))=false:=by decide)
  (he:B1 (e::es) X.env=(false,S7 e X.env)::B1 es X.env:=by rfl) (hpl:(Q4 p3 (B1 es X.env)).any (·.1)=false:=by rfl) :
  QSd X (.Try [.Return (some (.Compare (.Call (.Name fn p2) (e::es) [] p3) [op] [e2] p4)) p6] [.ExceptHandler (some (.Name xC p5)) none [.Return (some (.Constant (.bool b) j p7)) p8] p9] [] [] p10) (sJ b n S r t te):=by
 rw[QSd.eq];rw[QAd.eq]at ha;rw[QEd.eq]at he2;exact wB FX hr hgf hno hsk hfm hg hm lC ha he2 ho hmk hdf hdb he hpl
end
section
variable{X:Cx}{x:Str}{kvs:List (Str×Str)}{i e:D0}{es:List D0}{ti:TEd}{t:TAd}{pos p:Pos}
theorem v7(hu:X.A.units+1<ad6)(hg:Gl X x)(G:gK X.w X.K X.mg x kvs)(hi:QEd X i ti)(hs:v6 i)(hdb:(x==("__debug__":Str))=false:=by decide):QEd X (.Subscript (.Name x p) i pos) (sd X.mg kvs ti):=by
 rw[QEd.eq]at *
 exact xg hu hg G hi hs hdb
theorem ue(hg:Gl X x)(G:gK X.w X.K X.mg x kvs)(hi:QEd X i ti)(hdb:(x==("__debug__":Str))=false:=by decide):QTd X (.Compare i [.NotIn] [.Name x p] pos) (lZ (pH kvs ti)):=by
 rw[QTd.eq];rw[QEd.eq]at hi;exact uK hg G hi hdb
theorem uS(i:Nat){j k n:Nat}{S:SpD}{nm:Str}(F:FnD X.prog X.w X.K X.mg X.base nm j n S)(hr:bw k X.A)
  (ha:QAd X (e::es) t) (h:j<=k:=by decide) (hN:X.N[i]?=some x:=by rfl) (hv:Vis X.env.scope x:=by first|exact D8 rfl|exact Z8 (D8 rfl)|exact Z8 (Z8 rfl)) (hdb:(x==("__debug__":Str))=false:=by decide) (hcd:(x==("__classdict__":Str))=false:=by decide) (he:B1 (e::es) X.env=(false,S7 e X.env)::B1 es X.env:=by rfl) (hpl:(Q4 pos (B1 es X.env)).any (·.1)=false:=by rfl) :
  QEd X (.Call (.Name x p) (e::es) [] pos) (oD i X.mg nm n S t):=by
 rw[QEd.eq];rw[QAd.eq]at ha;obtain⟨f,fd,ps,F,hmf,hkf,hbf⟩:=F.ex;exact u3 i F (hr.mono h) hmf hkf hbf ha hN hv hdb hcd he hpl
end
end L2
namespace My
open PySem PySem.Spec PyProof.Rows L2
noncomputable def top(i:Nat):N5:=PySem.Challenge.pw_wordwishes_k64_walks_judged.main.body.getD i (.Pass ⟨0,0,0,0⟩)
abbrev dQ:N5:=top 7
abbrev cy:N5:=top 8
abbrev bG:N5:=top 9
abbrev bz:N5:=top 10
abbrev dm:N5:=top 11
abbrev eW:N5:=top 14
abbrev fC:N5:=top 15
abbrev cJ:N5:=top 16
abbrev ck:N5:=top 17
abbrev fo:N5:=top 18
abbrev e6:N5:=top 22
abbrev fF:N5:=top 23
abbrev ec:N5:=top 24
abbrev cR:N5:=top 25
abbrev iu:N5:=top 26
abbrev gi:N5:=top 27
abbrev eD:N5:=top 28
abbrev cj:N5:=top 47
abbrev ef:N5:=top 53
abbrev dj:N5:=top 54
abbrev dY:N5:=top 55
abbrev fj:N5:=top 56
abbrev eX:N5:=top 57
abbrev jR:N5:=top 58
abbrev bO:N5:=top 115
abbrev cw:N5:=top 116
abbrev cA:N5:=top 117
abbrev ik:N5:=top 122
abbrev eV:N5:=top 124
abbrev il:N5:=top 125
abbrev ip:N5:=top 126
abbrev jn:N5:=top 127
abbrev fq:N5:=top 128
abbrev gz:N5:=top 129
abbrev iF:N5:=top 130
abbrev ix:N5:=top 131
abbrev iK:N5:=top 132
abbrev iG:N5:=top 133
abbrev da:N5:=top 134
abbrev eU:N5:=top 135
abbrev dw:N5:=top 136
abbrev j5:N5:=top 137
abbrev dq:N5:=top 138
abbrev gF:N5:=top 139
abbrev jI:N5:=top 140
abbrev qh:N5:=top 141
abbrev mX:List Str:=["thing"]
theorem gf:ar mX ["thing"] (aj dQ):=fsc
abbrev i6:List Str:=["thing","many"]
theorem dJ:ar i6 ["thing","many"] (aj cy):=fsc
abbrev fR:List Str:=["thing","name","many"]
theorem cv:ar fR ["thing","name","many"] (aj bG):=fsc
abbrev bX:List Str:=["thing"]
theorem cS:ar bX ["thing"] (aj bz):=fsc
abbrev kn:List Str:=["one","other"]
theorem fk:ar kn ["one","other"] (aj dm):=fsc
abbrev nK:List Str:=["thing"]
theorem hG:ar nK ["thing"] (aj eW):=fsc
abbrev oq:List Str:=["thing"]
theorem g6:ar oq ["thing"] (aj fC):=fsc
abbrev eE:List Str:=["thing"]
theorem gc:ar eE ["thing"] (aj cJ):=fsc
noncomputable abbrev iz:List Str:=["pairs","mark","reached","at","low","high"]
theorem c9:ar iz ["pairs","mark"] (aj ck):=fsc
abbrev mZ:List Str:=["order","one","other"]
theorem hV:ar mZ ["order","one","other"] (aj fo):=fsc
abbrev m5:List Str:=["thing"]
theorem gN:ar m5 ["thing"] (aj e6):=fsc
abbrev m7:List Str:=["thing"]
theorem gO:ar m7 ["thing"] (aj fF):=fsc
abbrev gw:List Str:=["thing"]
theorem iL:ar gw ["thing"] (aj ec):=fsc
abbrev j9:List Str:=["order","turn","one","other"]
theorem eK:ar j9 ["order","turn","one","other"] (aj cR):=fsc
abbrev qy:List Str:=["order","one","other"]
theorem jm:ar qy ["order","one","other"] (aj iu):=fsc
abbrev pb:List Str:=["order","one","other"]
theorem iX:ar pb ["order","one","other"] (aj gi):=fsc
abbrev mf:List Str:=["order","one","other"]
theorem gg:ar mf ["order","one","other"] (aj eD):=fsc
abbrev iE:List Str:=["thing"]
theorem cZ:ar iE ["thing"] (aj cj):=fsc
abbrev mh:List Str:=["thing","most"]
theorem fU:ar mh ["thing","most"] (aj ef):=fsc
abbrev kR:List Str:=["order","signs","place"]
theorem eY:ar kR ["order","signs","place"] (aj dj):=fsc
abbrev mP:List Str:=["order","signs","place","mark","sign"]
theorem fZ:ar mP ["order","signs","place","mark"] (aj dY):=fsc
abbrev n5:List Str:=["order","signs","place","one","other"]
theorem gQ:ar n5 ["order","signs","place","one","other"] (aj fj):=fsc
abbrev nF:List Str:=["order","signs","step"]
theorem gV:ar nF ["order","signs","step"] (aj eX):=fsc
abbrev tF:List Str:=["order","row","walk","signs","number","step","change","begin","end","put"]
theorem lx:ar tF ["order","row","walk"] (aj jR):=fsc
abbrev gy:List Str:=["order","one","other"]
theorem cE:ar gy ["order","one","other"] (aj bO):=fsc
abbrev iY:List Str:=["order","one","other","walk"]
theorem dH:ar iY ["order","one","other","walk"] (aj cw):=fsc
abbrev jb:List Str:=["parts","paper","order","one","other"]
theorem dM:ar jb ["parts","paper"] (aj cA):=fsc
abbrev ri:List Str:=["claim","paper","check"]
theorem jK:ar ri ["claim","paper"] (aj ik):=fsc
abbrev nX:List Str:=["_law_script","_law_k","_law_size","_law_cell","_law_rest","_law_seed","_law_found","_law_j"]
theorem g9:ar nX ["_law_script","_law_k","_law_size"] (aj eV):=fsc
abbrev qN:List Str:=["_law_numbers_here","_law_signs","_law_found","_law_number","_law_word","_law_step","_law_k"]
theorem jH:ar qN ["_law_numbers_here"] (aj il):=fsc
abbrev q0:List Str:=["_law_numbers_here","_law_marks","_law_found","_law_k"]
theorem jv:ar q0 ["_law_numbers_here","_law_marks"] (aj ip):=fsc
abbrev sP:List Str:=["_law_number","_law_marks"]
theorem lg:ar sP ["_law_number","_law_marks"] (aj jn):=fsc
abbrev oy:List Str:=["_law_order_here","_law_one","_law_found","_law_turn","_law_low","_law_high"]
theorem hJ:ar oy ["_law_order_here","_law_one"] (aj fq):=fsc
abbrev o7:List Str:=["_law_order_here","_law_one","_law_other"]
theorem iS:ar o7 ["_law_order_here","_law_one","_law_other"] (aj gz):=fsc
abbrev qX:List Str:=["_law_claim","_law_paper","_law_due","_law_found"]
theorem ke:ar qX ["_law_claim","_law_paper","_law_due"] (aj iF):=fsc
abbrev qW:List Str:=["_law_order_here","_law_one","_law_mark"]
theorem jT:ar qW ["_law_order_here","_law_one","_law_mark"] (aj ix):=fsc
abbrev qZ:List Str:=["_law_order_here","_law_one","_law_other"]
theorem jB:ar qZ ["_law_order_here","_law_one","_law_other"] (aj iK):=fsc
abbrev qP:List Str:=["_law_thing","_law_size"]
theorem kc:ar qP ["_law_thing","_law_size"] (aj iG):=fsc
abbrev fh:List Str:=["_law_thing"]
theorem gH:ar fh ["_law_thing"] (aj da):=fsc
abbrev m3:List Str:=["_law_thing"]
theorem g8:ar m3 ["_law_thing"] (aj eU):=fsc
abbrev kM:List Str:=["_law_order_here","_law_row","_law_step","_law_at"]
theorem fG:ar kM ["_law_order_here","_law_row","_law_step"] (aj dw):=fsc
abbrev rM:List Str:=["_law_order_here","_law_row","_law_walk_here","_law_step"]
theorem lb:ar rM ["_law_order_here","_law_row","_law_walk_here"] (aj j5):=fsc
abbrev ku:List Str:=["_law_order_here","_law_marks","_law_row","_law_number","_law_at","_law_mark","_law_other","_law_turn"]
theorem eR:ar ku ["_law_order_here","_law_marks","_law_row","_law_number"] (aj dq):=fsc
abbrev jq:List Str:=["_law_order_here","_law_marks","_law_row","_law_numbers_here","_law_found","_law_number","_law_cancels","_law_step","_law_led"]
theorem kY:ar jq ["_law_order_here","_law_marks","_law_row","_law_numbers_here"] (aj gF):=fsc
abbrev tI:List Str:=["_law_walk_here","_law_number","_law_at","_law_step","_law_way","_law_odd"]
theorem lO:ar tI ["_law_walk_here","_law_number"] (aj jI):=fsc
abbrev rV:List Str:=["_law_script","_law_numbers_here","_law_marks","_law_order_here","_law_row","_law_k","_law_more","_law_walk_here","_law_end","_law_ends","_law_papers","_law_told","_law_paper"]
theorem tm:ar rV ["_law_script"] (aj qh):=fsc
abbrev ia:N5:=zE (top 2) 0
theorem ua:ar ["self","number"] ["self","number"] (aj ia):=fsc
theorem uW{P:C6}{w:J1}{K:u8}{mg:Str->Option A0}{base:D6}{C W fI f:A9}{fd:B2}(F:Fun K "__init__" "NoStep.__init__" ia f fd)(Y:i3 K mg "NoStep" "WishError" "number" C W fI):aK P w K mg base CX0 1 f fd ["self","number"] (spI C):=by
 refine F.ok ua (λvs H Q E h=>?_) (λcdv A outer s H vs Q E hr h=>⟨_,jJ (pG (yV Y 0 rfl (pv 0) tG)) (ji (zw Y 0 1 (pv 0) (pv 1))),?_⟩)
 ·obtain⟨e,v,rfl,_⟩:=h;rfl
 ·obtain⟨e,v,rfl,he,q⟩:=h;exact⟨e,rfl,he,e,v,rfl,rfl,he,q⟩
structure Txt(mg:Str->Option A0):Prop where
 b_isinstance:mg "isinstance"=none
 b_int:mg "int"=none
 b_bool:mg "bool"=none
 b_tuple:mg "tuple"=none
 b_len:mg "len"=none
 b_str:mg "str"=none
 b_all:mg "all"=none
 b_list:mg "list"=none
 b_enumerate:mg "enumerate"=none
 b_range:mg "range"=none
 b_abs:mg "abs"=none
 g_SMALL_LETTERS:∃t,mg "SMALL_LETTERS"=some (.str "abcdefghijklmnopqrstuvwxyz" t)
 g_MOST_LETTERS:∃t,mg "MOST_LETTERS"=some (.int 8 t)
 g_MOST_PAIRS:∃t,mg "MOST_PAIRS"=some (.int 8 t)
 g_MOST_TURN:∃t,mg "MOST_TURN"=some (.int 99 t)
 g_MOST_SIGNS_OF_ROW:∃t,mg "MOST_SIGNS_OF_ROW"=some (.int 60 t)
def xP:List (Str×Str):=[("sentence","takes_sentence"),("no sentence","takes_no_sentence"),("twofold","takes_twofold"),("comes","takes_comes"),("comes not","takes_comes_not"),("parted","takes_parted"),("means","takes_means")]
set_option hygiene false in
local macro_rules|`(tactic| walk_at"")=>`(tactic| simp only[sd,pH,oD,sJ,zU,sj,vo,xG,ub,we,mO,dC,uf,pO,yo,vP,vQ,dOp,dUn,lZ,yq,tO,vB,dCB,vN,yS,yt,vK,zJ,wW,sE,zz,ym,zk,dIf,ow,xq,rC,tE,vE,sQ,yd,yx,rH,vU,rY,sM,wG,vz,sv,oR,HD.dKr.injEq,u9,HD.dT.injEq,HD.dK.injEq,zC,zA,l6,sO,dLc,sF,yQ,
 vy,xb,uX,ud,u6,vt,uZ,uM,wj,uB,pY,u4,uP,yj,yv,yK,kZ,vO,jW,sy,vW,wx,xM,wo,xU,xX,wX,xS,xf,xa,xl,yO,zD,zt,yh,wU,wL,zb,zx,zm,tN,tS,sx,sm,zK,y3,yf,yP,yc,yF,zq,sZ,zf,u7,qE,wb,fO,sD,
 dR,J0,X5,List.cons_append,O4,N3,W5,B3,List.set_cons_zero,List.set_cons_succ,List.getElem?_cons_zero,List.getElem?_cons_succ,L8.injEq,exists_eq_left',exists_eq_left,D.int.injEq,D.bl.injEq,D.str.injEq,D.ref.injEq,D.tup.injEq,D.lst.injEq,true_and,and_true,if_true,decide_eq_true_eq,exists_and_left,Nat.zero_add,Nat.reduceAdd,Nat.reduceSub,yw,zg,rZ,yW,zo,HD.lst.injEq,F4,or_true,true_or,and_self,↓reduceIte,Int.reduceLT,Int.reduceLE,Int.reducePow,Int.reduceNeg,Int.reduceToNat,Nat.reducePow,Nat.reduceLT,Nat.reduceLeDiff,Int.reduceAdd,Int.reduceMul,Int.reduceSub,B0,Bool.true_eq_false,if_false])
section
variable{P:C6}{w:J1}{K:u8}{mg:Str->Option A0}{base:D6}{f:A9}{fd:B2}
theorem yW:kO 10 6=True:=by simp[kO]
theorem aR{a b:TSd}{E:cV}{Δ:DE}{M:DH}(C:DE->DH->Prop)(h1:∀nx,(∀ Δ' M',C Δ' M'->nx Δ' M')->a { E with nx:=nx } Δ M)(h2:∀ Δ' M',C Δ' M'->b E Δ' M'):ub a b E Δ M:=h1 _ h2
theorem gn{xs:List D}{n:Nat}:L2.bP xs none (some (n:Int))=xs.take n:=by
 unfold L2.bP;rw[HT.sIx_none,HT.sIx_nat,List.drop_zero,Nat.sub_zero]
 by_cases h:n<=xs.length
 ·rw[W8 h]
 ·rw[Nat.min_eq_right (by lia),List.take_length,L7 (by lia)]
theorem bI{xs:List D}{n:Nat}:L2.bP xs (some (n:Int)) none=xs.drop n:=by
 unfold L2.bP;rw[HT.sIx_none,HT.sIx_nat]
 by_cases h:n<=xs.length
 ·rw[W8 h,L7 (by simp)]
 ·rw[Nat.min_eq_right (by lia),Nat.sub_self,List.take_zero,List.drop_of_length_le (by lia)]
theorem ft{lo:Int}{n:Nat}:(nB lo n).length=n:=by simp[nB]
def ax(x:Str×Str):D:=.tup [.str x.1,.str x.2]
theorem fE{gb:List Str}{v:Int}(h0:0<=v)(h1:v<(gb.length:Int)):∃m∈gb,atI (gb.map D.str) v=some (.str m):=by
 obtain⟨n,rfl⟩:=L1 h0;have hn:n<gb.length:=by lia
 exact⟨gb[n],N4 hn,bp (by simp[hn])⟩
inductive bR (ord:List (Str×Str)) (a:Str):Str->Prop
 |refl:bR ord a a
 |step {b c:Str}:bR ord a b->(b,c)∈ord->bR ord a c
theorem n6{ord:List (Str×Str)}{a x:Str}{L:List Str}(h0:a∈L)(hc:∀y∈ord,y.1∈L->y.2∈L)(h:bR ord a x):x∈L:=by
 induction h with
 |refl=>exact h0
 |step _ hm ih=>exact hc _ hm ih
def dP:SpD:=λds M R=>∃(ord:List (Str×Str)) (a:Str),ds=[.tup (ord.map ax),.str a]/\ord.length<=500 /\
 ∀L:List Str,a∈L->(∀y∈ord,y.1∈L->y.2∈L)->(∀x∈L,bR ord a x)->L.length<=ord.length+1->R (.lst (L.map .str)) M
abbrev tIn:TSd:=uf (tO (lZ (dOp eqF (mO 4) (dOp ixD (mO 2) (mO 3)))) (lZ (dOp (inE true) (mO 5) (mO 2)))) (sE (wW (mO 2) (mO 5))) pO
theorem fP{q:A9}{E:cV}{M:DH}(hq:M q=none)(ps:D)(a:Str)(ord:List (Str×Str))(hord:ord.length<=500)(i:Nat)(L0:List Str)(hi:i<L0.length):∀(todo done:List (Str×Str)) (x4 x5:Option D) (L:List Str),ord=done++todo->(∃t,L=L0++t)->L.Nodup->(∀x∈L,bR ord a x)->(∀x∈L,x∈a::ord.map (·.2))->(∀y∈done,y.1=L0[i]->y.2∈L) ->
  (∀(y4 y5:Option D) (L':List Str),(∃t,L'=L0++t)->L'.Nodup->(∀x∈L',bR ord a x)->(∀x∈L',x∈a::ord.map (·.2))->(∀y∈ord,y.1=L0[i]->y.2∈L')->E.nx [some ps,some (.str a),some (.ref q),some (.int i),y4,y5] (bt M q (.lst (L'.map .str)))) ->
  bH (k6 (gj (dX 4) (gj (dX 5) m6)) 2) tIn E (todo.map ax) [some ps,some (.str a),some (.ref q),some (.int i),x4,x5] (bt M q (.lst (L.map .str)))
 |[],done,x4,x5,L,ho,ht,hn,hs,hb,hd,k=>by
  simp only[X5,bH];exact k x4 x5 L ht hn hs hb (by rw[ho,M9];exact hd)
 |(b,c)::todo,done,x4,x5,L,ho,⟨t,ht⟩,hn,hs,hb,hd,k=>by
  have hiL:i<L.length:=by rw[ht];simp;lia
  have eL:L[i]=L0[i]:=by subst ht;simp[hi]
  have eat:atI (L.map D.str) (i:Int)=some (.str L[i]):=bp (by simp[hiL]);have b6:L.length<=ord.length+1:=by
   have:=dG L (a::ord.map (·.2)) hn hb;simpa using this
  simp only[J0,ax,bH,k6,gj,dX,m6,Option.bind_some];refine⟨_,rfl,?_⟩;walk_at"";refine⟨_,eat,?_⟩;walk_at"";have ho':ord=(done++[(b,c)])++todo:=by rw[ho];simp
  have hmem:(b,c)∈ord:=by rw[ho];simp
  refine aM (λh=>?_) (λh=>?_)
  ·have hbe:b=L0[i]:=by rw[<-eL];simpa using h
   refine⟨_,if_pos ⟨rfl,bZ⟩,_,rfl,?_⟩;rw[bJ]
   by_cases hc:c∈L
   ·simp only[hc,decide_true,Bool.xor_true,Bool.not_true,B0,if_false];exact fP hq ps a ord hord i L0 hi todo (done++[(b,c)]) _ _ L ho' ⟨t,ht⟩ hn hs hb (λy hy hy1=>by
     rcases C0.mp hy with h|h
     ·exact hd y h hy1
     ·have:y=(b,c):=by simpa using h
      subst this;exact hc) k
   ·simp only[hc,decide_false,Bool.xor_false,if_true];refine⟨by rw[A5];exact B5 (by lia:L.length<1000) (sz3 1000),?_⟩;have ea:L.map D.str++[D.str c]=(L++[c]).map D.str:=by simp
    rw[ea];refine fP hq ps a ord hord i L0 hi todo (done++[(b,c)]) _ _ (L++[c]) ho' ⟨t++[c],by rw[ht];simp⟩ ?_ (λx hx=>?_) (λx hx=>?_) (λy hy hy1=>?_) k
    ·rw[List.nodup_append];refine⟨hn,by simp,λu hu v hv=>?_⟩;have:v=c:=by simpa using hv
     subst this;rintro rfl;exact hc hu
    ·rcases C0.mp hx with h|h
     ·exact hs x h
     ·have:x=c:=by simpa using h
      subst this;exact bR.step (hs b (by rw[hbe,<-eL];exact N4 hiL)) hmem
    ·rcases C0.mp hx with h|h
     ·exact hb x h
     ·have:x=c:=by simpa using h
      subst this;exact C7 _ (R3.mpr ⟨_,hmem,rfl⟩)
    ·rcases C0.mp hy with h|h
     ·exact K2 _ (hd y h hy1)
     ·have:y=(b,c):=by simpa using h
      subst this;simp
  ·exact fP hq ps a ord hord i L0 hi todo (done++[(b,c)]) _ _ L ho' ⟨t,ht⟩ hn hs hb (λy hy hy1=>by
    rcases C0.mp hy with h'|h'
    ·exact hd y h' hy1
    ·have:y=(b,c):=by simpa using h'
     subst this;exact absurd (by rw[eL];simpa using hy1) h) k
theorem gM(F:Fun K "reached_from" "reached_from" ck f fd)(T:Txt mg):aK P w K mg base CX0 1 f fd ["pairs","mark"] (spD K 2 dP):=by
 have nd:=c9.nd;refine F.okR rfl c9 (λcdv A outer s H E hr=>⟨_,(ak (aI (i:=2) nd rfl (D8 rfl) (gm (ae (aa 1) ah)))
   (ak (aI (i:=3) nd rfl (D8 rfl) ag)
   (ak (pz F8 (aG l8 (aa 3) (aA ba rfl T.b_len (by kernel_rfl) (ae (aa 2) ah)) nbh) (ak (eM F8 rfl (cn (aa 0)) (lw rfl (bU (a7 (i:=4) nd rfl (D8 rfl)) (bU (a7 (i:=5) nd rfl (D8 rfl)) lD))) (am (aP (dO (bx (aG (cC hr.units) (aa 4) (aw av (aa 2) (aa 3) (λ_ _=>rfl)) nbh) (bV (aG og (aa 5) (aa 2) rfl)))) (am (fb (iV (aa 2) (aa 5)))) aD)))
   (am (yH (i:=3) nd rfl (D8 rfl) ag wJ))))
   (am (lX (aa 2)))))),λds M R _ hS bk=>?_⟩)
 obtain⟨ord,a,rfl,ho,k⟩:=hS;refine bk ?_;clear bk;walk_at"";refine⟨sz3 1,λq hq=>?_⟩;refine⟨λm Δ M'=>∃(i:Nat) (L:List Str) (x4 x5:Option D),Δ=[some (D.tup (ord.map ax)),some (D.str a),some (D.ref q),some (D.int i),x4,x5]/\M'=bt M q (.lst (L.map .str))/\i<=L.length/\L.Nodup/\a∈L/\(∀x∈L,bR ord a x)/\(∀x∈L,x∈a::ord.map (·.2))/\(∀y∈ord,∀j,j<i->L[j]?=some y.1->y.2∈L)/\m=ord.length+1-i,
  ⟨_,0,[a],none,none,rfl,rfl,R8 _,by simp,by simp,λx hx=>by
   have:x=a:=by simpa using hx
   subst this;exact bR.refl,λx hx=>by
   have:x=a:=by simpa using hx
   subst this;simp,λy _ j hj=>absurd hj (by lia),rfl⟩,?_⟩
 intro m Δ M' hI;refine shr λ_ bk=>?_;obtain⟨i,L,x4,x5,rfl,rfl,hiL,hn,ha,hs,hb,hp,rfl⟩:=hI;refine bk ?_;clear bk;have b6:L.length<=ord.length+1:=by
  have:=dG L (a::ord.map (·.2)) hn hb;simpa using this
 walk_at"";rw[A5];refine aM (λh=>?_) (λh=>?_)
 ·have hi:i<L.length:=by lia
  intro hz;refine fP hq _ a ord ho i L hi ord [] x4 x5 L rfl ⟨[],by simp⟩ hn hs hb (λy hy=>absurd hy (by simp)) (λy4 y5 L' hL' hn' hs' hb' hd'=>?_);obtain⟨t,rfl⟩:=hL';walk_at"";refine⟨ord.length+1-(i+1),by lia,i+1,L++t,y4,y5,?_,rfl,by simp;lia,hn',K2 _ ha,hs',hb',λy hy j hj hjy=>?_,rfl⟩
  ·simp
  ·by_cases hji:j=i
   ·subst hji;refine hd' y hy ?_;rw[E9 hi,C4 hi]at hjy;exact(K7 hjy).symm
   ·rw[E9 (by lia)]at hjy;exact K2 _ (hp y hy j (by lia) hjy)
 ·rw[gY hq];refine k L ha (λy hy hy1=>?_) hs b6;obtain⟨j,hj,e⟩:=List.mem_iff_getElem.mp hy1;exact hp y hy j (by lia) (by rw[C4 hj,e])
def ao(x:Str×Int):D:=.tup [.str x.1,.int x.2]
theorem l7{α:Type}{f:α->D}(hf:∀x y,f x=f y->x=y):∀{xs ys:List α},xs.map f=ys.map f->xs=ys
 |[],[],_=>rfl
 |[],_::_,h=>by simp at h
 |_::_,[],h=>by simp at h
 |x::xs,y::ys,h=>by
  simp only[J0,F4]at h;rw[hf _ _ h.1,l7 hf h.2]
theorem lJ:∀x y,ax x=ax y->x=y:=λ⟨a,b⟩ ⟨c,d⟩ h=>by simpa[ax]using h
theorem cL:∀x y,ao x=ao y->x=y:=λ⟨a,b⟩ ⟨c,d⟩ h=>by simpa[ao]using h
def qe(ord:List (Str×Str))(t:Int)(a b:Str):Prop:=if t % 2=0 then bR ord a b else bR ord b a
open Classical in
def rB(ord:List (Str×Str))(a b:Str):Bool:=decide (bR ord a b)
open Classical in
def lB(ord:List (Str×Str))(t:Int)(a b:Str):Bool:=decide (qe ord t a b)
theorem mI{ord:List (Str×Str)}{a b:Str}:rB ord a b=true↔bR ord a b:=by simp[rB]
theorem tJ{ord:List (Str×Str)}{t:Int}{a b:Str}:lB ord t a b=true↔qe ord t a b:=by simp[lB]
theorem l5{ord:List (Str×Str)}{t:Int}{a b:Str}(h:t % 2=0):lB ord t a b=rB ord a b:=by rw[Q8,tJ,mI,qe,if_pos h]
theorem o5{ord:List (Str×Str)}{t:Int}{a b:Str}(h:¬ t % 2=0):lB ord t a b=rB ord b a:=by rw[Q8,tJ,mI,qe,if_neg h]
def fv:SpD:=λds M R=>∃(ord:List (Str×Str)) (a b:Str),ds=[.tup (ord.map ax),.str a,.str b]/\ord.length<=500/\R (.bl (rB ord a b)) M
def bD:SpD:=λds M R=>∃(ord:List (Str×Str)) (t:Int) (a b:Str),ds=[.tup (ord.map ax),.int t,.str a,.str b]/\ord.length<=500/\R (.bl (lB ord t a b)) M
def jl:SpD:=λds M R=>∃(ord:List (Str×Str)) (x y:Str×Int),ds=[.tup (ord.map ax),ao x,ao y]/\ord.length<=500/\R (.bl (x.2+1==y.2&&lB ord x.2 x.1 y.1)) M
theorem kF{ord:List (Str×Str)}{a b:Str}{M:DH}{R:D->DH->Prop}:fv [.tup (ord.map ax),.str a,.str b] M R↔ord.length<=500/\R (.bl (rB ord a b)) M :=
 ⟨λ⟨o,c,d,e,h1,h2⟩=>by
  simp only[F4,D.tup.injEq,D.str.injEq,and_true]at e;obtain⟨e1,e2,e3⟩:=e;rw[l7 lJ e1,e2,e3];exact⟨h1,h2⟩,λh=>⟨ord,a,b,rfl,h⟩⟩
theorem cg{ord:List (Str×Str)}{t:Int}{a b:Str}{M:DH}{R:D->DH->Prop}:bD [.tup (ord.map ax),.int t,.str a,.str b] M R↔ord.length<=500/\R (.bl (lB ord t a b)) M :=
 ⟨λ⟨o,u,c,d,e,h1,h2⟩=>by
  simp only[F4,D.tup.injEq,D.str.injEq,D.int.injEq,and_true]at e;obtain⟨e1,e0,e2,e3⟩:=e;rw[l7 lJ e1,e0,e2,e3];exact⟨h1,h2⟩,λh=>⟨ord,t,a,b,rfl,h⟩⟩
theorem mR(F:Fun K "at_most" "at_most" fo f fd)(T:Txt mg)(Y7:FnD P w K mg base "reached_from" 1 2 dP):aK P w K mg base CX0 2 f fd ["order","one","other"] (spD K 3 fv):=by
 have nd:=hV.nd;refine F.okR rfl hV (λcdv A outer s H E hr=>⟨_,(am (az (cb gd (aa 2) (qd Y7 hr (ae (aa 0) (ae (aa 1) ah))) rfl))),λds M R _ hS bk=>?_⟩);obtain⟨ord,a,b,rfl,ho,k⟩:=hS;refine bk ?_;clear bk;walk_at"";refine⟨ord,a,rfl,ho,λL h1 h2 h3 h4=>?_⟩;refine⟨_,if_pos ⟨rfl,bZ⟩,?_⟩;rw[bJ];have e:(false ^^ decide (b∈L))=rB ord a b:=by
  rw[T3,Q8,mI,decide_eq_true_eq];exact⟨λh=>h3 b h,λh=>n6 h1 h2 h⟩
 rw[e];exact k
theorem i2(F:Fun K "mark_leads" "mark_leads" cR f fd)(T:Txt mg)(ga2:FnD P w K mg base "at_most" 2 3 fv):aK P w K mg base CX0 3 f fd ["order","turn","one","other"] (spD K 4 bD):=by
 have nd:=eK.nd;refine F.okR rfl eK (λcdv A outer s H E hr=>⟨_,(ak (aP (aG (cC hr.units) (au aY (aa 1) ag) ag nbh) (am (az (qd ga2 hr (ae (aa 0) (ae (aa 2) (ae (aa 3) ah)))))) aD)
   (am (az (qd ga2 hr (ae (aa 0) (ae (aa 3) (ae (aa 2) ah))))))),λds M R _ hS bk=>?_⟩)
 obtain⟨ord,t,a,b,rfl,ho,k⟩:=hS;refine bk ?_;clear bk;walk_at"";simp only[kF];refine aM (λh=>?_) (λh=>?_)
 ·have h':t % 2=0:=by simpa using h
  rw[l5 h']at k;exact⟨ho,k⟩
 ·have h':¬ t % 2=0:=by simpa using h
  rw[o5 h']at k;exact⟨ho,k⟩
theorem nL(F:Fun K "cancel" "cancel" gi f fd)(T:Txt mg)(G1:FnD P w K mg base "mark_leads" 3 4 bD):aK P w K mg base CX0 4 f fd ["order","one","other"] (spD K 3 jl):=by
 have nd:=iX.nd;refine F.okR rfl iX (λcdv A outer s H E hr=>⟨_,(am (az (bj (cb (cC hr.units) (au aH (aw av (aa 1) ag (λ_ _=>rfl)) ag) (aw av (aa 2) ag (λ_ _=>rfl)) nbh) (bK (qd G1 hr (ae (aa 0) (ae (aw av (aa 1) ag (λ_ _=>rfl)) (ae (aw av (aa 1) ag (λ_ _=>rfl)) (ae (aw av (aa 2) ag (λ_ _=>rfl)) ah))))))))),λds M R _ hS bk=>?_⟩);obtain⟨ord,⟨a,t⟩,⟨b,u⟩,rfl,ho,k⟩:=hS;refine bk ?_;clear bk;simp only[ao];walk_at"";simp only[cg];refine aM (λh=>?_) (λh=>?_)
 ·simp only[h,E8]at k;exact⟨ho,k⟩
 ·simp only[h,E6]at k;exact k
def fB(ord:List (Str×Str))(F:List Str):Prop:=∀p∈ord,p.1∈F->p.2∈F
def ic(ord:List (Str×Str))(F:List Str):Nat:=(ord.filter λp=>decide (p.2∈F)).length
theorem kU{F G:List Str}(h:∀x∈F,x∈G):∀{ord:List (Str×Str)},ic ord F<=ic ord G
 |[]=>B6 _
 |p::ord=>by
  have ih:=kU h (ord:=ord);unfold ic at ih ⊢
  by_cases h1:p.2∈F
  ·simp[J8,h1,h _ h1];exact ih
  ·by_cases h2:p.2∈G
   ·simp[J8,h1,h2];lia
   ·simp[J8,h1,h2];exact ih
theorem qg{F G:List Str}(h:∀x∈F,x∈G){q:Str×Str}(h1:q.2∉F)(h2:q.2∈G):∀{ord:List (Str×Str)},q∈ord->ic ord F<ic ord G
 |p::ord,hm=>by
  have im:=kU h (ord:=ord);rcases B9.mp hm with e|hm
  ·subst e;unfold ic at im ⊢;simp[J8,h1,h2];lia
  ·have ih:=qg h h1 h2 hm;unfold ic at im ih ⊢
   by_cases h3:p.2∈F
   ·simp[J8,h3,h _ h3];exact ih
   ·by_cases h4:p.2∈G
    ·simp[J8,h3,h4];lia
    ·simp[J8,h3,h4];exact ih
theorem ui{ord:List (Str×Str)}{F:List Str}:ic ord F<=ord.length:=List.length_filter_le _ _
theorem m8{F:List Str}:∀{ord:List (Str×Str)},ord.length<=ic ord F->∀p∈ord,p.2∈F
 |p::ord,h,q,hq=>by
  have hl:=ui (ord:=ord) (F:=F);unfold ic at h hl
  by_cases h3:p.2∈F
  ·rcases B9.mp hq with e|hq
   ·subst e;exact h3
   ·refine m8 (ord:=ord) ?_ q hq;unfold ic;simp[J8,h3]at h;exact h
  ·simp[J8,h3]at h
   lia
theorem qT{ord:List (Str×Str)}{F:List Str}(h:fB ord F∨ord.length<=ic ord F):fB ord F:=by
 rcases h with h|h
 ·exact h
 ·exact λp hp _=>m8 h p hp
mutual
def ai:D->Bool
 |.tup ds=>aS ds
 |.lst ds=>aS ds
 |.str x=>decide (x.length<=1000000)
 |.scr _=>false
 |.ref _=>false
 |.box _ _=>false
 |_=>true
def aS:List D->Bool
 |[]=>true
 |d::ds=>ai d&&aS ds
end
theorem aX:∀{ds:List D},aS ds=true↔∀d∈ds,ai d=true
 |[]=>by simp[aS]
 |d::ds=>by simp[aS,aX (ds:=ds)]
theorem aZ{M:DH}{d:D}(h:ai d=true):rdM M d=d:=by
 cases d<;>first|rfl|(simp[ai]at h)
def e8:D->Int->Bool
 |.tup ds,n=>(ds.length:Int)==n
 |_,_=>false
def bo(x:Str):Bool:=decide (1<=x.length)&&decide (x.length<=8)&&x.cps.toList.all λc=>decide (c∈fQ)
def aU:D->Bool
 |.str x=>bo x
 |_=>false
def bc:SpD:=λds M R=>∃d n,ds=[d,.int n]/\ai d=true/\R (.bl (e8 d n)) M
theorem bA{d:D}{n:Int}{M:DH}{R:D->DH->Prop}:bc [d,.int n] M R↔ai d=true/\R (.bl (e8 d n)) M :=
 ⟨λ⟨d',n',e,h⟩=>by simp only[F4,D.int.injEq,and_true]at e;rw[e.1,e.2];exact h,λh=>⟨d,n,rfl,h⟩⟩
theorem iD(F:Fun K "is_tuple_of" "is_tuple_of" cy f fd)(T:Txt mg):aK P w K mg base CX0 1 f fd ["thing","many"] (spD K 2 bc):=by
 have nd:=dJ.nd;refine F.okR rfl dJ (λcdv A outer s H E hr=>⟨_,(am (az (bj (bC (Tn:="tuple") (by decide) rfl T.b_isinstance rfl T.b_tuple (by kernel_rfl) (aa 0)) (bK (cb (cC hr.units) (aA ba rfl T.b_len (by kernel_rfl) (ae (aa 0) ah)) (aa 1) nbh))))),λds M R _ hS bk=>?_⟩);obtain⟨d,n,rfl,hd,k⟩:=hS;refine bk ?_;clear bk;walk_at"";simp only[aZ hd];cases d with
 |tup ds =>
  refine⟨true,rfl,?_⟩;walk_at"";exact k
 |scr _=>simp[ai]at hd
 |ref _=>simp[ai]at hd
 |box _ _=>simp[ai]at hd
 |_=>exact⟨false,rfl,by simp only[B0,if_false];exact k⟩
def bB:SpD:=λds M R=>∃d,ds=[d]/\ai d=true/\R (.bl (aU d)) M
theorem cF{d:D}{M:DH}{R:D->DH->Prop}:bB [d] M R↔ai d=true/\R (.bl (aU d)) M :=
 ⟨λ⟨d',e,h⟩=>by simp only[F4,and_true]at e;rw[e];exact h,λh=>⟨d,rfl,h⟩⟩
def cu:SpD:=bB
theorem du{d:D}{M:DH}{R:D->DH->Prop}:cu [d] M R↔ai d=true/\R (.bl (aU d)) M:=cF
theorem pW:abc.cps.toList=fQ:=by rw[jA,cY]
theorem gZ{bs:List Bool}:ur (.lst (bs.map D.bl))=some (.bl (bs.all id)):=by
 have h1:(bs.map D.bl).all uk=true:=by rw[R1,L6];intro _ _;rfl
 have h2:(bs.map D.bl).all rE=bs.all id:=by rw[R1];rfl
 simp only[ur,h1,h2,if_true]
theorem gA(F:Fun K "is_short_word" "is_short_word" bz f fd)(T:Txt mg):aK P w K mg base CX0 1 f fd ["thing"] (spD K 1 bB):=by
 have nd:=cS.nd;refine F.okR rfl cS (λcdv A outer s H E hr=>⟨_,(am (az (bj (bC (Tn:="str") (by decide) rfl T.b_isinstance rfl T.b_str (by kernel_rfl) (aa 0)) (bj (hU kf kf ag (aA ba rfl T.b_len (by kernel_rfl) (ae (aa 0) ah)) (eZ rfl T.g_MOST_LETTERS)) (bK (aA (pD rfl) rfl T.b_all (by kernel_rfl) (ae (rQ (ms:=[false]) (ay:=["letter"]) (cK (n0:=0) rfl (show cW (aj bz) bX _ _=true from by decide +kernel)) rfl (cn (aa 0)) (fM (i:=1) (show(bX++_).Nodup from by decide +kernel) rfl rfl) (λ_ _ _ _=>jk) (λ_ _ _ _=>(cb gd (aa 1) (tL rfl T.g_SMALL_LETTERS) rfl))) ah))))))),λds M R _ hS bk=>?_⟩);obtain⟨d,rfl,hd,k⟩:=hS;refine bk ?_;clear bk;walk_at"";simp only[aZ hd];cases d with
 |str x =>
  have hx:x.length<=1000000:=by simpa[ai]using hd
  refine⟨true,rfl,?_⟩;walk_at"";refine⟨_,if_pos (szB _ (by lia)),?_⟩;walk_at"";have hsl:x.length=x.cps.toList.length:=by show x.cps.size=_;simp
  refine aM (λh1=>aM (λh2=>?_) (λh2=>?_)) (λh1=>?_)
  ·refine⟨_,if_pos (szB _ (by lia)),λhz=>⟨hz,?_⟩⟩;refine cP (λ_=>true) (λd=>match d with|.str y=>.bl (y.cps.toList.all λc=>decide (c∈fQ))|_=>.non) (λΔ=>∃x,Δ=[none,x]) _ _ _ (λd hd Δ hΔ=>?_) ⟨none,rfl⟩ ?_
   ·obtain⟨x1,rfl⟩:=hΔ;obtain⟨c,_,rfl⟩:=R3.mp (show d∈x.cps.toList.map λc=>D.str (tx [c])from hd);refine⟨_,rfl,⟨_,rfl⟩,λQ1 q=>q,λ_ Q2 q=>?_⟩;walk_at"";simp only[sZ,L8.injEq,exists_eq_left',T3];rw[show(D3 "abcdefghijklmnopqrstuvwxyz").cps.toList=fQ from pW];simpa[cY]using q
   ·rw[O4,List.filter_eq_self.mpr (λ_ _=>rfl)];have e:(L2.signs x).map (λd=>match d with|.str y=>D.bl (y.cps.toList.all λc=>decide (c∈fQ))|_=>.non)=(x.cps.toList.map λc=>decide (c∈fQ)).map D.bl:=by
     unfold L2.signs;rw[T7,T7];apply List.map_congr_left;intro c _;simp
    rw[e];refine⟨_,gZ,?_⟩;have e2:(x.cps.toList.map λc=>decide (c∈fQ)).all id=bo x:=by
     unfold bo;rw[R1,decide_eq_true (by lia:1<=x.length),decide_eq_true (by lia:x.length<=8)];rfl
    rw[e2];exact k
  ·have e2:aU (.str x)=false:=by simp only[aU,bo,decide_eq_false (by lia:¬ x.length<=8),Bool.and_false,E6]
   rw[e2]at k;exact k
  ·have e2:aU (.str x)=false:=by simp only[aU,bo,decide_eq_false (by lia:¬ 1<=x.length),E6]
   rw[e2]at k;exact k
 |scr _=>simp[ai]at hd
 |ref _=>simp[ai]at hd
 |box _ _=>simp[ai]at hd
 |_=>exact⟨false,rfl,by simp only[B0,if_false];exact k⟩
theorem ml(F:Fun K "is_mark" "is_mark" eW f fd)(T:Txt mg)(Y6:FnD P w K mg base "is_short_word" 1 1 bB):aK P w K mg base CX0 2 f fd ["thing"] (spD K 1 cu):=by
 have nd:=hG.nd;refine F.okR rfl hG (λcdv A outer s H E hr=>⟨_,(am (az (qd Y6 hr (ae (aa 0) ah)))),λds M R _ hS bk=>?_⟩);obtain⟨d,rfl,hd,k⟩:=hS;refine bk ?_;clear bk;walk_at"";exact cF.mpr ⟨hd,k⟩
end
section
variable{P:C6}{w:J1}{K:u8}{mg:Str->Option A0}{base:D6}{f:A9}{fd:B2}
def j0:D->Bool
 |.int _=>true
 |_=>false
def j6:D->Bool
 |.int t=>decide (-99<=t)&&decide (t<=99)
 |_=>false
def eG:D->Bool
 |.tup [a,b]=>aU a&&j6 b
 |_=>false
def sG:D->Bool
 |.tup ds=>ds.all eG
 |_=>false
def ka(f:D->Bool):SpD:=λds M R=>∃d,ds=[d]/\ai d=true/\R (.bl (f d)) M
theorem bq{f:D->Bool}{d:D}{M:DH}{R:D->DH->Prop}:ka f [d] M R↔ai d=true/\R (.bl (f d)) M :=
 ⟨λ⟨d',e,h⟩=>by simp only[F4,and_true]at e;rw[e];exact h,λh=>⟨d,rfl,h⟩⟩
def eB:SpD:=ka j0
def iQ:SpD:=ka j6
def eQ:SpD:=ka eG
def jw:SpD:=ka sG
theorem kL(F:Fun K "is_whole" "is_whole" dQ f fd)(T:Txt mg):aK P w K mg base CX0 1 f fd ["thing"] (spD K 1 eB):=by
 have nd:=gf.nd;refine F.okR rfl gf (λcdv A outer s H E hr=>⟨_,(am (az (bj (bC (Tn:="int") (by decide) rfl T.b_isinstance rfl T.b_int (by kernel_rfl) (aa 0)) (bK (sY (bC (Tn:="bool") (by decide) rfl T.b_isinstance rfl T.b_bool (by kernel_rfl) (aa 0))))))),λds M R _ hS bk=>?_⟩);obtain⟨d,rfl,hd,k⟩:=hS;refine bk ?_;clear bk;walk_at"";simp only[aZ hd];cases d with
 |int i=>exact⟨true,rfl,by simp only[if_true];exact⟨false,rfl,k⟩⟩
 |bl b=>exact⟨true,rfl,by simp only[if_true];exact⟨true,rfl,k⟩⟩
 |scr _=>simp[ai]at hd
 |ref _=>simp[ai]at hd
 |box _ _=>simp[ai]at hd
 |_=>exact⟨false,rfl,by simp only[B0,if_false];exact k⟩
theorem mT(F:Fun K "is_turn" "is_turn" e6 f fd)(T:Txt mg)(G9:FnD P w K mg base "is_whole" 1 1 eB):aK P w K mg base CX0 2 f fd ["thing"] (spD K 1 iQ):=by
 have nd:=gN.nd;refine F.okR rfl gN (λcdv A outer s H E hr=>⟨_,(am (az (bj (qd G9 hr (ae (aa 0) ah)) (bK (hU kf kf (nM nu (eZ rfl T.g_MOST_TURN)) (aa 0) (eZ rfl T.g_MOST_TURN)))))),λds M R _ hS bk=>?_⟩);obtain⟨d,rfl,hd,k⟩:=hS;refine bk ?_;clear bk;walk_at"";refine bq.mpr ⟨hd,?_⟩;walk_at"";simp only[aZ hd];cases d with
 |int t =>
  simp only[j0,if_true];walk_at"";simp only[j6]at k;refine aM (λh=>?_) (λh=>?_)
  ·rw[decide_eq_true h,E8]at k;exact k
  ·rw[decide_eq_false h,E6]at k;exact k
 |scr _=>simp[ai]at hd
 |ref _=>simp[ai]at hd
 |box _ _=>simp[ai]at hd
 |_=>simp only[j0,B0,if_false];exact k
theorem iq{ds:List D}(h:¬ ds.length=2):eG (.tup ds)=false:=by
 match ds,h with
 |[],_=>rfl
 |[_],_=>rfl
 |[_,_],h=>exact absurd rfl h
 |_::_::_::_,_=>rfl
theorem lY(F:Fun K "is_sign" "is_sign" fF f fd)(T:Txt mg)(G0:FnD P w K mg base "is_tuple_of" 1 2 bc)(G2:FnD P w K mg base "is_mark" 2 1 cu)(gb1:FnD P w K mg base "is_turn" 2 1 iQ):aK P w K mg base CX0 3 f fd ["thing"] (spD K 1 eQ):=by
 have nd:=gO.nd;refine F.okR rfl gO (λcdv A outer s H E hr=>⟨_,(am (az (bj (qd G0 hr (ae (aa 0) (ae ag ah))) (bj (qd G2 hr (ae (aw av (aa 0) ag (λ_ _=>rfl)) ah)) (bK (qd gb1 hr (ae (aw av (aa 0) ag (λ_ _=>rfl)) ah))))))),λds M R _ hS bk=>?_⟩);obtain⟨d,rfl,hd,k⟩:=hS;refine bk ?_;clear bk;walk_at"";refine bA.mpr ⟨hd,?_⟩;walk_at"";cases d with
 |tup ds =>
  by_cases hl:ds.length=2
  ·match ds,hl,hd,k with
   |[a,b],_,hd,k =>
    have hab:ai a=true/\ai b=true:=by simpa[ai,aS]using hd
    rw[if_pos (by rfl)];walk_at"";refine du.mpr ⟨hab.1,?_⟩;walk_at"";simp only[eG]at k;refine aM (λh=>bq.mpr ⟨hab.2,?_⟩) (λh=>?_)
    ·rw[h,E8]at k;exact k
    ·rw[show aU a=false by simpa using h,E6]at k;exact k
  ·rw[if_neg (by simp only[e8];simp;lia)];rw[iq hl]at k;exact k
 |scr _=>simp[ai]at hd
 |ref _=>simp[ai]at hd
 |box _ _=>simp[ai]at hd
 |_=>rw[if_neg (by simp[e8])];exact k
theorem sh{f:D->Bool}{M:DH}{Q:List D->DH->Prop}{ds:List D}{te:TEd}{Δ0:DE}{n:Nat}(hte:∀d∈ds,∀x,∀Q2:D->DH->Prop,Q2 (.bl (f d)) M->te ((Δ0++[x]).set Δ0.length (some d)) M Q2)
  (h:Q ((ds.map f).map D.bl) M):cO (dX Δ0.length) w6 te ds (Δ0++[none]) M [] Q:=by
 refine cP (λ_=>true) (λd=>.bl (f d)) (λΔ=>∃x,Δ=Δ0++[x]) _ _ _ (λd hd Δ hΔ=>?_) ⟨none,rfl⟩ ?_
 ·obtain⟨x,rfl⟩:=hΔ;refine⟨_,rfl,⟨some d,by simp⟩,λQ1 q=>q,λ_ Q2 q=>hte d hd x Q2 q⟩
 ·rw[O4,List.filter_eq_self.mpr (λ_ _=>rfl)];rw[T7]at h;exact h
theorem m4(F:Fun K "is_row" "is_row" ec f fd)(T:Txt mg)(G8:FnD P w K mg base "is_sign" 3 1 eQ):aK P w K mg base CX0 4 f fd ["thing"] (spD K 1 jw):=by
 have nd:=iL.nd;refine F.okR rfl iL (λcdv A outer s H E hr=>⟨_,(am (az (bj (bC (Tn:="tuple") (by decide) rfl T.b_isinstance rfl T.b_tuple (by kernel_rfl) (aa 0)) (bK (aA (pD rfl) rfl T.b_all (by kernel_rfl) (ae (rQ (ms:=[false]) (ay:=["sign"]) (cK (n0:=0) rfl (show cW (aj ec) gw _ _=true from by decide +kernel)) rfl (cn (aa 0)) (fM (i:=1) (show(gw++_).Nodup from by decide +kernel) rfl rfl) (λ_ _ _ _=>jk) (λ_ _ _ _=>(qd G8 hr (ae (aa 1) ah)))) ah)))))),λds M R _ hS bk=>?_⟩);obtain⟨d,rfl,hd,k⟩:=hS;refine bk ?_;clear bk;walk_at"";simp only[aZ hd];cases d with
 |tup ds =>
  refine⟨true,rfl,?_⟩;walk_at"";have hds:∀d∈ds,ai d=true:=aX.mp (by simpa[ai]using hd);intro hz;refine⟨hz,sh (f:=eG) (Δ0:=[none]) (n:=1) (λd hd' x Q2 q=>?_) ?_⟩
  ·walk_at"";exact bq.mpr ⟨hds d hd',q⟩
  ·refine⟨_,gZ,?_⟩;have e:(ds.map eG).all id=sG (.tup ds):=by
    simp only[sG,R1];rfl
   rw[e];exact k
 |scr _=>simp[ai]at hd
 |ref _=>simp[ai]at hd
 |box _ _=>simp[ai]at hd
 |_=>exact⟨false,rfl,by simp only[B0,if_false];exact k⟩
def iR:D->Bool
 |.tup [a,b]=>aU a&&aU b
 |_=>false
def oj:D->Bool
 |.tup ds=>decide (ds.length<=8)&&ds.all iR
 |_=>false
def fH:SpD:=λds M R=>∃d,ds=[d]/\ai d=true/\R (.bl (iR d)) M
def dZ:SpD:=λds M R=>∃d,ds=[d]/\ai d=true/\R (.bl (oj d)) M
theorem kB{d:D}{M:DH}{R:D->DH->Prop}:fH [d] M R↔ai d=true/\R (.bl (iR d)) M :=
 ⟨λ⟨d',e,h⟩=>by simp only[F4,and_true]at e;rw[e];exact h,λh=>⟨d,rfl,h⟩⟩
theorem jQ{d:D}{M:DH}{R:D->DH->Prop}:dZ [d] M R↔ai d=true/\R (.bl (oj d)) M :=
 ⟨λ⟨d',e,h⟩=>by simp only[F4,and_true]at e;rw[e];exact h,λh=>⟨d,rfl,h⟩⟩
theorem rf{ds:List D}(h:¬ ds.length=2):iR (.tup ds)=false:=by
 match ds,h with
 |[],_=>rfl
 |[_],_=>rfl
 |[_,_],h=>exact absurd rfl h
 |_::_::_::_,_=>rfl
theorem mm(F:Fun K "is_pair" "is_pair" fC f fd)(T:Txt mg)(G0:FnD P w K mg base "is_tuple_of" 1 2 bc)(G2:FnD P w K mg base "is_mark" 2 1 cu):aK P w K mg base CX0 3 f fd ["thing"] (spD K 1 fH):=by
 have nd:=g6.nd;refine F.okR rfl g6 (λcdv A outer s H E hr=>⟨_,(am (az (bj (qd G0 hr (ae (aa 0) (ae ag ah))) (bj (qd G2 hr (ae (aw av (aa 0) ag (λ_ _=>rfl)) ah)) (bK (qd G2 hr (ae (aw av (aa 0) ag (λ_ _=>rfl)) ah))))))),λds M R _ hS bk=>?_⟩);obtain⟨d,rfl,hd,k⟩:=hS;refine bk ?_;clear bk;walk_at"";refine bA.mpr ⟨hd,?_⟩;walk_at"";cases d with
 |tup ds =>
  by_cases hl:ds.length=2
  ·match ds,hl,hd,k with
   |[a,b],_,hd,k =>
    have hab:ai a=true/\ai b=true:=by simpa[ai,aS]using hd
    rw[if_pos (by rfl)];walk_at"";refine du.mpr ⟨hab.1,?_⟩;walk_at"";simp only[iR]at k;refine aM (λh=>du.mpr ⟨hab.2,?_⟩) (λh=>?_)
    ·rw[h,E8]at k;exact k
    ·rw[show aU a=false by simpa using h,E6]at k;exact k
  ·rw[if_neg (by simp only[e8];simp;lia)];rw[rf hl]at k;exact k
 |scr _=>simp[ai]at hd
 |ref _=>simp[ai]at hd
 |box _ _=>simp[ai]at hd
 |_=>rw[if_neg (by simp[e8])];exact k
theorem kG(F:Fun K "is_order" "is_order" cJ f fd)(T:Txt mg)(gb2:FnD P w K mg base "is_pair" 3 1 fH):aK P w K mg base CX0 4 f fd ["thing"] (spD K 1 dZ):=by
 have nd:=gc.nd;refine F.okR rfl gc (λcdv A outer s H E hr=>⟨_,(am (az (bj (bC (Tn:="tuple") (by decide) rfl T.b_isinstance rfl T.b_tuple (by kernel_rfl) (aa 0)) (bj (cb kf (aA ba rfl T.b_len (by kernel_rfl) (ae (aa 0) ah)) (eZ rfl T.g_MOST_PAIRS) nbh) (bK (aA (pD rfl) rfl T.b_all (by kernel_rfl) (ae (rQ (ms:=[false]) (ay:=["pair"]) (cK (n0:=0) rfl (show cW (aj cJ) eE _ _=true from by decide +kernel)) rfl (cn (aa 0)) (fM (i:=1) (show(eE++_).Nodup from by decide +kernel) rfl rfl) (λ_ _ _ _=>jk) (λ_ _ _ _=>(qd gb2 hr (ae (aa 1) ah)))) ah))))))),λds M R _ hS bk=>?_⟩);obtain⟨d,rfl,hd,k⟩:=hS;refine bk ?_;clear bk;walk_at"";simp only[aZ hd];cases d with
 |tup ds =>
  refine⟨true,rfl,?_⟩;walk_at"";have hds:∀d∈ds,ai d=true:=aX.mp (by simpa[ai]using hd);refine aM (λh1=>λhz=>⟨hz,?_⟩) (λh1=>?_)
  ·refine sh (f:=iR) (Δ0:=[none]) (n:=1) (λd hd' x Q2 q=>?_) ?_
   ·walk_at"";exact kB.mpr ⟨hds d hd',q⟩
   ·refine⟨_,gZ,?_⟩;have e:(ds.map iR).all id=oj (.tup ds):=by
     simp only[oj,R1,decide_eq_true (by lia:ds.length<=8),E8];rfl
    rw[e];exact k
  ·have e:oj (.tup ds)=false:=by simp only[oj,decide_eq_false (by lia:¬ ds.length<=8),E6]
   rw[e]at k;exact k
 |scr _=>simp[ai]at hd
 |ref _=>simp[ai]at hd
 |box _ _=>simp[ai]at hd
 |_=>exact⟨false,rfl,by simp only[B0,if_false];exact k⟩
def ir(n:Nat)(xs:List Int):Prop:=xs.length=n/\∀x∈xs,0<=x/\x<1000000
theorem ir.snoc{n:Nat}{xs:List Int}{x:Int}(h:ir n xs)(h0:0<=x)(h1:x<1000000):ir (n+1) (xs++[x]):=by
 refine⟨by rw[C8,h.1];rfl,λy hy=>?_⟩;rcases C0.mp hy with q|q
 ·exact h.2 y q
 ·have:y=x:=by simpa using q
  subst this;exact⟨h0,h1⟩
theorem ir.at{n:Nat}{xs:List Int}(h:ir n xs)(i:Nat)(hi:i<n):∃x:Int,atI (xs.map D.int) (i:Int)=some (.int x)/\0<=x/\x<1000000:=by
 have hi':i<xs.length:=by rw[h.1];exact hi
 exact⟨xs[i],bp (by simp[hi']),h.2 _ (N4 hi')⟩
def iM:SpD:=λds M R=>∃(ns:List Int) (k n:Nat),ds=[.scr (ns.map D.int),.int k,.int n]/\n<=100/\∀xs,ir n xs->R (.lst (xs.map D.int)) M
theorem mH(F:Fun K "_law_numbers" "_law_numbers" eV f fd)(T:Txt mg):aK P w K mg base CX0 1 f fd ["_law_script","_law_k","_law_size"] (spD K 3 iM):=by
 have nd:=g9.nd;refine F.okR rfl g9 (λcdv A outer s H E hr=>⟨_,(ak (aI (i:=3) nd rfl (D8 rfl) ag)
   (ak (aP (aG l8 (aa 1) (aA ba rfl T.b_len (by kernel_rfl) (ae (aa 0) ah)) nbh) (am (aI (i:=3) nd rfl (D8 rfl) (aw av (aa 0) (aa 1) (λ_ _=>rfl)))) aD)
   (ak (aI (i:=4) nd rfl (D8 rfl) ag)
   (ak (aP (dO (e9 (aG l8 (aa 3) ag nbh) (eh (aG zO (aa 3) (au pk ag ag) nbh)))) (am (aI (i:=4) nd rfl (D8 rfl) (aA zB rfl T.b_abs (by kernel_rfl) (ae (aa 3) ah)))) aD)
   (ak (aI (i:=5) nd rfl (D8 rfl) (au aY (au aH (aa 3) (au gB ag (aa 1))) ag))
   (ak (aI (i:=6) nd rfl (D8 rfl) (gm ah))
   (ak (eM F8 rfl (jh rfl T.b_range (ae (aa 2) ah)) (a7 (i:=7) nd rfl (D8 rfl)) (ak (aI (i:=5) nd rfl (D8 rfl) (au aY (au aH (au aH (au gB (aa 5) ag) (au gB ag (au aH (aa 7) ag))) ag) ag))
   (am (aP (aG Aj (aa 4) ag nbh) (ak (fb (iV (aa 6) (au aY (aa 4) (au pk ag ag))))
   (am (aI (i:=4) nd rfl (D8 rfl) (au dh (aa 4) (au pk ag ag))))) (am (fb (iV (aa 6) (au aY (au aY (au aH (au gB (aa 5) ag) (au dh (aa 5) ag)) ag) (au pk ag ag)))))))))
   (am (lX (aa 6)))))))))),λds M R _ hS bk=>?_⟩)
 obtain⟨ns,kk,n,rfl,hn,k⟩:=hS;refine bk ?_;clear bk;refine aR (λΔ' M'=>Δ'=[some (.scr (ns.map D.int)),some (.int kk),some (.int n),some (.int 0),none,none,none,none]/\M=M') (λnx k'=>?_) ?_
 ·walk_at"";exact k' _ _ ⟨rfl,rfl⟩
 rintro _ _ ⟨rfl,rfl⟩;refine aR (λΔ' M'=>(∃c:Int,Δ'=[some (.scr (ns.map D.int)),some (.int kk),some (.int n),some (.int c),none,none,none,none])/\M=M') (λnx k'=>?_) ?_
 ·walk_at"";refine aM (λh=>?_) (λh=>k' _ _ ⟨⟨_,rfl⟩,rfl⟩);have hk:kk<ns.length:=by rw[A5]at h;lia
  exact⟨_,bp (by rw[K6,C4 hk];rfl),k' _ _ ⟨⟨_,rfl⟩,rfl⟩⟩
 rintro _ _ ⟨⟨c,rfl⟩,rfl⟩;refine aR (λΔ' M'=>Δ'=[some (.scr (ns.map D.int)),some (.int kk),some (.int n),some (.int c),some (.int 0),none,none,none]/\M=M') (λnx k'=>?_) ?_
 ·walk_at"";exact k' _ _ ⟨rfl,rfl⟩
 rintro _ _ ⟨rfl,rfl⟩;refine aR (λΔ' M'=>(∃r:Int,0<=r/\Δ'=[some (.scr (ns.map D.int)),some (.int kk),some (.int n),some (.int c),some (.int r),none,none,none])/\M=M') (λnx k'=>?_) ?_
 ·walk_at"";refine aM (λh=>k' _ _ ⟨⟨_,?_,rfl⟩,rfl⟩) (λh=>aM (λh2=>k' _ _ ⟨⟨_,?_,rfl⟩,rfl⟩) (λh2=>k' _ _ ⟨⟨0,by lia,rfl⟩,rfl⟩))
  ·split<;>lia
  ·split<;>lia
 rintro _ _ ⟨⟨r,hr0,rfl⟩,rfl⟩;walk_at"";rw[L9];refine⟨sz3 0,λp hp=>⟨by lia,by lia,?_⟩⟩;refine bf (λi Δ M'=>∃(r w:Int) (acc:List Int) (x7:Option D),Δ=[some (.scr (ns.map D.int)),some (.int kk),some (.int n),some (.int c),some (.int r),some (.int w),some (.ref p),x7]/\M'=bt M p (.lst (acc.map D.int))/\ir i acc/\0<=r/\0<=w/\w<2147483587) ⟨r,_,[],none,rfl,rfl,⟨rfl,λ_ h=>by cases h⟩,hr0,by lia,by lia⟩ ?_ ?_
 ·rintro i d Δ M' X hd ⟨r,w,acc,x7,rfl,rfl,hN,r0,w0,w1⟩ k';obtain⟨hi,rfl⟩:=fD hd;refine⟨_,rfl,?_⟩;walk_at"";have hz:acc.length<A4:=by rw[hN.1];exact B5 (by lia:i<1000) (sz3 1000)
  rw[A5];refine aM (λh=>⟨hz,k' _ _ ⟨_,_,acc++[r % 1000000],_,rfl,by rw[L4];rfl,hN.snoc (by lia) (by lia),by lia,by lia,by lia⟩⟩) (λh=>⟨hz,k' _ _ ⟨_,_,acc++[((w*41201+32452843*(0+(i:Int)+1)+11) % 2147483587*50021+(w*41201+32452843*(0+(i:Int)+1)+11) % 2147483587 / 32768) % 998244353 % 1000000],_,rfl,by rw[L4];rfl,hN.snoc (by lia) (by lia),r0,by lia,by lia⟩⟩)
 ·rintro Δ M' ⟨r,w,acc,x7,rfl,rfl,hN,r0,w0,w1⟩;walk_at"";rw[gY hp];rw[ft]at hN;exact k acc hN
theorem zS{cs:List Nat}(h:cs.length=3):oW (.str (tx cs)) (.int 3)=some (.str (tx (cs++cs++cs))):=by
 have hl:(tx cs).length=3:=by rw[dn,h]
 have e:Txt.mul (tx cs) 3=tx (cs++cs++cs):=by
  unfold Txt.mul;rw[if_neg (by decide),hl,if_neg (by decide)];simp[tx,B3]
 simp only[oW];rw[if_pos (by rw[hl];decide),e]
theorem qK{cs:List Nat}{n:Nat}(h:cs.length=3)(hc:∀c∈cs,lq c)(h1:1<=n)(h8:n<=8):cz (tx ((cs++cs++cs).take n)):=by
 unfold cz;rw[cY,D5,C8,C8,h];refine⟨by lia,by lia,λc hc'=>hc c ?_⟩;have:=L5 hc';simpa using this
def zW(k:Nat):Str:=tx [122,97+k]
theorem yJ{k:Nat}(h:k<26):ixD (.str abc) (.int k)=some (.str (tx [97+k])):=by
 rw[vF,if_pos (by rw[jA,dn];exact sz3 _),jA,cY,bp (v:=97+k) (by unfold fQ;rw[List.getElem?_range' (by lia)];simp)];rfl
theorem uo{k:Nat}(h:k<26):cz (zW k):=by
 unfold cz zW;rw[cY];refine⟨by simp,by simp,λc hc=>?_⟩;unfold lq;simp at hc
 lia
theorem yN{k:Nat}:i7 (.str (D3 "z")) (.str (tx [97+k]))=some (.str (zW k)):=by
 rw[show D3 "z"=tx [122]by decide +kernel,pY,if_pos (by rw[dn,dn];exact sz3 2),sL];rfl
theorem yM{k:Nat}{L:List Str}(h:∀j,j<k->zW j∈L):k<=L.length:=by
 have:=dG ((N8 k).map zW) L ?_ (λx hx=>by
  obtain⟨j,hj,rfl⟩:=R3.mp hx;exact h j (X6.mp hj))
 ·simpa using this
 ·exact List.pairwise_map.mpr (List.Pairwise.imp (λ{a b} hab z=>hab (by
   have:=wa.mp z;simp at this;exact this)) List.nodup_range)
def lG:SpD:=λds M R=>∃xs:List Int,ds=[.lst (xs.map D.int)]/\xs.length<=8/\(∀x∈xs,0<=x)/\∀ws:List Str,ws.length=xs.length->(∀w∈ws,cz w)->R (.lst (ws.map D.str)) M
theorem oO(F:Fun K "_law_names" "_law_names" il f fd)(T:Txt mg):aK P w K mg base CX0 1 f fd ["_law_numbers_here"] (spD K 1 lG):=by
 have nd:=jH.nd;refine F.okR rfl jH (λcdv A outer s H E hr=>⟨_,(ak (aI (i:=1) nd rfl (D8 rfl) b7)
   (ak (aI (i:=2) nd rfl (D8 rfl) (gm ah))
   (ak (eM F8 rfl (cn (aa 0)) (a7 (i:=3) nd rfl (D8 rfl)) (ak (aI (i:=4) nd rfl (D8 rfl) b7)
   (ak (eM F8 rfl (cn (cX (ae ag (ae ag (ae ag ah))))) (a7 (i:=5) nd rfl (D8 rfl)) (am (aI (i:=4) nd rfl (D8 rfl) (au aH (aa 4) (aw av (aa 1) (au aY (au dh (aa 3) (aa 5)) ag) (λ_ _=>rfl))))))
   (ak (aI (i:=4) nd rfl (D8 rfl) (aE (au gB (aa 4) ag) aQ (aF (au aH ag (au aY (aa 3) ag)))))
   (ak (aI (i:=6) nd rfl (D8 rfl) ag)
   (ak (pz F8 (aG gd (aa 4) (aa 2) rfl) (ak (aI (i:=4) nd rfl (D8 rfl) (au aH b7 (aw av (aa 1) (aa 6) (λ_ _=>rfl))))
   (am (aI (i:=6) nd rfl (D8 rfl) (au aH (aa 6) ag)))))
   (am (fb (iV (aa 2) (aa 4))))))))))
   (am (lX (aa 2)))))),λds M R _ hS bk=>?_⟩)
 obtain⟨xs,rfl,hl,hx,k⟩:=hS;refine bk ?_;clear bk;walk_at"";refine⟨sz3 0,λp hp hz=>?_⟩;refine bf (λi Δ M'=>∃(ws:List Str) (x3 x4 x5 x6:Option D),Δ=[some (.lst (xs.map D.int)),some (.str abc),some (.ref p),x3,x4,x5,x6]/\M'=bt M p (.lst (ws.map D.str))/\ws.length=i/\∀w∈ws,cz w) ⟨[],none,none,none,none,rfl,rfl,rfl,λ_ h=>by cases h⟩ ?_ ?_
 ·rintro i d Δ M' X hd ⟨ws,x3,x4,x5,x6,rfl,rfl,hw,hW⟩ k';obtain⟨x,hx',rfl⟩:=gP hd;have hx0:0<=x:=hx x (F5 hx');have hi:i<xs.length:=(A7.mp hx').1;refine⟨_,rfl,?_⟩;walk_at"";refine⟨sz3 3,λ_=>?_⟩;refine bf (λj Δ M'=>∃(cs:List Nat) (y5:Option D),Δ=[some (.lst (xs.map D.int)),some (.str abc),some (.ref p),some (.int x),some (.str (tx cs)),y5,x6]/\M'=bt M p (.lst (ws.map D.str))/\cs.length=j/\∀c∈cs,lq c) ⟨[],x5,by rw[yg],rfl,rfl,λ_ h=>by cases h⟩ ?_ ?_
  ·rintro j d Δ M' X2 hd2 ⟨cs,y5,rfl,rfl,hc,hC⟩ k2;obtain⟨st,rfl,s0,s1⟩:∃st:Int,d=.int st/\0<st/\st<10000:=by
    match j,hd2 with
    |0,h=>cases h;exact⟨8,rfl,by decide,by decide⟩
    |1,h=>cases h;exact⟨208,rfl,by decide,by decide⟩
    |2,h=>cases h;exact⟨5408,rfl,by decide,by decide⟩
    |j+3,h=>cases h
   have hj:j<3:=(A7.mp hd2).1;refine⟨_,rfl,?_⟩;walk_at"";have hd:mU x st:=⟨s0,by lia⟩;simp only[hd];walk_at"";obtain⟨c,hc1,e⟩:=xh (v:=x / st % 26) (by lia) (by lia);refine⟨_,e,?_⟩;walk_at"";refine⟨_,if_pos (by rw[dn,dn,hc];exact sz3 _ (by simp;lia)),k2 _ _ ⟨cs++[c],_,by rw[sL],rfl,by simp[hc],λz hz=>?_⟩⟩;rcases C0.mp hz with h|h
   ·exact hC z h
   ·rw[A8.mp h];exact hc1
  ·rintro Δ M' ⟨cs,y5,rfl,rfl,hc,hC⟩;have hc3:cs.length=3:=hc;walk_at"";simp only[zS hc3];walk_at"";have en:1+x % 8=((1+x % 8).toNat:Int):=by lia
   rw[en,oA];refine⟨_,if_pos (by rw[dn];simp;exact sz3 _ (by lia)),?_⟩;have hw0:=qK (n:=(1+x % 8).toNat) hc3 hC (by lia) (by lia);generalize tx ((cs++cs++cs).take (1+x % 8).toNat)=w0 at hw0;refine⟨λm Δ M'=>∃(q:Nat) (w:Str),Δ=[some (.lst (xs.map D.int)),some (.str abc),some (.ref p),some (.int x),some (.str w),y5,some (.int q)]/\M'=bt M p (.lst (ws.map D.str))/\cz w/\(∀j,j+1<q->zW j∈ws)/\(0<q->w=zW (q-1))/\m=20-q,⟨_,0,w0,rfl,rfl,hw0,λj h=>by lia,λh=>by lia,rfl⟩,?_⟩;rintro m Δ M' ⟨q,w,rfl,rfl,hw1,hz1,hz2,rfl⟩;walk_at"";refine⟨_,if_pos ⟨rfl,bZ⟩,_,rfl,?_⟩;rw[bJ,T3];refine aM (λh=>?_) (λh=>?_)
   ·have hin:w∈ws:=by simpa using h
    have hq:q<=ws.length+1:=by
     have:=yM (k:=q) (L:=ws) (λj hj=>?_)
     ·lia
     ·by_cases e:j+1<q
      ·exact hz1 j e
      ·rw[show j=q-1 by lia,<-hz2 (by lia)];exact hin
    refine⟨_,yJ (k:=q) (by lia),?_⟩;walk_at"";refine⟨_,yN,20-(q+1),by lia,q+1,zW q,?_,uo (by lia),λj hj=>?_,λ_=>rfl,rfl⟩
    ·simp
    ·by_cases e:j+1<q
     ·exact hz1 j e
     ·rw[show j=q-1 by lia,<-hz2 (by lia)];exact hin
   ·refine⟨by rw[A5];exact B5 (by lia:ws.length<1000) (sz3 1000),k' _ _ ⟨ws++[w],_,_,_,_,rfl,by rw[L4];rfl,by simp[hw],λz hz=>?_⟩⟩;rcases C0.mp hz with h|h
    ·exact hW z h
    ·rw[A8.mp h];exact hw1
 ·rintro Δ M' ⟨ws,x3,x4,x5,x6,rfl,rfl,hw,hW⟩;walk_at"";rw[gY hp];rw[A5]at hw;exact k ws hw hW
def fc:SpD:=λds M R=>∃(ord:List (Str×Str)) (a:Str),ds=[.tup (ord.map ax),.str a]/\ord.length<=500 /\
 ∀L:List Str,a∈L->fB ord L->(∀x∈L,bR ord a x)->R (.lst (L.map .str)) M
theorem mL(F:Fun K "_law_reached" "_law_reached" fq f fd)(T:Txt mg):aK P w K mg base CX0 1 f fd ["_law_order_here","_law_one"] (spD K 2 fc):=by
 have nd:=hJ.nd;refine F.okR rfl hJ (λcdv A outer s H E hr=>⟨_,(ak (aI (i:=2) nd rfl (D8 rfl) (gm (ae (aa 1) ah)))
   (ak (eM F8 rfl (jh rfl T.b_range (ae (aA ba rfl T.b_len (by kernel_rfl) (ae (aa 0) ah)) ah)) (a7 (i:=3) nd rfl (D8 rfl)) (am (eM F8 rfl (cn (aa 0)) (lw rfl (bU (a7 (i:=4) nd rfl (D8 rfl)) (bU (a7 (i:=5) nd rfl (D8 rfl)) lD))) (am (aP (dO (bx (aG gd (aa 4) (aa 2) rfl) (bV (aG og (aa 5) (aa 2) rfl)))) (am (fb (iV (aa 2) (aa 5)))) aD)))))
   (am (lX (aa 2))))),λds M R _ hS bk=>?_⟩)
 obtain⟨ord,a,rfl,ho,k⟩:=hS;refine bk ?_;clear bk;walk_at"";rw[A5];refine⟨sz3 1,λq hq=>⟨by lia,by lia,?_⟩⟩;refine bf (λi Δ M'=>∃(x3 x4 x5:Option D) (L:List Str),Δ=[some (D.tup (ord.map ax)),some (D.str a),some (D.ref q),x3,x4,x5]/\M'=bt M q (.lst (L.map .str))/\a∈L/\L.Nodup/\(∀x∈L,bR ord a x)/\(∀x∈L,x∈a::ord.map (·.2))/\(fB ord L∨i<=ic ord L))
  ⟨_,_,_,[a],rfl,rfl,by simp,by simp,λx hx=>by rw[A8.mp hx];exact bR.refl,λx hx=>by rw[A8.mp hx];simp,.inr (R8 _)⟩ ?_ ?_
 ·rintro i d Δ M' X hd ⟨x3,x4,x5,L0,rfl,rfl,ha,hn,hs,hb,hC⟩ k';simp only[dX];walk_at"";intro hz;refine bf (λj Δ M'=>∃(x4 x5:Option D) (L:List Str),Δ=[some (D.tup (ord.map ax)),some (D.str a),some (D.ref q),some d,x4,x5]/\M'=bt M q (.lst (L.map .str))/\(∀x∈L0,x∈L)/\L.Nodup/\(∀x∈L,bR ord a x)/\(∀x∈L,x∈a::ord.map (·.2))/\(∀n y,n<j->ord[n]?=some y->y.1∈L0->y.2∈L)/\(fB ord L0->L=L0))
   ⟨_,_,L0,rfl,rfl,λ_ h=>h,hn,hs,hb,λn y h=>absurd h (by lia),λ_=>rfl⟩ ?_ ?_
  ·rintro j d2 Δ M' X2 hd2 ⟨y4,y5,L,rfl,rfl,hsub,hn2,hs2,hb2,hd',hc⟩ k2;obtain⟨⟨b,c⟩,hbc,rfl⟩:=gP hd2;have hmem:(b,c)∈ord:=F5 hbc;have b6:L.length<=ord.length+1:=by
    have:=dG L (a::ord.map (·.2)) hn2 hb2;simpa using this
   simp only[ax,k6,gj,dX,m6,Option.bind_some];refine⟨_,rfl,?_⟩;walk_at"";refine⟨_,if_pos ⟨rfl,bZ⟩,_,rfl,?_⟩;rw[bJ];simp only[T3]
   by_cases hbL:b∈L
   ·simp only[hbL,decide_true,if_true];refine⟨_,if_pos ⟨rfl,bZ⟩,_,rfl,?_⟩;rw[bJ]
    by_cases hcL:c∈L
    ·simp only[hcL,decide_true,Bool.xor_true,Bool.not_true,B0,if_false];refine k2 _ _ ⟨_,_,L,rfl,rfl,hsub,hn2,hs2,hb2,λn y hnj hy hy0=>?_,hc⟩
     by_cases hnj':n<j
     ·exact hd' n y hnj' hy hy0
     ·have:n=j:=by lia
      subst this;rw[hbc]at hy;cases hy;exact hcL
    ·simp only[hcL,decide_false,Bool.xor_false,if_true];refine⟨by rw[A5];exact B5 (by lia:L.length<1000) (sz3 1000),?_⟩;have ea:L.map D.str++[D.str c]=(L++[c]).map D.str:=by simp
     rw[ea];refine k2 _ _ ⟨_,_,L++[c],rfl,rfl,λx hx=>K2 _ (hsub x hx),?_,λx hx=>?_,λx hx=>?_,λn y hnj hy hy0=>?_,λhcl=>?_⟩
     ·rw[List.nodup_append];refine⟨hn2,by simp,λu hu v hv=>?_⟩;have:v=c:=by simpa using hv
      subst this;rintro rfl;exact hcL hu
     ·rcases C0.mp hx with h|h
      ·exact hs2 x h
      ·have:x=c:=by simpa using h
       subst this;exact bR.step (hs2 b hbL) hmem
     ·rcases C0.mp hx with h|h
      ·exact hb2 x h
      ·have:x=c:=by simpa using h
       subst this;exact C7 _ (R3.mpr ⟨_,hmem,rfl⟩)
     ·by_cases hnj':n<j
      ·exact K2 _ (hd' n y hnj' hy hy0)
      ·have:n=j:=by lia
       subst this;rw[hbc]at hy;cases hy;simp
     ·have e:=hc hcl;rw[e]at hbL hcL;exact absurd (hcl _ hmem hbL) hcL
   ·simp only[hbL,decide_false,B0,if_false];refine k2 _ _ ⟨_,_,L,rfl,rfl,hsub,hn2,hs2,hb2,λn y hnj hy hy0=>?_,hc⟩
    by_cases hnj':n<j
    ·exact hd' n y hnj' hy hy0
    ·have:n=j:=by lia
     subst this;rw[hbc]at hy;cases hy;exact absurd (hsub _ hy0) hbL
  ·rintro Δ M' ⟨y4,y5,L,rfl,rfl,hsub,hn2,hs2,hb2,hd',hc⟩;refine k' _ _ ⟨_,_,_,L,rfl,rfl,hsub a ha,hn2,hs2,hb2,?_⟩
   by_cases hcl:fB ord L0
   ·rw[hc hcl];exact .inl hcl
   ·right;have hk:=hC.resolve_left hcl;have:∃p∈ord,p.1∈L0/\p.2∉L0:=Classical.byContradiction λhn=>hcl λp hp h1=>Classical.byContradiction λh2=>hn ⟨p,hp,h1,h2⟩;obtain⟨p,hp,h1,h2⟩:=this;obtain⟨n,hn',en⟩:=List.mem_iff_getElem.mp hp;have hin:p.2∈L:=hd' n p (by rw[A5];exact hn') (by rw[C4 hn',en]) h1;have:=qg hsub h2 hin hp
    lia
 ·rintro Δ M' ⟨x3,x4,x5,L,rfl,rfl,ha,hn,hs,hb,hC⟩;have hC':fB ord L:=qT (by rw[ft]at hC;rcases hC with h|h;exact .inl h;right;lia);walk_at"";rw[gY hq];exact k L ha hC' hs
theorem mK{l:List Int}{v:Int}(h0:0<=v)(h1:v<(l.length:Int)):∃t∈l,atI (l.map D.int) v=some (.int t):=by
 obtain⟨n,rfl⟩:=L1 h0;have hn:n<l.length:=by lia
 exact⟨l[n],N4 hn,bp (by simp[hn])⟩
def k9:SpD:=λds M R=>∃(xs:List Int) (ws:List Str),ds=[.lst (xs.map D.int),.lst (ws.map D.str)]/\ir 7 xs/\ws≠[]/\ws.length<=8/\∀o:List (Str×Str),o.length<=3->(∀x∈o,x.1∈ws/\x.2∈ws)->R (.tup (o.map ax)) M
theorem oV(F:Fun K "_law_order" "_law_order" ip f fd)(T:Txt mg):aK P w K mg base CX0 1 f fd ["_law_numbers_here","_law_marks"] (spD K 2 k9):=by
 have nd:=jv.nd;refine F.okR rfl jv (λcdv A outer s H E hr=>⟨_,(ak (aI (i:=2) nd rfl (D8 rfl) (gm ah))
   (ak (eM F8 rfl (jh rfl T.b_range (ae (au aY (aw av (aa 0) ag (λ_ _=>rfl)) ag) ah)) (a7 (i:=3) nd rfl (D8 rfl)) (am (fb (iV (aa 2) (aV (ae (aw av (aa 1) (au aY (aw av (aa 0) (au aH ag (au gB ag (aa 3))) (λ_ _=>rfl)) (aA ba rfl T.b_len (by kernel_rfl) (ae (aa 1) ah))) (λ_ _=>rfl)) (ae (aw av (aa 1) (au aY (aw av (aa 0) (au aH ag (au gB ag (aa 3))) (λ_ _=>rfl)) (aA ba rfl T.b_len (by kernel_rfl) (ae (aa 1) ah))) (λ_ _=>rfl)) ah)))))))
   (am (oX (dD jd rfl T.b_tuple (by kernel_rfl) (ae (aa 2) ah)))))),λds M R _ hS bk=>?_⟩)
 obtain⟨xs,ws,rfl,hN,hw,hwl,k⟩:=hS;obtain⟨x0,e0,a0,a1⟩:=hN.at 0 (by lia);refine bk ?_;clear bk;have hwp:=M6.mpr hw;walk_at"";refine⟨sz3 0,λp hp=>⟨_,e0,?_⟩⟩;walk_at"";refine⟨by lia,by lia,?_⟩;refine bf (λi Δ M'=>∃(o:List (Str×Str)) (x3:Option D),Δ=[some (.lst (xs.map D.int)),some (.lst (ws.map D.str)),some (.ref p),x3]/\M'=bt M p (.lst (o.map ax))/\o.length=i/\∀x∈o,x.1∈ws/\x.2∈ws) ⟨[],none,rfl,rfl,rfl,λ_ h=>by cases h⟩ ?_ ?_
 ·rintro i d Δ M' X hd ⟨o,x3,rfl,rfl,ho,hO⟩ k';obtain⟨hi,rfl⟩:=fD hd;refine⟨_,rfl,?_⟩;walk_at"";obtain⟨x1,e1,b0,b1⟩:=hN.at (1+2*i) (by lia);obtain⟨x2,e2,c0,c1⟩:=hN.at (2+2*i) (by lia);rw[show(1:Int)+2*(0+(i:Int))=((1+2*i:Nat):Int)by lia,show(2:Int)+2*(0+(i:Int))=((2+2*i:Nat):Int)by lia];refine⟨_,e1,?_⟩;have hp1:(0:Int)<((ws.map D.str).length:Int):=by rw[A5];lia
  walk_at"";simp only[hp1];walk_at"";rw[A5];obtain⟨m1,hm1,f1⟩:=fE (gb:=ws) (v:=x1 % ws.length) (Q9 _ (by lia)) (N2 _ (by lia));obtain⟨m2,hm2,f2⟩:=fE (gb:=ws) (v:=x2 % ws.length) (Q9 _ (by lia)) (N2 _ (by lia));refine⟨_,f1,_,e2,?_⟩;walk_at"";refine⟨_,if_pos (by lia),_,f2,?_⟩;refine⟨sz3 2,by rw[A5];exact B5 (by lia:o.length<1000) (sz3 1000),k' _ _ ⟨o++[(m1,m2)],_,rfl,by rw[L4];rfl,by simp[ho],λz hz=>?_⟩⟩;rcases C0.mp hz with h|h
  ·exact hO z h
  ·rw[A8.mp h];exact⟨hm1,hm2⟩
 ·rintro Δ M' ⟨o,x3,rfl,rfl,ho,hO⟩;walk_at"";rw[ft]at ho;exact⟨_,je hp,k o (by lia) hO⟩
def n4:SpD:=λds M R=>∃(n:Int) (ws:List Str),ds=[.int n,.lst (ws.map D.str)]/\0<=n/\ws≠[]/\ws.length<=8/\∀s:Str×Int,s.1∈ws->-2<=s.2->s.2<=2->R (ao s) M
theorem qw(F:Fun K "_law_sign" "_law_sign" jn f fd)(T:Txt mg):aK P w K mg base CX0 1 f fd ["_law_number","_law_marks"] (spD K 2 n4):=by
 have nd:=lg.nd;refine F.okR rfl lg (λcdv A outer s H E hr=>⟨_,(am (az (aV (ae (aw av (aa 1) (au aY (aa 0) (aA ba rfl T.b_len (by kernel_rfl) (ae (aa 1) ah))) (λ_ _=>rfl)) (ae (aw av (cX (ae ag (ae ag (ae (nM nu ag) (ae ag (ae ag (ae (nM nu ag) (ae ag (ae (nM nu ag) ah))))))))) (au aY (au dh (aa 0) ag) ag) (λ_ _=>rfl)) ah))))),λds M R _ hS bk=>?_⟩);obtain⟨n,ws,rfl,hn,hw,hwl,k⟩:=hS;refine bk ?_;clear bk;have hwp:=M6.mpr hw;have hp1:(0:Int)<((ws.map D.str).length:Int):=by rw[A5];lia
 walk_at"";simp only[hp1];walk_at"";rw[A5];obtain⟨m1,hm1,f1⟩:=fE (gb:=ws) (v:=n % ws.length) (Q9 _ (by lia)) (N2 _ (by lia));obtain⟨u,hu,f2⟩:=mK (l:=[0,1,-1,0,1,-1,2,-2]) (v:=n / 7 % 8) (by lia) (by simp;lia);refine⟨_,f1,sz3 8,_,f2,sz3 2,k (m1,u) hm1 ?_ ?_⟩
 ·simp at hu;simp only;lia
 ·simp at hu;simp only;lia
def gu:SpD:=λds M R=>∃(ord:List (Str×Str)) (x y:Str×Int),ds=[.tup (ord.map ax),ao x,ao y]/\ord.length<=500/\R (.bl (x.2+1==y.2&&lB ord x.2 x.1 y.1)) M
def ig:SpD:=λds M R=>∃(ord:List (Str×Str)) (x:Str×Int) (m:Str),ds=[.tup (ord.map ax),ao x,.str m]/\ord.length<=500/\R (.bl (lB ord x.2 x.1 m)) M
def lK:SpD:=λds M R=>∃(ord:List (Str×Str)) (x y:Str×Int),ds=[.tup (ord.map ax),ao x,ao y]/\ord.length<=500/\R (.bl (x.2==y.2+1&&lB ord y.2 x.1 y.1)) M
theorem gS{ord:List (Str×Str)}{a b:Str}{L:List Str}(h1:a∈L)(h2:fB ord L)(h3:∀x∈L,bR ord a x):(false ^^ decide (b∈L))=rB ord a b:=by
 rw[T3,Q8,mI,decide_eq_true_eq];exact⟨λh=>h3 b h,λh=>n6 h1 h2 h⟩
theorem o3(F:Fun K "_law_leads" "_law_leads" ix f fd)(T:Txt mg)(G5:FnD P w K mg base "_law_reached" 1 2 fc):aK P w K mg base CX0 2 f fd ["_law_order_here","_law_one","_law_mark"] (spD K 3 ig):=by
 have nd:=jT.nd;refine F.okR rfl jT (λcdv A outer s H E hr=>⟨_,(ak (aP (aG (cC hr.units) (au aY (aw av (aa 1) ag (λ_ _=>rfl)) ag) ag nbh) (am (az (cb gd (aa 2) (qd G5 hr (ae (aa 0) (ae (aw av (aa 1) ag (λ_ _=>rfl)) ah))) rfl))) aD)
   (am (az (cb gd (aw av (aa 1) ag (λ_ _=>rfl)) (qd G5 hr (ae (aa 0) (ae (aa 2) ah))) rfl)))),λds M R _ hS bk=>?_⟩)
 obtain⟨ord,⟨a,t⟩,b,rfl,ho,k⟩:=hS;refine bk ?_;clear bk;simp only[ao];walk_at"";refine aM (λh2=>?_) (λh2=>?_)
 ·simp only[l5 (show t % 2=0 by simpa using h2)]at k;refine⟨ord,a,rfl,ho,λL g1 g2 g3=>?_⟩;walk_at"";refine⟨_,if_pos ⟨rfl,bZ⟩,?_⟩;rw[bJ,gS g1 g2 g3];exact k
 ·simp only[o5 (show ¬ t % 2=0 by simpa using h2)]at k;refine⟨ord,b,rfl,ho,λL g1 g2 g3=>?_⟩;walk_at"";refine⟨_,if_pos ⟨rfl,bZ⟩,?_⟩;rw[bJ,gS g1 g2 g3];exact k
theorem nP(F:Fun K "_law_cancel" "_law_cancel" gz f fd)(T:Txt mg)(G5:FnD P w K mg base "_law_reached" 1 2 fc):aK P w K mg base CX0 2 f fd ["_law_order_here","_law_one","_law_other"] (spD K 3 gu):=by
 have nd:=iS.nd;refine F.okR rfl iS (λcdv A outer s H E hr=>⟨_,(ak (aP (aG (qU hr.units) (aw av (aa 2) ag (λ_ _=>rfl)) (au aH (aw av (aa 1) ag (λ_ _=>rfl)) ag) nbh) (am (az ko)) aD)
   (ak (aP (aG (cC hr.units) (au aY (aw av (aa 1) ag (λ_ _=>rfl)) ag) ag nbh) (am (az (cb gd (aw av (aa 2) ag (λ_ _=>rfl)) (qd G5 hr (ae (aa 0) (ae (aw av (aa 1) ag (λ_ _=>rfl)) ah))) rfl))) aD)
   (am (az (cb gd (aw av (aa 1) ag (λ_ _=>rfl)) (qd G5 hr (ae (aa 0) (ae (aw av (aa 2) ag (λ_ _=>rfl)) ah))) rfl))))),λds M R _ hS bk=>?_⟩)
 obtain⟨ord,⟨a,t⟩,⟨b,u⟩,rfl,ho,k⟩:=hS;refine bk ?_;clear bk;simp only[ao];walk_at"";refine aM (λh=>?_) (λh=>?_)
 ·have h':(t+1==u)=false:=by simp at h ⊢;lia
  simp only[h',E6]at k;exact k
 ·have h':(t+1==u)=true:=by simp at h ⊢;lia
  simp only[h',E8]at k;refine aM (λh2=>?_) (λh2=>?_)
  ·rw[l5 (by simpa using h2)]at k;refine⟨ord,a,rfl,ho,λL g1 g2 g3=>?_⟩;walk_at"";refine⟨_,if_pos ⟨rfl,bZ⟩,?_⟩;rw[bJ,gS g1 g2 g3];exact k
  ·rw[o5 (by simpa using h2)]at k;refine⟨ord,b,rfl,ho,λL g1 g2 g3=>?_⟩;walk_at"";refine⟨_,if_pos ⟨rfl,bZ⟩,?_⟩;rw[bJ,gS g1 g2 g3];exact k
theorem o9(F:Fun K "_law_grows" "_law_grows" iK f fd)(T:Txt mg)(Y8:FnD P w K mg base "_law_leads" 2 3 ig):aK P w K mg base CX0 3 f fd ["_law_order_here","_law_one","_law_other"] (spD K 3 lK):=by
 have nd:=jB.nd;refine F.okR rfl jB (λcdv A outer s H E hr=>⟨_,(am (az (bj (cb (cC hr.units) (aw av (aa 1) ag (λ_ _=>rfl)) (au aH (aw av (aa 2) ag (λ_ _=>rfl)) ag) nbh) (bK (qd Y8 hr (ae (aa 0) (ae (aV (ae (aw av (aa 1) ag (λ_ _=>rfl)) (ae (aw av (aa 2) ag (λ_ _=>rfl)) ah))) (ae (aw av (aa 2) ag (λ_ _=>rfl)) ah)))))))),λds M R _ hS bk=>?_⟩);obtain⟨ord,⟨a,t⟩,⟨b,u⟩,rfl,ho,k⟩:=hS;refine bk ?_;clear bk;simp only[ao];walk_at"";refine aM (λh=>?_) (λh=>?_)
 ·simp only[h,E8]at k;exact⟨sz3 2,ord,(a,u),b,rfl,ho,k⟩
 ·simp only[h,E6]at k;exact k
theorem df{row:List (Str×Int)}{i:Nat}{x:Str×Int}(h:row[i]?=some x):atI (row.map ao) (i:Int)=some (ao x):=bp (by rw[K6,h];rfl)
def plB:D->Int->Bool
 |.int i,n=>decide (0<=i)&&decide (i<n)
 |_,_=>false
theorem bL{d:D}{n:Int}:plB d n=true↔∃i:Nat,d=.int i/\(i:Int)<n:=by
 constructor
 ·intro h;cases d with
  |int i =>
   simp only[plB,B8,decide_eq_true_eq]at h;exact⟨i.toNat,by rw[Int.toNat_of_nonneg h.1],by lia⟩
  |_=>simp[plB]at h
 ·rintro⟨i,rfl,h⟩;simp only[plB,B8,decide_eq_true_eq]
  lia
def cB(o:List (Str×Str))(x y:Str×Int):Bool:=x.2+1==y.2&&lB o x.2 x.1 y.1
def eO(x:Str×Int):Prop:=bo x.1=true/\-99<=x.2/\x.2<=99
theorem jc{r:List D}(h:r.length=2):∃a b,r=[a,b]:=by
 match r,h with
 |[a,b],_=>exact⟨a,b,rfl⟩
theorem qG{r:List D}(h:r.length=3):∃a b c,r=[a,b,c]:=by
 match r,h with
 |[a,b,c],_=>exact⟨a,b,c,rfl⟩
theorem bE{d:D}:eG d=true↔∃x,d=ao x/\eO x:=by
 constructor
 ·intro h;cases d with
  |tup ds =>
   by_cases hl:ds.length=2
   ·obtain⟨a,b,rfl⟩:=jc hl;simp only[eG,B8]at h;obtain⟨h1,h2⟩:=h;cases a with
    |str a =>
     cases b with
     |int t=>simp only[aU,j6,B8,decide_eq_true_eq]at h1 h2;exact⟨(a,t),rfl,h1,h2⟩
     |_=>simp[j6]at h2
    |_=>simp[aU]at h1
   ·rw[iq hl]at h;cases h
  |_=>simp[eG]at h
 ·rintro⟨x,rfl,h1,h2,h3⟩;simp only[ao,eG,aU,j6,h1,h2,h3,decide_true,V8]
abbrev Chg:=Nat×Nat×List (Str×Int)
def cm(o:List (Str×Str))(row:List (Str×Int))(d:D)(c:Chg):Prop :=
 (∃(i:Nat) (x y:Str×Int),d=.tup [.str "cancel",.int i]/\row[i]?=some x/\row[i+1]?=some y/\cB o x y=true/\c=(i,i+2,[])) ∨
 (∃(i:Nat) (m:Str) (x:Str×Int),d=.tup [.str "order",.int i,.str m]/\row[i]?=some x/\bo m=true/\lB o x.2 x.1 m=true/\c=(i,i+1,[(m,x.2)])) ∨
 ∃(i:Nat) (x y:Str×Int),d=.tup [.str "grow",.int i,ao x,ao y]/\i<=row.length/\eO x/\eO y/\x.2=y.2+1/\lB o y.2 x.1 y.1=true/\c=(i,i,[x,y])
theorem cm.one{o:List (Str×Str)}{row:List (Str×Int)}{d:D}{c e:Chg}(h:cm o row d c)(g:cm o row d e):c=e:=by
 rcases h with⟨i,x,y,rfl,h1,h2,h3,rfl⟩|⟨i,m,x,rfl,h1,h2,h3,rfl⟩|⟨i,x,y,rfl,h1,h2,h3,h4,h5,rfl⟩<;>rcases g with⟨j,u,v,e1,g1,g2,g3,rfl⟩|⟨j,m',u,e1,g1,g2,g3,rfl⟩|⟨j,u,v,e1,g1,g2,g3,g4,g5,rfl⟩
 all_goals simp only[D.tup.injEq,F4,D.str.injEq,D.int.injEq,and_true,reduceCtorEq,and_false]at e1
 ·obtain rfl:i=j:=by lia
  rfl
 ·obtain⟨_,e2,rfl⟩:=e1;obtain rfl:i=j:=by lia
  rw[h1]at g1;cases g1;rfl
 ·obtain⟨_,e2,e3,e4⟩:=e1;obtain rfl:i=j:=by lia
  rw[cL _ _ e3,cL _ _ e4]
open Classical in
def stO(o:List (Str×Str))(row:List (Str×Int))(d:D):Option Chg:=if h:∃c,cm o row d c then some h.choose else none
theorem nR{o:List (Str×Str)}{row:List (Str×Int)}{d:D}{c:Chg}(h:cm o row d c):stO o row d=some c:=by
 unfold stO;have g:∃c,cm o row d c:=⟨c,h⟩;rw[dif_pos g,g.choose_spec.one h]
theorem nv{o:List (Str×Str)}{row:List (Str×Int)}{d:D}(h:∀c,¬ cm o row d c):stO o row d=none:=by
 unfold stO;rw[dif_neg λ⟨c,g⟩=>h c g]
theorem mE{o:List (Str×Str)}{row:List (Str×Int)}{d:D}{c:Chg}(h:stO o row d=some c):cm o row d c:=by
 unfold stO at h
 split at h
 ·rename_i g;cases h;exact g.choose_spec
 ·cases h
def chD:Option Chg->D
 |none=>.non
 |some (b,e,p)=>.tup [.int b,.int e,.lst (p.map ao)]
def cH:SpD:=λds M R=>∃(d:D) (m:Int),ds=[d,.int m]/\ai d=true/\R (.bl (plB d (m+1))) M
theorem kH(F:Fun K "is_place" "is_place" ef f fd)(T:Txt mg)(G9:FnD P w K mg base "is_whole" 1 1 eB):aK P w K mg base CX0 2 f fd ["thing","most"] (spD K 2 cH):=by
 have nd:=fU.nd;refine F.okR rfl fU (λcdv A outer s H E hr=>⟨_,(am (az (bj (qd G9 hr (ae (aa 0) ah)) (bK (hU kf kf ag (aa 0) (aa 1)))))),λds M R _ hS bk=>?_⟩);obtain⟨d,m,rfl,hd,k⟩:=hS;refine bk ?_;clear bk;walk_at"";refine bq.mpr ⟨hd,?_⟩;walk_at"";simp only[aZ hd];cases d with
 |int t =>
  simp only[j0,if_true];walk_at"";simp only[plB]at k;refine aM (λh=>?_) (λh=>?_)
  ·rw[decide_eq_true h,E8]at k;rw[show decide (t<=m)=decide (t<m+1)from decide_eq_decide.mpr (by lia)];exact k
  ·rw[decide_eq_false h,E6]at k;exact k
 |scr _=>simp[ai]at hd
 |ref _=>simp[ai]at hd
 |box _ _=>simp[ai]at hd
 |_=>simp only[j0,B0,if_false];exact k
def txB:D->Str->Bool
 |.str s,nm=>s==nm
 |_,_=>false
def gh:SpD:=λds M R=>∃(d:D) (nm:Str),ds=[d,.str nm]/\ai d=true/\R (.bl (txB d nm)) M
theorem jG(F:Fun K "are_alike" "are_alike" dm f fd)(T:Txt mg):aK P w K mg base CX0 1 f fd ["one","other"] (spD K 2 gh):=by
 have nd:=fk.nd;refine F.okR rfl fk (λcdv A outer s H E hr=>⟨_,(ak (aP (dO (e9 (aJ (bC (Tn:="str") (by decide) rfl T.b_isinstance rfl T.b_str (by kernel_rfl) (aa 0))) (eh (aJ (bC (Tn:="str") (by decide) rfl T.b_isinstance rfl T.b_str (by kernel_rfl) (aa 1)))))) (am (az (bj (bC (Tn:="str") (by decide) rfl T.b_isinstance rfl T.b_str (by kernel_rfl) (aa 0)) (bj (bC (Tn:="str") (by decide) rfl T.b_isinstance rfl T.b_str (by kernel_rfl) (aa 1)) (bK (cb (cC hr.units) (aa 0) (aa 1) nbh)))))) aD)
   (am (az (cb gd (aa 0) (aV (ae (aa 1) ah)) rfl)))),λds M R _ hS bk=>?_⟩)
 obtain⟨d,nm,rfl,hd,k⟩:=hS;refine bk ?_;clear bk;walk_at"";simp only[aZ hd];cases d with
 |str x =>
  refine⟨true,rfl,⟨true,rfl,⟨true,rfl,?_⟩⟩⟩;walk_at"";exact k
 |scr _=>simp[ai]at hd
 |ref _=>simp[ai]at hd
 |box _ _=>simp[ai]at hd
 |_=>exact⟨false,rfl,⟨true,rfl,⟨false,rfl,k⟩⟩⟩
def kl(d:D)(nm:Str)(n:Int):Bool:=match d with
 |.tup (x::r)=>((r.length+1:Nat):Int)==n&&txB x nm
 |_=>false
def cG:SpD:=λds M R=>∃(d:D) (nm:Str) (n:Int),ds=[d,.str nm,.int n]/\ai d=true/\0<n/\R (.bl (kl d nm n)) M
theorem fw(F:Fun K "is_tuple_called" "is_tuple_called" bG f fd)(T:Txt mg)(G0:FnD P w K mg base "is_tuple_of" 1 2 bc)(ga4:FnD P w K mg base "are_alike" 1 2 gh):aK P w K mg base CX0 2 f fd ["thing","name","many"] (spD K 3 cG):=by
 have nd:=cv.nd;refine F.okR rfl cv (λcdv A outer s H E hr=>⟨_,(am (az (bj (qd G0 hr (ae (aa 0) (ae (aa 2) ah))) (bK (qd ga4 hr (ae (aw av (aa 0) ag (λ_ _=>rfl)) (ae (aa 1) ah))))))),λds M R _ hS bk=>?_⟩);obtain⟨d,nm,n,rfl,hd,hn,k⟩:=hS;refine bk ?_;clear bk;walk_at"";refine bA.mpr ⟨hd,?_⟩;walk_at"";cases d with
 |tup ds =>
  cases ds with
  |nil=>rw[if_neg (by simp[e8];lia)];exact k
  |cons x r =>
   have e:e8 (D.tup (x::r)) n=(((r.length+1:Nat):Int)==n):=by simp[e8]
   have hx:ai x=true:=by simp only[ai,aS,B8]at hd;exact hd.1
   simp only[kl]at k;rw[e];refine aM (λh=>?_) (λh=>?_)
   ·rw[h,E8]at k;walk_at"";exact⟨x,nm,rfl,hx,k⟩
   ·rw[show(((r.length+1:Nat):Int)==n)=false by simpa using h,E6]at k;exact k
 |scr _=>simp[ai]at hd
 |ref _=>simp[ai]at hd
 |box _ _=>simp[ai]at hd
 |_=>rw[if_neg (by simp[e8])];exact k
theorem ju{d:D}{nm:Str}{n:Int}:kl d nm n=true↔∃r,d=.tup (.str nm::r)/\((r.length+1:Nat):Int)=n:=by
 constructor
 ·intro h;cases d with
  |tup ds =>
   cases ds with
   |nil=>simp[kl]at h
   |cons x r =>
    simp only[kl,B8,beq_iff_eq]at h;cases x with
    |str s=>simp only[txB,beq_iff_eq]at h;exact⟨r,by rw[h.2],h.1⟩
    |_=>simp[txB]at h
  |_=>simp[kl]at h
 ·rintro⟨r,rfl,h⟩;simp only[kl,txB,beq_self_eq_true,aa6,beq_iff_eq];exact h
theorem sT{d:D}{nm:Str}:kl d nm 2=true↔∃a,d=.tup [.str nm,a]:=by
 rw[ju];constructor
 ·rintro⟨r,rfl,h⟩;obtain⟨a,rfl⟩:=List.length_eq_one_iff.mp (show r.length=1 by lia);exact⟨a,rfl⟩
 ·rintro⟨a,rfl⟩;exact⟨_,rfl,rfl⟩
theorem rN{d:D}{nm:Str}:kl d nm 3=true↔∃a b,d=.tup [.str nm,a,b]:=by
 rw[ju];constructor
 ·rintro⟨r,rfl,h⟩;obtain⟨a,b,rfl⟩:=jc (show r.length=2 by lia);exact⟨a,b,rfl⟩
 ·rintro⟨a,b,rfl⟩;exact⟨_,rfl,rfl⟩
theorem sI{d:D}{nm:Str}:kl d nm 4=true↔∃a b c,d=.tup [.str nm,a,b,c]:=by
 rw[ju];constructor
 ·rintro⟨r,rfl,h⟩;obtain⟨a,b,c,rfl⟩:=qG (show r.length=3 by lia);exact⟨a,b,c,rfl⟩
 ·rintro⟨a,b,c,rfl⟩;exact⟨_,rfl,rfl⟩
def lS:SpD:=λds M R=>∃(ord:List (Str×Str)) (x y:Str×Int),ds=[.tup (ord.map ax),ao x,ao y]/\ord.length<=500/\R (.bl (x.2==y.2&&lB ord x.2 x.1 y.1)) M
def gI:SpD:=λds M R=>∃(ord:List (Str×Str)) (x y:Str×Int),ds=[.tup (ord.map ax),ao x,ao y]/\ord.length<=500/\R (.bl (x.2==y.2+1&&lB ord y.2 x.1 y.1)) M
theorem oK(F:Fun K "leads" "leads" iu f fd)(T:Txt mg)(G1:FnD P w K mg base "mark_leads" 3 4 bD):aK P w K mg base CX0 4 f fd ["order","one","other"] (spD K 3 lS):=by
 have nd:=jm.nd;refine F.okR rfl jm (λcdv A outer s H E hr=>⟨_,(am (az (bj (cb (cC hr.units) (aw av (aa 1) ag (λ_ _=>rfl)) (aw av (aa 2) ag (λ_ _=>rfl)) nbh) (bK (qd G1 hr (ae (aa 0) (ae (aw av (aa 1) ag (λ_ _=>rfl)) (ae (aw av (aa 1) ag (λ_ _=>rfl)) (ae (aw av (aa 2) ag (λ_ _=>rfl)) ah))))))))),λds M R _ hS bk=>?_⟩);obtain⟨ord,⟨a,t⟩,⟨b,u⟩,rfl,ho,k⟩:=hS;refine bk ?_;clear bk;simp only[ao];walk_at"";simp only[cg];refine aM (λh=>?_) (λh=>?_)
 ·simp only[h,E8]at k;exact⟨ho,k⟩
 ·simp only[h,E6]at k;exact k
theorem kj(F:Fun K "may_grow" "may_grow" eD f fd)(T:Txt mg)(G1:FnD P w K mg base "mark_leads" 3 4 bD):aK P w K mg base CX0 4 f fd ["order","one","other"] (spD K 3 gI):=by
 have nd:=gg.nd;refine F.okR rfl gg (λcdv A outer s H E hr=>⟨_,(am (az (bj (cb (cC hr.units) (aw av (aa 1) ag (λ_ _=>rfl)) (au aH (aw av (aa 2) ag (λ_ _=>rfl)) ag) nbh) (bK (qd G1 hr (ae (aa 0) (ae (aw av (aa 2) ag (λ_ _=>rfl)) (ae (aw av (aa 1) ag (λ_ _=>rfl)) (ae (aw av (aa 2) ag (λ_ _=>rfl)) ah))))))))),λds M R _ hS bk=>?_⟩);obtain⟨ord,⟨a,t⟩,⟨b,u⟩,rfl,ho,k⟩:=hS;refine bk ?_;clear bk;simp only[ao];walk_at"";simp only[cg];refine aM (λh=>?_) (λh=>?_)
 ·simp only[h,E8]at k;exact⟨ho,k⟩
 ·simp only[h,E6]at k;exact k
def fV:SpD:=λds M R=>∃(q:A9) (o:List (Str×Str)) (row:List (Str×Int)) (d:D),ds=[.tup (o.map ax),.ref q,d]/\M q=some (.lst (row.map ao))/\ai d=true/\o.length<=500/\row.length<=500/\R (chD (stO o row (.tup [.str "cancel",d]))) M
theorem iw{o:List (Str×Str)}{row:List (Str×Int)}{d:D}{c:Chg}:cm o row (.tup [.str "cancel",d]) c↔∃(i:Nat) (x y:Str×Int),d=.int i/\row[i]?=some x/\row[i+1]?=some y/\cB o x y=true/\c=(i,i+2,[]):=by
 constructor
 ·rintro(⟨i,x,y,e,h⟩|⟨i,m,x,e,h⟩|⟨i,x,y,e,h⟩)
  all_goals simp only[D.tup.injEq,F4,true_and,and_true,reduceCtorEq,and_false]at e
  exact⟨i,x,y,e,h⟩
 ·rintro⟨i,x,y,rfl,h⟩;exact .inl ⟨i,x,y,rfl,h⟩
theorem fu{o:List (Str×Str)}{row:List (Str×Int)}{d e:D}{c:Chg}:cm o row (.tup [.str "order",d,e]) c↔∃(i:Nat) (m:Str) (x:Str×Int),(d=.int i/\e=.str m)/\row[i]?=some x/\bo m=true/\lB o x.2 x.1 m=true/\c=(i,i+1,[(m,x.2)]):=by
 constructor
 ·rintro(⟨i,x,y,e,h⟩|⟨i,m,x,e,h⟩|⟨i,x,y,e,h⟩)
  all_goals simp only[D.tup.injEq,F4,true_and,and_true,reduceCtorEq,and_false]at e
  exact⟨i,m,x,e,h⟩
 ·rintro⟨i,m,x,⟨rfl,rfl⟩,h⟩;exact .inr (.inl ⟨i,m,x,rfl,h⟩)
theorem dg{o:List (Str×Str)}{row:List (Str×Int)}{d e f:D}{c:Chg}:cm o row (.tup [.str "grow",d,e,f]) c↔∃(i:Nat) (x y:Str×Int),(d=.int i/\e=ao x/\f=ao y)/\i<=row.length/\eO x/\eO y/\x.2=y.2+1/\lB o y.2 x.1 y.1=true/\c=(i,i,[x,y]):=by
 constructor
 ·rintro(⟨i,x,y,e,h⟩|⟨i,m,x,e,h⟩|⟨i,x,y,e,h⟩)
  all_goals simp only[D.tup.injEq,F4,true_and,and_true,reduceCtorEq,and_false]at e
  exact⟨i,x,y,e,h⟩
 ·rintro⟨i,x,y,⟨rfl,rfl,rfl⟩,h⟩;exact .inr (.inr ⟨i,x,y,rfl,h⟩)
theorem di{o:List (Str×Str)}{row:List (Str×Int)}{d:D}{R:D->DH->Prop}{M:DH}(k:R (chD (stO o row d)) M)(h:∀c,¬ cm o row d c):R .non M:=by rw[nv h]at k;exact k
theorem mr{o:List (Str×Str)}{row:List (Str×Int)}{d:D}{R:D->DH->Prop}{M:DH}{b e:Nat}{p:List (Str×Int)}(k:R (chD (stO o row d)) M)(h:cm o row d (b,e,p)):R (.tup [.int b,.int e,.lst (p.map ao)]) M:=by rw[nR h]at k;exact k
theorem jU(F:Fun K "by_cancel" "by_cancel" dj f fd)(T:Txt mg)(G3:FnD P w K mg base "is_place" 2 2 cH)(gb5:FnD P w K mg base "cancel" 4 3 jl):aK P w K mg base CX0 5 f fd ["order","signs","place"] (spD K 3 fV):=by
 have nd:=eY.nd;refine F.okR rfl eY (λcdv A outer s H E hr=>⟨_,(ak (aP (dO (bx (aJ (qd G3 hr (ae (aa 2) (ae (au lu (aA ba rfl T.b_len (by kernel_rfl) (ae (aa 1) ah)) ag) ah)))) (bV (aJ (qd gb5 hr (ae (aa 0) (ae (aw av (aa 1) (aa 2) (λ_ _=>rfl)) (ae (aw av (aa 1) (au aH (aa 2) ag) (λ_ _=>rfl)) ah)))))))) (am (az (aV (ae (aa 2) (ae (au aH (aa 2) ag) (ae (cX ah) ah)))))) aD)
   (am (az c7))),λds M R _ hS bk=>?_⟩)
 obtain⟨q,o,row,d,rfl,hM,hd,ho,hl,k⟩:=hS;refine bk ?_;clear bk;have hrd:=jj hM;walk_at"";simp only[hrd];walk_at"";rw[A5];refine⟨d,_,rfl,hd,?_⟩;walk_at"";rw[show(row.length:Int)-2+1=row.length-1 by lia];refine aM (λh=>?_) (λh=>di k λc hc=>h ?_)
 ·obtain⟨i,rfl,hi⟩:=bL.mp h;obtain⟨x,hx⟩:∃x,row[i]?=some x:=⟨_,C4 (by lia)⟩;obtain⟨y,hy⟩:∃y,row[i+1]?=some y:=⟨_,C4 (by lia)⟩;have hy':atI (row.map ao) ((i:Int)+1)=some (ao y):=df (i:=i+1) hy;simp only[hrd];walk_at"";refine⟨_,df hx,_,hy',o,x,y,rfl,ho,?_⟩;walk_at"";refine aM (λh2=>⟨sz3 0,sz3 3,mr k (iw.mpr ⟨i,x,y,rfl,hx,hy,h2,rfl⟩)⟩) (λh2=>di k λc hc=>h2 ?_);obtain⟨j,u,v,e1,g1,g2,g3,_⟩:=iw.mp hc;obtain rfl:i=j:=by have:=D.int.inj e1;lia
  rw[hx]at g1;cases g1;rw[hy]at g2;cases g2;exact g3
 ·obtain⟨i,x,y,rfl,h1,h2,_⟩:=iw.mp hc;have:=(A7.mp h2).1;exact bL.mpr ⟨i,rfl,by lia⟩
def gL:SpD:=λds M R=>∃(q:A9) (o:List (Str×Str)) (row:List (Str×Int)) (d e:D),ds=[.tup (o.map ax),.ref q,d,e]/\M q=some (.lst (row.map ao))/\ai d=true/\ai e=true/\o.length<=500/\row.length<=500/\R (chD (stO o row (.tup [.str "order",d,e]))) M
theorem eC{d:D}:aU d=true↔∃m,d=.str m/\bo m=true:=by
 cases d with
 |str m=>exact⟨λh=>⟨m,rfl,h⟩,λ⟨n,e,h⟩=>by cases e;exact h⟩
 |_=>simp[aU]
theorem kE(F:Fun K "by_order" "by_order" dY f fd)(T:Txt mg)(Y3:FnD P w K mg base "leads" 4 3 lS)(G3:FnD P w K mg base "is_place" 2 2 cH)(G2:FnD P w K mg base "is_mark" 2 1 cu):aK P w K mg base CX0 5 f fd ["order","signs","place","mark"] (spD K 4 gL):=by
 have nd:=fZ.nd;refine F.okR rfl fZ (λcdv A outer s H E hr=>⟨_,(ak (aP (dO (e9 (bY (aJ (qd G3 hr (ae (aa 2) (ae (au lu (aA ba rfl T.b_len (by kernel_rfl) (ae (aa 1) ah)) ag) ah))))) (eh (bY (aJ (qd G2 hr (ae (aa 3) ah))))))) (am (az c7)) aD)
   (ak (aI (i:=4) nd rfl (D8 rfl) (aV (ae (aa 3) (ae (aw av (aw av (aa 1) (aa 2) (λ_ _=>rfl)) ag (λ_ _=>rfl)) ah))))
   (am (az (zV (aJ (qd Y3 hr (ae (aa 0) (ae (aw av (aa 1) (aa 2) (λ_ _=>rfl)) (ae (aa 4) ah))))) (aV (ae (aa 2) (ae (au aH (aa 2) ag) (ae (cX (ae (aa 4) ah)) ah)))) c7))))),λds M R _ hS bk=>?_⟩)
 obtain⟨q,o,row,d,e,rfl,hM,hd,he,ho,hl,k⟩:=hS;refine bk ?_;clear bk;have hrd:=jj hM;walk_at"";simp only[hrd];walk_at"";rw[A5];refine⟨d,_,rfl,hd,?_⟩;walk_at"";rw[show(row.length:Int)-1+1=row.length by lia]
 by_cases h:plB d row.length=true
 ·obtain⟨i,rfl,hi⟩:=bL.mp h;obtain⟨x,hx⟩:∃x,row[i]?=some x:=⟨_,C4 (by lia)⟩;rw[if_neg (by rw[h];decide)];refine⟨e,rfl,he,_,rfl,?_⟩;refine aM (λh2=>di k λc hc=>?_) (λh2=>?_)
  ·obtain⟨j,m,u,⟨e1,rfl⟩,g1,g2,g3,_⟩:=fu.mp hc;rw[eC.mpr ⟨m,rfl,g2⟩]at h2;cases h2
  ·obtain⟨m,rfl,hm⟩:=eC.mp (show aU e=true by simpa using h2);rw[hrd];refine⟨_,df hx,.int x.2,rfl,sz3 2,?_⟩;refine⟨_,df hx,o,x,(m,x.2),rfl,ho,?_⟩;simp only[beq_self_eq_true,E8];refine⟨_,rfl,?_⟩;refine aM (λh3=>⟨_,rfl,sz3 1,sz3 3,mr k (fu.mpr ⟨i,m,x,⟨rfl,rfl⟩,hx,hm,h3,rfl⟩)⟩) (λh3=>di k λc hc=>h3 ?_);obtain⟨j,m',u,⟨e1,e2⟩,g1,g2,g3,_⟩:=fu.mp hc;cases e2;obtain rfl:i=j:=by have:=D.int.inj e1;lia
   rw[hx]at g1;cases g1;exact g3
 ·rw[if_pos (by simpa using h)];refine di k λc hc=>h ?_;obtain⟨i,m,x,⟨rfl,rfl⟩,h1,_⟩:=fu.mp hc;have:=(A7.mp h1).1;exact bL.mpr ⟨i,rfl,by lia⟩
def iP:SpD:=λds M R=>∃(q:A9) (o:List (Str×Str)) (row:List (Str×Int)) (d e f:D),ds=[.tup (o.map ax),.ref q,d,e,f]/\M q=some (.lst (row.map ao))/\ai d=true/\ai e=true/\ai f=true/\o.length<=500/\row.length<=500/\R (chD (stO o row (.tup [.str "grow",d,e,f]))) M
theorem mW(F:Fun K "by_grow" "by_grow" fj f fd)(T:Txt mg)(G3:FnD P w K mg base "is_place" 2 2 cH)(G8:FnD P w K mg base "is_sign" 3 1 eQ)(ga8:FnD P w K mg base "may_grow" 4 3 gI):aK P w K mg base CX0 5 f fd ["order","signs","place","one","other"] (spD K 5 iP):=by
 have nd:=gQ.nd;refine F.okR rfl gQ (λcdv A outer s H E hr=>⟨_,(ak (aP (dO (bx (aJ (qd G3 hr (ae (aa 2) (ae (aA ba rfl T.b_len (by kernel_rfl) (ae (aa 1) ah)) ah)))) (bx (aJ (qd G8 hr (ae (aa 3) ah))) (bx (aJ (qd G8 hr (ae (aa 4) ah))) (bV (aJ (qd ga8 hr (ae (aa 0) (ae (aa 3) (ae (aa 4) ah)))))))))) (am (az (aV (ae (aa 2) (ae (aa 2) (ae (cX (ae (aa 3) (ae (aa 4) ah))) ah)))))) aD)
   (am (az c7))),λds M R _ hS bk=>?_⟩)
 obtain⟨q,o,row,d,e,f,rfl,hM,hd,he,hf,ho,hl,k⟩:=hS;refine bk ?_;clear bk;have hrd:=jj hM;walk_at"";simp only[hrd];walk_at"";rw[A5];refine⟨d,_,rfl,hd,?_⟩;walk_at"";refine aM (λh=>?_) (λh=>di k λc hc=>h ?_)
 ·obtain⟨i,rfl,hi⟩:=bL.mp h;refine bq.mpr ⟨he,_,rfl,?_⟩;refine aM (λh2=>?_) (λh2=>di k λc hc=>?_)
  ·obtain⟨x,rfl,hx⟩:=bE.mp h2;refine bq.mpr ⟨hf,_,rfl,?_⟩;refine aM (λh3=>?_) (λh3=>di k λc hc=>?_)
   ·obtain⟨y,rfl,hy⟩:=bE.mp h3;refine⟨o,x,y,rfl,ho,_,rfl,?_⟩;refine aM (λh4=>⟨sz3 2,sz3 3,?_⟩) (λh4=>di k λc hc=>h4 ?_)
    ·rw[B8,beq_iff_eq]at h4;exact mr k (dg.mpr ⟨i,x,y,⟨rfl,rfl,rfl⟩,by lia,hx,hy,h4.1,h4.2,rfl⟩)
    ·obtain⟨j,u,v,⟨e1,e2,e3⟩,g1,g2,g3,g4,g5,_⟩:=dg.mp hc;rw[cL _ _ e2,cL _ _ e3,g5,g4];simp
   ·obtain⟨j,u,v,⟨e1,e2,rfl⟩,g1,g2,g3,_⟩:=dg.mp hc;rw[bE.mpr ⟨v,rfl,g3⟩]at h3;exact h3 rfl
  ·obtain⟨j,u,v,⟨e1,rfl,e3⟩,g1,g2,g3,_⟩:=dg.mp hc;rw[bE.mpr ⟨u,rfl,g2⟩]at h2;exact h2 rfl
 ·obtain⟨i,x,y,⟨rfl,_⟩,h1,_⟩:=dg.mp hc;exact bL.mpr ⟨i,rfl,by lia⟩
def iN:SpD:=λds M R=>∃(q:A9) (o:List (Str×Str)) (row:List (Str×Int)) (d:D),ds=[.tup (o.map ax),.ref q,d]/\M q=some (.lst (row.map ao))/\ai d=true/\o.length<=500/\row.length<=500/\R (chD (stO o row d)) M
theorem mJ(F:Fun K "by_step" "by_step" eX f fd)(T:Txt mg)(G4:FnD P w K mg base "is_tuple_called" 2 3 cG)(ga5:FnD P w K mg base "by_cancel" 5 3 fV)(ga7:FnD P w K mg base "by_order" 5 4 gL)(gb3:FnD P w K mg base "by_grow" 5 5 iP):aK P w K mg base CX0 6 f fd ["order","signs","step"] (spD K 3 iN):=by
 have nd:=gV.nd;refine F.okR rfl gV (λcdv A outer s H E hr=>⟨_,(ak (aP (aJ (qd G4 hr (ae (aa 2) (ae b7 (ae ag ah))))) (lr (am (az (qd ga5 hr (ae (aa 0) (ae (aa 1) (ae (aw av (aa 2) ag (λ_ _=>rfl)) ah))))))) aD)
   (lr (ak (aP (aJ (qd G4 hr (ae (aa 2) (ae b7 (ae ag ah))))) (lr (am (az (qd ga7 hr (ae (aa 0) (ae (aa 1) (ae (aw av (aa 2) ag (λ_ _=>rfl)) (ae (aw av (aa 2) ag (λ_ _=>rfl)) ah)))))))) aD)
   (lr (ak (aP (aJ (qd G4 hr (ae (aa 2) (ae b7 (ae ag ah))))) (lr (am (az (qd gb3 hr (ae (aa 0) (ae (aa 1) (ae (aw av (aa 2) ag (λ_ _=>rfl)) (ae (aw av (aa 2) ag (λ_ _=>rfl)) (ae (aw av (aa 2) ag (λ_ _=>rfl)) ah))))))))) aD)
   (lr (am (az c7)))))))),λds M R _ hS bk=>?_⟩)
 obtain⟨q,o,row,d,rfl,hM,hd,ho,hl,k⟩:=hS;refine bk ?_;clear bk;walk_at"";refine⟨d,_,_,rfl,hd,by decide,?_⟩;walk_at"";refine aM (λh=>fN ?_) (λh=>fN ?_)
 ·obtain⟨a,rfl⟩:=sT.mp h;have ha:=(show(D3 "cancel").length<=1000000/\ai a=true by simpa[ai,aS]using hd).2;walk_at"";exact⟨q,o,row,a,rfl,hM,ha,ho,hl,k⟩
 walk_at"";refine⟨d,_,_,rfl,hd,by decide,?_⟩;walk_at"";refine aM (λh2=>fN ?_) (λh2=>fN ?_)
 ·obtain⟨a,b,rfl⟩:=rN.mp h2;have ha:=(show(D3 "order").length<=1000000/\ai a=true/\ai b=true by simpa[ai,aS]using hd).2;walk_at"";exact⟨q,o,row,a,b,rfl,hM,ha.1,ha.2,ho,hl,k⟩
 walk_at"";refine⟨d,_,_,rfl,hd,by decide,?_⟩;walk_at"";refine aM (λh3=>fN ?_) (λh3=>fN ?_)
 ·obtain⟨a,b,c,rfl⟩:=sI.mp h3;have ha:=(show(D3 "grow").length<=1000000/\ai a=true/\ai b=true/\ai c=true by simpa[ai,aS]using hd).2;walk_at"";refine⟨_,rfl,q,o,row,a,b,c,rfl,hM,ha.1,ha.2.1,ha.2.2,ho,hl,k⟩
 walk_at"";refine di k λc hc=>?_;rcases hc with⟨i,x,y,rfl,_⟩|⟨i,m,x,rfl,_⟩|⟨i,x,y,rfl,_⟩
 ·exact h (sT.mpr ⟨_,rfl⟩)
 ·exact h2 (rN.mpr ⟨_,_,rfl⟩)
 ·exact h3 (sI.mpr ⟨_,_,_,rfl⟩)
def apC(row:List (Str×Int))(c:Chg):List (Str×Int):=row.take c.1++c.2.2++row.drop c.2.1
theorem cm.len{o:List (Str×Str)}{row:List (Str×Int)}{d:D}{c:Chg}(h:cm o row d c):c.1<=c.2.1/\c.2.1<=row.length/\c.2.2.length<=2:=by
 rcases h with⟨i,x,y,_,_,h,_,rfl⟩|⟨i,m,x,_,h,_,_,rfl⟩|⟨i,x,y,_,h,_,_,_,_,rfl⟩
 ·have:=(A7.mp h).1;exact⟨by simp,by simp;lia,by simp⟩
 ·have:=(A7.mp h).1;exact⟨by simp,by simp;lia,by simp⟩
 ·exact⟨by simp,by simp;lia,by simp⟩
theorem cm.ap{o:List (Str×Str)}{row:List (Str×Int)}{d:D}{c:Chg}(h:cm o row d c):(apC row c).length<=row.length+2:=by
 obtain⟨h1,h2,h3⟩:=h.len;unfold apC;rw[C8,C8,D5,F6]
 lia
def goF(o:List (Str×Str)):List (Str×Int)->List D->Option (List (Str×Int))
 |row,[]=>some row
 |row,d::ds=>match stO o row d with
  |none=>none
  |some c=>goF o (apC row c) ds
theorem nI{o:List (Str×Str)}{row:List (Str×Int)}{d:D}{ds:List D}(h:stO o row d=none):goF o row (d::ds)=none:=by
 unfold goF;rw[h]
theorem oa{o:List (Str×Str)}{row:List (Str×Int)}{d:D}{ds:List D}{c:Chg}(h:stO o row d=some c):goF o row (d::ds)=goF o (apC row c) ds:=by
 conv=>lhs;unfold goF
 rw[h]
def goD:Option (List (Str×Int))->D
 |none=>xD
 |some r=>.tup (r.map ao)
theorem lM{ds:List D}{i:Nat}{d:D}(h:ds[i]?=some d):ds.drop i=d::ds.drop (i+1):=by
 obtain⟨hi,e⟩:=A7.mp h;rw[P7 hi,e]
theorem xE{ds:List D}{i:Nat}{d:D}(h:(j7 0 ds)[i]?=some d):∃e,ds[i]?=some e/\d=.tup [.int (i:Int),e]:=by
 rw[jX]at h;cases q:ds[i]? with
 |none=>rw[q]at h;cases h
 |some st =>
  rw[q]at h;refine⟨st,rfl,?_⟩;have h':D.tup [.int ((0+i:Nat):Int),st]=d:=by simpa using h
  rw[<-h',Nat.zero_add]
def n8:SpD:=λds M R=>∃(o:List (Str×Str)) (row:List (Str×Int)) (es:List D),ds=[.tup (o.map ax),.tup (row.map ao),.tup es]/\(∀d∈es,ai d=true)/\o.length<=500/\row.length+2*es.length<=400/\R (goD (goF o row es)) M
theorem qp(F:Fun K "gone" "gone" jR f fd)(T:Txt mg){C W fI:A9}(Y:i3 K mg "NoStep" "WishError" "number" C W fI){fdI:B2}(FI:aK P w K mg base CX0 1 fI fdI ["self","number"] (spI C))(hbI:bS K fdI ["self","number"] [])(hfI:∃oI,K.lookup fI=some oI/\oI.cls=E5 "function")(gb0:FnD P w K mg base "by_step" 6 3 iN):aK P w K mg base (CX1 P w C) 7 f fd ["order","row","walk"] (spX K 3 n8 C):=by
 have nd:=lx.nd;refine F.okX rfl lx (λcdv A outer s H E hr=>⟨_,(gJ (rX (aI (i:=3) nd rfl (D8 rfl) (uI rfl T.b_list (by kernel_rfl) (ae (aa 1) ah))))
   (gJ (yr K8.leaving rfl (ux rfl T.b_enumerate (ae (aa 2) ah)) (lw rfl (bU (a7 (i:=4) nd rfl (D8 rfl)) (bU (a7 (i:=5) nd rfl (D8 rfl)) lD))) (gJ (rX (aI (i:=6) nd rfl (D8 rfl) (qd gb0 hr (ae (aa 0) (ae (aa 3) (ae (aa 5) ah))))))
   (gJ (Ak (aG zi (aa 6) c7 nbh) (oB (Ai Y FI hbI hfI (hr.mono (by decide)) rfl rfl (aa 4) λaf σ H s a I q h1 h2 h3=>wy I q h1 h2 h3)) wQ)
   (gJ (rX (rG (aa 6) (lw rfl (bU (a7 (i:=7) nd rfl (D8 rfl)) (bU (a7 (i:=8) nd rfl (D8 rfl)) (bU (a7 (i:=9) nd rfl (D8 rfl)) lD))))))
   (oB (rX (xN (aa 3) (aF (aa 7)) (aF (aa 8)) (aa 9))))))))
   (oB (rX (oX (dD jd rfl T.b_tuple (by kernel_rfl) (ae (aa 3) ah))))))),λds M R hl hS=>?_⟩)
 obtain⟨o,row,es,rfl,hes,ho,hl',k⟩:=hS;walk_at"";refine λp hp hz=>?_;refine bf (λi Δ M'=>∃(r:List (Str×Int)) (x4 x5 x6 x7 x8 x9:Option D),Δ=[some (D.tup (o.map ax)),some (D.tup (row.map ao)),some (D.tup es),some (D.ref p),x4,x5,x6,x7,x8,x9]/\M'=bt M p (.lst (r.map ao))/\goF o row es=goF o r (es.drop i)/\r.length<=row.length+2*i) ⟨row,_,_,_,_,_,_,rfl,rfl,rfl,by lia⟩ ?_ ?_
 ·rintro i d Δ M' X hd ⟨r,x4,x5,x6,x7,x8,x9,rfl,rfl,hg,hr⟩ k';obtain⟨e,he,rfl⟩:=xE hd;have hi:i<es.length:=(A7.mp he).1;rw[lM he]at hg;simp only[k6,gj,dX,m6,Option.bind_some];refine⟨_,rfl,?_⟩;walk_at"";refine⟨p,o,r,e,rfl,fO,hes e (F5 he),ho,by lia,?_⟩;cases hc:stO o r e with
  |none =>
   rw[nI hc]at hg;rw[hg]at k;simp only[chD];walk_at"";exact⟨_,je hp,k⟩
  |some c =>
   rw[oa hc]at hg;have hto:=mE hc;obtain⟨b,en,pt⟩:=c;obtain⟨f1,f2,f3⟩:=hto.len;have f4:=hto.ap;simp only at f1 f2 f3 f4;simp only[chD];walk_at"";simp only[jP,Bool.xor_self,B0,if_false];refine⟨_,rfl,?_⟩;walk_at"";refine⟨by lia,by lia,by rw[A5];lia,by rw[A5,A5];exact sz3 _ (by lia),?_⟩;rw[L9,L9,<-S9,<-U6,<-L4,<-L4];exact k' _ _ ⟨apC r (b,en,pt),_,_,_,_,_,_,rfl,rfl,hg,by lia⟩
 ·rintro Δ M' ⟨r,x4,x5,x6,x7,x8,x9,rfl,rfl,hg,hr⟩;rw[jF,List.drop_length]at hg;rw[hg]at k;walk_at"";exact⟨_,je hp,k⟩
def iO(o:List (Str×Str)):Prop:=o.length<=8/\∀x∈o,bo x.1=true/\bo x.2=true
def c8(row:List (Str×Int)):Prop:=row.length<=60/\∀x∈row,eO x
theorem qr{x:Str}(h:bo x=true):x.length<=8:=by
 unfold bo at h;rw[B8,B8,decide_eq_true_eq,decide_eq_true_eq]at h;exact h.1.2
theorem gU{x:Str}(h:bo x=true):ai (.str x)=true:=by
 have:=qr h;simp only[ai,decide_eq_true_eq];lia
theorem ib{x:Str×Int}(h:bo x.1=true):ai (ao x)=true:=by
 simp only[ao,ai,aS,aa6];have:=gU h;simpa only[ai]using this
theorem jC{row:List (Str×Int)}(h:∀x∈row,eO x):ai (.tup (row.map ao))=true:=by
 simp only[ai];rw[aX];intro d hd;obtain⟨x,hx,rfl⟩:=R3.mp hd;exact ib (h x hx).1
theorem nt{o:List (Str×Str)}(h:iO o):ai (.tup (o.map ax))=true:=by
 simp only[ai];rw[aX];intro d hd;obtain⟨x,hx,rfl⟩:=R3.mp hd;have h1:=gU (h.2 x hx).1;have h2:=gU (h.2 x hx).2;simp only[ai]at h1 h2;simp only[ax,ai,aS,h1,h2,aa6]
theorem uQ{o:List (Str×Str)}(h:iO o):oj (.tup (o.map ax))=true:=by
 simp only[oj,A5,decide_eq_true h.1,E8];rw[R1,L6];intro x hx;simp only[Function.comp,ax,iR,aU,(h.2 x hx).1,(h.2 x hx).2,V8]
theorem tY{row:List (Str×Int)}(h:∀x∈row,eO x):sG (.tup (row.map ao))=true:=by
 simp only[sG];rw[R1,L6];intro x hx;exact bE.mpr ⟨x,rfl,h x hx⟩
def dA:SpD:=λds M R=>∃row:List (Str×Int),ds=[.tup (row.map ao)]/\c8 row/\R (.bl true) M
theorem h9(F:Fun K "is_row_taken" "is_row_taken" cj f fd)(T:Txt mg)(G7:FnD P w K mg base "is_row" 4 1 jw):aK P w K mg base CX0 5 f fd ["thing"] (spD K 1 dA):=by
 have nd:=cZ.nd;refine F.okR rfl cZ (λcdv A outer s H E hr=>⟨_,(am (az (bj (qd G7 hr (ae (aa 0) ah)) (bK (cb kf (aA ba rfl T.b_len (by kernel_rfl) (ae (aa 0) ah)) (eZ rfl T.g_MOST_SIGNS_OF_ROW) nbh))))),λds M R _ hS bk=>?_⟩);obtain⟨row,rfl,hr',k⟩:=hS;refine bk ?_;clear bk;walk_at"";refine bq.mpr ⟨jC hr'.2,?_⟩;rw[tY hr'.2];walk_at"";rw[A5,decide_eq_true (by have:=hr'.1;lia)];exact k
def cQ:SpD:=λds M R=>∃(o:List (Str×Str)) (row r2:List (Str×Int)),ds=[.tup (o.map ax),.tup (row.map ao),.tup (r2.map ao)]/\iO o/\c8 row/\c8 r2/\R (.bl true) M
theorem fS(F:Fun K "are_rows_taken" "are_rows_taken" bO f fd)(T:Txt mg)(ga9:FnD P w K mg base "is_order" 4 1 dZ)(Y0:FnD P w K mg base "is_row_taken" 5 1 dA):aK P w K mg base CX0 6 f fd ["order","one","other"] (spD K 3 cQ):=by
 have nd:=cE.nd;refine F.okR rfl cE (λcdv A outer s H E hr=>⟨_,(am (az (bj (qd ga9 hr (ae (aa 0) ah)) (bj (qd Y0 hr (ae (aa 1) ah)) (bK (qd Y0 hr (ae (aa 2) ah))))))),λds M R _ hS bk=>?_⟩);obtain⟨o,row,r2,rfl,ho,h1,h2,k⟩:=hS;refine bk ?_;clear bk;walk_at"";refine jQ.mpr ⟨nt ho,?_⟩;rw[uQ ho];walk_at"";refine⟨row,rfl,h1,?_⟩;walk_at"";exact⟨r2,rfl,h2,k⟩
def nT(o:List (Str×Str))(row r2:List (Str×Int)):D->Bool
 |.tup es=>decide (goF o row es=some r2)
 |_=>false
def fT(d:D):Prop:=ai d=true/\∀es,d=.tup es->es.length<=30
theorem pQ{α:Type}[DecidableEq α](f:α->D)(hf:∀x y,eqD (f x) (f y)=decide (x=y)):∀{a b:List α},cx (a.map f) (b.map f)=decide (a=b)
 |[],[]=>by simp[cx]
 |[],_::_=>by simp[cx]
 |_::_,[]=>by simp[cx]
 |x::a,y::b=>by
  rw[J0,J0,cx,pQ f hf (a:=a) (b:=b),hf];simp
theorem tu(x y:Str×Int):eqD (ao x) (ao y)=decide (x=y):=by
 obtain⟨a,t⟩:=x;obtain⟨b,u⟩:=y;rw[Q8];simp[ao,eqD,cx]
theorem jf{row:List (Str×Int)}:dLe (.tup (row.map ao)) 60=true:=by
 have:cq (row.map ao) 59=true:=by
  rw[gD];intro d hd;obtain⟨x,_,rfl⟩:=R3.mp hd;rfl
 exact this
theorem pU{a b:List (Str×Int)}:eqF (.tup (a.map ao)) (.tup (b.map ao))=some (.bl (decide (a=b))):=by
 simp only[eqF,jf,and_self,if_true,eqD];rw[pQ ao tu]
theorem nY{b:List (Str×Int)}:eqF .non (.tup (b.map ao))=some (.bl false):=by
 simp only[eqF,jf];rfl
def eJ:SpD:=λds M R=>∃(o:List (Str×Str)) (row r2:List (Str×Int)) (d:D),ds=[.tup (o.map ax),.tup (row.map ao),.tup (r2.map ao),d]/\iO o/\row.length<=60/\fT d/\R (.bl (nT o row r2 d)) M
theorem iI(F:Fun K "leads_there" "leads_there" cw f fd)(T:Txt mg){C W fI:A9}(Y:i3 K mg "NoStep" "WishError" "number" C W fI)(gc3:FnX P w K mg base "gone" 7 3 n8 C):aK P w K mg base CX0 8 f fd ["order","one","other","walk"] (spD K 4 eJ):=by
 have nd:=dH.nd;refine F.okR rfl dH (λcdv A outer s H E hr=>⟨_,(ak (aP (bY (aJ (bC (Tn:="tuple") (by decide) rfl T.b_isinstance rfl T.b_tuple (by kernel_rfl) (aa 3)))) (am (az ko)) aD)
   (am (wY gc3 (hr.mono (by decide)) rfl (λ_ _ h=>h) rfl rfl rfl Y.gC Y.cls (ae (aa 0) (ae (aa 1) (ae (aa 3) ah))) (aa 2) (cC hr.units)))),λds M R _ hS bk=>?_⟩)
 obtain⟨o,row,r2,d,rfl,ho,h1,hd,k⟩:=hS;refine bk ?_;clear bk;walk_at"";simp only[aZ hd.1];cases d with
 |tup es =>
  refine⟨true,rfl,?_⟩;have hl:=hd.2 es rfl;have hg:∀d∈es,ai d=true:=aX.mp (by simpa[ai]using hd.1);refine⟨o,row,es,rfl,hg,by have:=ho.1;lia,by lia,λhx=>?_,λhx=>?_⟩
  ·cases hq:goF o row es with
   |none=>simpa[nT,hq]using k
   |some r=>rw[hq]at hx;cases hx
  ·cases hq:goF o row es with
   |none=>rw[hq]at hx;exact absurd rfl hx
   |some r =>
    refine⟨_,pU,?_⟩;simpa[nT,hq]using k
 |scr _=>exact absurd hd.1 (by simp[ai])
 |ref _=>exact absurd hd.1 (by simp[ai])
 |box _ _=>exact absurd hd.1 (by simp[ai])
 |_=>exact⟨false,rfl,k⟩
def eF:SpD:=λds M R=>∃(o:List (Str×Str)) (row r2:List (Str×Int)) (d:D),ds=[.tup [.tup (o.map ax),.tup (row.map ao),.tup (r2.map ao)],d]/\iO o/\c8 row/\c8 r2/\fT d/\R (.bl (nT o row r2 d)) M
theorem ij(F:Fun K "takes_comes" "takes_comes" cA f fd)(T:Txt mg)(G0:FnD P w K mg base "is_tuple_of" 1 2 bc)(Y4:FnD P w K mg base "are_rows_taken" 6 3 cQ)(Y9:FnD P w K mg base "leads_there" 8 4 eJ):aK P w K mg base CX0 9 f fd ["parts","paper"] (spD K 2 eF):=by
 have nd:=dM.nd;refine F.okR rfl dM (λcdv A outer s H E hr=>⟨_,(ak (aP (bY (aJ (qd G0 hr (ae (aa 0) (ae ag ah))))) (am (az ko)) aD)
   (ak (rG (aa 0) (lw rfl (bU (a7 (i:=2) nd rfl (D8 rfl)) (bU (a7 (i:=3) nd rfl (D8 rfl)) (bU (a7 (i:=4) nd rfl (D8 rfl)) lD)))))
   (am (az (bj (qd Y4 hr (ae (aa 2) (ae (aa 3) (ae (aa 4) ah)))) (bK (qd Y9 hr (ae (aa 2) (ae (aa 3) (ae (aa 4) (ae (aa 1) ah))))))))))),λds M R _ hS bk=>?_⟩)
 obtain⟨o,row,r2,d,rfl,ho,h1,h2,hd,k⟩:=hS;refine bk ?_;clear bk;walk_at"";refine bA.mpr ⟨?_,?_⟩
 ·have a:=nt ho;have b:=jC h1.2;have c:=jC h2.2;simp only[ai]at a b c;simp only[ai,aS,a,b,c,V8]
 ·rw[show e8 (.tup [.tup (o.map ax),.tup (row.map ao),.tup (r2.map ao)]) 3=true from rfl];walk_at"";refine⟨_,rfl,?_⟩;walk_at"";refine⟨o,row,r2,rfl,ho,h1,h2,?_⟩;walk_at"";exact⟨o,row,r2,d,rfl,ho,h1.1,hd,k⟩
def lF:SpD:=λds M R=>∃(o:List (Str×Str)) (row r2:List (Str×Int)) (d:D),ds=[.tup [.str "comes",.tup (o.map ax),.tup (row.map ao),.tup (r2.map ao)],d]/\iO o/\c8 row/\c8 r2/\fT d/\R (.bl (nT o row r2 d)) M
theorem pe(F:Fun K "holds" "holds" ik f fd)(T:Txt mg)(GF:gK w K mg "CHECKS" xP)(Y2:FnD P w K mg base "takes_comes" 9 2 eF):aK P w K mg base CX0 10 f fd ["claim","paper"] (spD K 2 lF):=by
 have nd:=jK.nd;refine F.okR rfl jK (λcdv A outer s H E hr=>⟨_,(ak (aP (dO (e9 (bY (aJ (bC (Tn:="tuple") (by decide) rfl T.b_isinstance rfl T.b_tuple (by kernel_rfl) (aa 0)))) (eh (aG (cC hr.units) (aA ba rfl T.b_len (by kernel_rfl) (ae (aa 0) ah)) ag nbh)))) (am (az ko)) aD)
   (ak (aP (dO (e9 (bY (aJ (bC (Tn:="str") (by decide) rfl T.b_isinstance rfl T.b_str (by kernel_rfl) (aw av (aa 0) ag (λ_ _=>rfl))))) (eh (ue rfl GF (aw av (aa 0) ag (λ_ _=>rfl)))))) (am (az ko)) aD)
   (ak (aI (i:=2) nd rfl (D8 rfl) (v7 hr.units1 rfl GF (aw av (aa 0) ag (λ_ _=>rfl)) (λ_ _=>rfl)))
   (am (az (uS 2 Y2 hr (ae (aE (aa 0) (aF ag) aQ) (ae (aa 1) ah)))))))),λds M R _ hS bk=>?_⟩)
 obtain⟨o,row,r2,d,rfl,ho,h1,h2,hd,k⟩:=hS;refine bk ?_;clear bk;walk_at"";refine⟨true,rfl,?_⟩;rw[if_neg (by decide),if_neg (by decide)];refine⟨true,rfl,?_⟩;have e:gp xP (D3 "comes")=some "takes_comes":=by decide +kernel
 rw[if_neg (by decide),e];obtain⟨f1,_,_,_,hm,_⟩:=Y2.ex;refine⟨_,rfl,f1,hm,rfl,o,row,r2,d,?_,ho,h1,h2,hd,k⟩;rw[show L2.bP [D.str (D3 "comes"),D.tup (o.map ax),D.tup (row.map ao),D.tup (r2.map ao)] (some 1) none=_ from bI (n:=1)];rfl
def ll:SpD:=λds M R=>∃(d:D) (n:Int),ds=[d,.int n]/\ai d=true/\R (.bl (plB d n)) M
theorem oS(F:Fun K "_law_place" "_law_place" iG f fd)(T:Txt mg):aK P w K mg base CX0 1 f fd ["_law_thing","_law_size"] (spD K 2 ll):=by
 have nd:=kc.nd;refine F.okR rfl kc (λcdv A outer s H E hr=>⟨_,(am (az (bj (bC (Tn:="int") (by decide) rfl T.b_isinstance rfl T.b_int (by kernel_rfl) (aa 0)) (bj (sY (bC (Tn:="bool") (by decide) rfl T.b_isinstance rfl T.b_bool (by kernel_rfl) (aa 0))) (bK (hU kf l8 ag (aa 0) (aa 1))))))),λds M R _ hS bk=>?_⟩);obtain⟨d,n,rfl,hd,k⟩:=hS;refine bk ?_;clear bk;walk_at"";simp only[aZ hd];cases d with
 |int t =>
  refine⟨true,rfl,?_⟩;simp only[if_true];refine⟨false,rfl,?_⟩;simp only[plB]at k;rw[if_pos (by decide)];walk_at"";refine aM (λh=>?_) (λh=>?_)
  ·rw[decide_eq_true h,E8]at k;exact k
  ·rw[decide_eq_false h,E6]at k;exact k
 |bl b=>exact⟨true,rfl,by simp only[if_true];exact⟨true,rfl,k⟩⟩
 |scr _=>simp[ai]at hd
 |ref _=>simp[ai]at hd
 |box _ _=>simp[ai]at hd
 |_=>exact⟨false,rfl,by simp only[B0,if_false];exact k⟩
def eP:SpD:=ka aU
theorem mz(F:Fun K "_law_is_mark" "_law_is_mark" da f fd)(T:Txt mg):aK P w K mg base CX0 1 f fd ["_law_thing"] (spD K 1 eP):=by
 have nd:=gH.nd;refine F.okR rfl gH (λcdv A outer s H E hr=>⟨_,(ak (aP (dO (e9 (bY (aJ (bC (Tn:="str") (by decide) rfl T.b_isinstance rfl T.b_str (by kernel_rfl) (aa 0)))) (eh (bY (so l8 l8 ag (aA ba rfl T.b_len (by kernel_rfl) (ae (aa 0) ah)) ag))))) (am (az ko)) aD)
   (am (az (aA (pD rfl) rfl T.b_all (by kernel_rfl) (ae (rQ (ms:=[false]) (ay:=["_law_sign_here"]) (cK (n0:=0) rfl (show cW (aj da) fh _ _=true from by decide +kernel)) rfl (cn (aa 0)) (fM (i:=1) (show(fh++_).Nodup from by decide +kernel) rfl rfl) (λ_ _ _ _=>jk) (λ_ _ _ _=>(cb gd (aa 1) b7 rfl))) ah))))),λds M R _ hS bk=>?_⟩)
 obtain⟨d,rfl,hd,k⟩:=hS;refine bk ?_;clear bk;walk_at"";simp only[aZ hd];cases d with
 |str x =>
  have hx:x.length<=1000000:=by simpa[ai]using hd
  refine⟨true,rfl,?_⟩;walk_at"";rw[if_neg (by decide)];refine⟨_,if_pos (szB _ (by lia)),_,rfl,?_⟩;have hsl:x.length=x.cps.toList.length:=by show x.cps.size=_;simp
  refine aM (λh1=>⟨_,rfl,_,rfl,aM (λh2=>?_) (λh2=>?_)⟩) (λh1=>?_)
  ·have e2:aU (.str x)=false:=by
    simp at h2;simp only[aU,bo,decide_eq_false (by lia:¬ x.length<=8),Bool.and_false,E6]
   rw[e2]at k;exact k
  ·simp at h1 h2;refine⟨_,if_pos (szB _ (by lia)),λhz=>⟨hz,?_⟩⟩;refine cP (λ_=>true) (λd=>match d with|.str y=>.bl (y.cps.toList.all λc=>decide (c∈fQ))|_=>.non) (λΔ=>∃x,Δ=[none,x]) _ _ _ (λd hd Δ hΔ=>?_) ⟨none,rfl⟩ ?_
   ·obtain⟨x1,rfl⟩:=hΔ;obtain⟨c,_,rfl⟩:=R3.mp (show d∈x.cps.toList.map λc=>D.str (tx [c])from hd);refine⟨_,rfl,⟨_,rfl⟩,λQ1 q=>q,λ_ Q2 q=>?_⟩;walk_at"";simp only[sZ,L8.injEq,exists_eq_left',T3];rw[show(D3 "abcdefghijklmnopqrstuvwxyz").cps.toList=fQ from pW];simpa[cY]using q
   ·rw[O4,List.filter_eq_self.mpr (λ_ _=>rfl)];have e:(L2.signs x).map (λd=>match d with|.str y=>D.bl (y.cps.toList.all λc=>decide (c∈fQ))|_=>.non)=(x.cps.toList.map λc=>decide (c∈fQ)).map D.bl:=by
     unfold L2.signs;rw[T7,T7];apply List.map_congr_left;intro c _;simp
    rw[e];refine⟨_,gZ,?_⟩;have e2:(x.cps.toList.map λc=>decide (c∈fQ)).all id=bo x:=by
     unfold bo;rw[R1,decide_eq_true (by lia:1<=x.length),decide_eq_true (by lia:x.length<=8)];rfl
    rw[e2];exact k
  ·rw[if_pos (by decide)];have e2:aU (.str x)=false:=by
    simp at h1;simp only[aU,bo,decide_eq_false (by lia:¬ 1<=x.length),E6]
   rw[e2]at k;exact k
 |scr _=>simp[ai]at hd
 |ref _=>simp[ai]at hd
 |box _ _=>simp[ai]at hd
 |_=>exact⟨false,rfl,k⟩
def iW:SpD:=ka eG
theorem mG(F:Fun K "_law_is_sign" "_law_is_sign" eU f fd)(T:Txt mg)(Y1:FnD P w K mg base "_law_is_mark" 1 1 eP):aK P w K mg base CX0 2 f fd ["_law_thing"] (spD K 1 iW):=by
 have nd:=g8.nd;refine F.okR rfl g8 (λcdv A outer s H E hr=>⟨_,(ak (aP (dO (e9 (bY (aJ (bC (Tn:="tuple") (by decide) rfl T.b_isinstance rfl T.b_tuple (by kernel_rfl) (aa 0)))) (e9 (aG (qU hr.units) (aA ba rfl T.b_len (by kernel_rfl) (ae (aa 0) ah)) ag nbh) (eh (bY (aJ (qd Y1 hr (ae (aw av (aa 0) ag (λ_ _=>rfl)) ah)))))))) (am (az ko)) aD)
   (am (az (bj (bC (Tn:="int") (by decide) rfl T.b_isinstance rfl T.b_int (by kernel_rfl) (aw av (aa 0) ag (λ_ _=>rfl))) (bj (sY (bC (Tn:="bool") (by decide) rfl T.b_isinstance rfl T.b_bool (by kernel_rfl) (aw av (aa 0) ag (λ_ _=>rfl)))) (bK (hU kf kf (nM nu ag) (aw av (aa 0) ag (λ_ _=>rfl)) ag))))))),λds M R _ hS bk=>?_⟩)
 obtain⟨d,rfl,hd,k⟩:=hS;refine bk ?_;clear bk;walk_at"";simp only[aZ hd];cases d with
 |tup ds =>
  refine⟨true,rfl,?_⟩;walk_at"";rw[if_neg (by decide)]
  by_cases hl:ds.length=2
  ·obtain⟨a,b,rfl⟩:=jc hl;have hab:ai a=true/\ai b=true:=by simpa[ai,aS]using hd
   rw[if_neg (by simp)];simp only[eG]at k;refine⟨a,rfl,bq.mpr ⟨hab.1,_,rfl,aM (λh=>?_) (λh=>?_)⟩⟩
   ·rw[show aU a=false by simpa using h,E6]at k;exact k
   ·rw[show aU a=true by simpa using h,E8]at k;refine⟨b,rfl,?_⟩;rw[aZ hab.2];cases b with
    |int t =>
     refine⟨true,rfl,?_⟩;rw[if_pos rfl];refine⟨_,rfl,false,rfl,?_⟩;rw[if_pos (by decide)];refine⟨_,rfl,_,rfl,?_⟩;simp only[j6]at k;refine aM (λh=>?_) (λh=>?_)
     ·rw[h,E8]at k;exact⟨_,rfl,k⟩
     ·rw[show decide (-99<=t)=false by simpa using h,E6]at k;exact k
    |bl _=>exact⟨true,rfl,⟨_,rfl,true,rfl,k⟩⟩
    |scr _=>exact absurd hab.2 (by simp[ai])
    |ref _=>exact absurd hab.2 (by simp[ai])
    |box _ _=>exact absurd hab.2 (by simp[ai])
    |_=>exact⟨false,rfl,k⟩
  ·rw[iq hl]at k;rw[if_pos (by simp;lia)];exact k
 |scr _=>simp[ai]at hd
 |ref _=>simp[ai]at hd
 |box _ _=>simp[ai]at hd
 |_=>exact⟨false,rfl,k⟩
def lgD:Option (List (Str×Int))->D
 |none=>.non
 |some r=>.tup (r.map ao)
def dv:SpD:=λds M R=>∃(o:List (Str×Str)) (row:List (Str×Int)) (d:D),ds=[.tup (o.map ax),.tup (row.map ao),d]/\ai d=true/\o.length<=500/\row.length<=500/\R (lgD ((stO o row d).map (apC row))) M
theorem lH{s t:Str}{r r':List D}(e:D.tup (.str s::r)=.tup (.str t::r')):s=t:=D.str.inj (O5.inj (D.tup.inj e)).1
theorem me{o:List (Str×Str)}{row:List (Str×Int)}{d:D}{R:D->DH->Prop}{M:DH}(k:R (lgD ((stO o row d).map (apC row))) M)(h:∀c,¬ cm o row d c):R .non M:=by rw[nv h]at k;exact k
theorem mi{o:List (Str×Str)}{row:List (Str×Int)}{d:D}{R:D->DH->Prop}{M:DH}{c:Chg}(k:R (lgD ((stO o row d).map (apC row))) M)(h:cm o row d c):R (.tup ((apC row c).map ao)) M:=by rw[nR h]at k;exact k
theorem js(F:Fun K "_law_step_gone" "_law_step_gone" dw f fd)(T:Txt mg)(ga3:FnD P w K mg base "_law_place" 1 2 ll)(Y5:FnD P w K mg base "_law_cancel" 2 3 gu)(Y1:FnD P w K mg base "_law_is_mark" 1 1 eP)(Y8:FnD P w K mg base "_law_leads" 2 3 ig)(ga1:FnD P w K mg base "_law_is_sign" 2 1 iW)(gc0:FnD P w K mg base "_law_grows" 3 3 lK):aK P w K mg base CX0 4 f fd ["_law_order_here","_law_row","_law_step"] (spD K 3 dv):=by
 have nd:=fG.nd;refine F.okR rfl fG (λcdv A outer s H E hr=>⟨_,(ak (aP (dO (e9 (bY (aJ (bC (Tn:="tuple") (by decide) rfl T.b_isinstance rfl T.b_tuple (by kernel_rfl) (aa 2)))) (e9 (aG l8 (aA ba rfl T.b_len (by kernel_rfl) (ae (aa 2) ah)) ag nbh) (eh (bY (aJ (bC (Tn:="str") (by decide) rfl T.b_isinstance rfl T.b_str (by kernel_rfl) (aw av (aa 2) ag (λ_ _=>rfl))))))))) (am (az c7)) aD)
   (ak (aI (i:=3) nd rfl (D8 rfl) (aw av (aa 2) ag (λ_ _=>rfl)))
   (ak (aP (dO (bx (aG (cC hr.units) (aw av (aa 2) ag (λ_ _=>rfl)) b7 nbh) (bx (aG (cC hr.units) (aA ba rfl T.b_len (by kernel_rfl) (ae (aa 2) ah)) ag nbh) (bV (aJ (qd ga3 hr (ae (aa 3) (ae (au lu (aA ba rfl T.b_len (by kernel_rfl) (ae (aa 1) ah)) ag) ah)))))))) (am (aP (aJ (qd Y5 hr (ae (aa 0) (ae (aw av (aa 1) (aa 3) (λ_ _=>rfl)) (ae (aw av (aa 1) (au aH (aa 3) ag) (λ_ _=>rfl)) ah))))) (am (az (au aH (aE (aa 1) aQ (aF (aa 3))) (aE (aa 1) (aF (au aH (aa 3) ag)) aQ)))) aD)) aD)
   (ak (aP (dO (bx (aG (cC hr.units) (aw av (aa 2) ag (λ_ _=>rfl)) b7 nbh) (bx (aG (cC hr.units) (aA ba rfl T.b_len (by kernel_rfl) (ae (aa 2) ah)) ag nbh) (bx (aJ (qd ga3 hr (ae (aa 3) (ae (aA ba rfl T.b_len (by kernel_rfl) (ae (aa 1) ah)) ah)))) (bV (aJ (qd Y1 hr (ae (aw av (aa 2) ag (λ_ _=>rfl)) ah)))))))) (am (aP (aJ (qd Y8 hr (ae (aa 0) (ae (aw av (aa 1) (aa 3) (λ_ _=>rfl)) (ae (aw av (aa 2) ag (λ_ _=>rfl)) ah))))) (am (az (au aH (au aH (aE (aa 1) aQ (aF (aa 3))) (aV (ae (aV (ae (aw av (aa 2) ag (λ_ _=>rfl)) (ae (aw av (aw av (aa 1) (aa 3) (λ_ _=>rfl)) ag (λ_ _=>rfl)) ah))) ah))) (aE (aa 1) (aF (au aH (aa 3) ag)) aQ)))) aD)) aD)
   (ak (aP (dO (bx (aG (cC hr.units) (aw av (aa 2) ag (λ_ _=>rfl)) b7 nbh) (bx (aG (cC hr.units) (aA ba rfl T.b_len (by kernel_rfl) (ae (aa 2) ah)) ag nbh) (bV (aJ (qd ga3 hr (ae (aa 3) (ae (au aH (aA ba rfl T.b_len (by kernel_rfl) (ae (aa 1) ah)) ag) ah)))))))) (am (aP (dO (bx (aJ (qd ga1 hr (ae (aw av (aa 2) ag (λ_ _=>rfl)) ah))) (bx (aJ (qd ga1 hr (ae (aw av (aa 2) ag (λ_ _=>rfl)) ah))) (bV (aJ (qd gc0 hr (ae (aa 0) (ae (aw av (aa 2) ag (λ_ _=>rfl)) (ae (aw av (aa 2) ag (λ_ _=>rfl)) ah))))))))) (am (az (au aH (au aH (aE (aa 1) aQ (aF (aa 3))) (aV (ae (aw av (aa 2) ag (λ_ _=>rfl)) (ae (aw av (aa 2) ag (λ_ _=>rfl)) ah)))) (aE (aa 1) (aF (aa 3)) aQ)))) aD)) aD)
   (am (az c7))))))),λds M R _ hS bk=>?_⟩)
 obtain⟨o,row,d,rfl,hd,ho,hl,k⟩:=hS;refine bk ?_;clear bk;refine aR (λΔ' M'=>(∃s a r,d=.tup (.str s::a::r)/\Δ'=[some (.tup (o.map ax)),some (.tup (row.map ao)),some d,none])/\M=M') (λnx k'=>?_) ?_
 ·walk_at"";simp only[aZ hd];cases d with
  |tup ds =>
   refine⟨true,rfl,?_⟩;rw[if_neg (by decide)];refine⟨_,rfl,_,rfl,_,rfl,aM (λh=>me k λc hc=>?_) (λh=>?_)⟩
   ·rcases hc with⟨i,x,y,e,_⟩|⟨i,m,x,e,_⟩|⟨i,x,y,e,_⟩<;>(cases e;simp at h)
   ·match ds,h,hd,k' with
    |x::a::r,h,hd,k' =>
     have hx:ai x=true:=by simp only[ai,aS,B8]at hd;exact hd.1
     refine⟨x,kZ,?_⟩;rw[aZ hx];cases x with
     |str s=>exact⟨true,rfl,k' _ _ ⟨⟨s,a,r,rfl,rfl⟩,rfl⟩⟩
     |scr _=>simp[ai]at hx
     |ref _=>simp[ai]at hx
     |box _ _=>simp[ai]at hx
     |_=>exact⟨false,rfl,me k λc hc=>by rcases hc with⟨i,x,y,e,_⟩|⟨i,m,x,e,_⟩|⟨i,x,y,e,_⟩<;>cases e⟩
    |[_],h,_,_=>exact absurd h (by simp)
    |[],h,_,_=>exact absurd h (by simp)
  |scr _=>simp[ai]at hd
  |ref _=>simp[ai]at hd
  |box _ _=>simp[ai]at hd
  |_=>exact⟨false,rfl,me k λc hc=>by rcases hc with⟨i,x,y,e,_⟩|⟨i,m,x,e,_⟩|⟨i,x,y,e,_⟩<;>cases e⟩
 rintro _ _ ⟨⟨s,a,r,rfl,rfl⟩,rfl⟩;have hg:ai a=true/\aS r=true:=by simp only[ai,aS,B8]at hd;exact⟨hd.2.1,hd.2.2⟩
 refine aR (λΔ' M'=>Δ'=[some (.tup (o.map ax)),some (.tup (row.map ao)),some (.tup (.str s::a::r)),some a]/\M=M') (λnx k'=>?_) ?_
 ·walk_at"";exact k' _ _ ⟨rfl,rfl⟩
 rintro _ _ ⟨rfl,rfl⟩;refine aR (λΔ' M'=>Δ'=[some (.tup (o.map ax)),some (.tup (row.map ao)),some (.tup (.str s::a::r)),some a]/\M=M'/\(s="cancel"->∀c,¬ cm o row (.tup (.str s::a::r)) c)) (λnx k'=>?_) ?_
 ·walk_at"";have nk:(s="cancel"->∀c,¬ cm o row (.tup (.str s::a::r)) c)->nx [some (.tup (o.map ax)),some (.tup (row.map ao)),some (.tup (.str s::a::r)),some a] M:=λh=>k' _ _ ⟨rfl,rfl,h⟩;refine aM (λh=>?_) (λh=>nk λz=>absurd z (by simpa using h));obtain rfl:s="cancel":=by simpa using h
  refine aM (λh2=>?_) (λh2=>nk λ_ c hc=>?_)
  ·obtain rfl:r=[]:=List.eq_nil_of_length_eq_zero (by simp at h2;lia);rw[A5];refine⟨a,_,rfl,hg.1,_,rfl,aM (λh3=>?_) (λh3=>nk λ_ c hc=>h3 ?_)⟩
   ·obtain⟨i,rfl,hi⟩:=bL.mp h3;obtain⟨x,hx⟩:∃x,row[i]?=some x:=⟨_,C4 (by lia)⟩;obtain⟨y,hy⟩:∃y,row[i+1]?=some y:=⟨_,C4 (by lia)⟩;refine⟨_,df hx,_,rfl,_,df (i:=i+1) hy,o,x,y,rfl,ho,_,rfl,aM (λh4=>⟨_,rfl,_,rfl,_,rfl,?_⟩) (λh4=>nk λ_ c hc=>h4 ?_)⟩
    ·rw[gn,show(i:Int)+2=((i+2:Nat):Int)by lia,bI,<-S9,<-U6,<-L4];refine⟨_,if_pos (by rw[A5,A5,D5,F6];exact sz3 _ (by lia)),?_⟩;have:=mi k (iw.mpr ⟨i,x,y,rfl,hx,hy,h4,rfl⟩);simpa only[apC,M9]using this
    ·obtain⟨j,u,v,e1,g1,g2,g3,_⟩:=iw.mp hc;obtain rfl:i=j:=by have:=D.int.inj e1;lia
     rw[hx]at g1;cases g1;rw[hy]at g2;cases g2;exact g3
   ·obtain⟨i,x,y,rfl,h1,h2,_⟩:=iw.mp hc;have:=(A7.mp h2).1;exact bL.mpr ⟨i,rfl,by lia⟩
  ·rcases hc with⟨i,x,y,e,_⟩|⟨i,m,x,e,_⟩|⟨i,x,y,e,_⟩
   ·cases e;simp at h2
   ·exact absurd (lH e) (by decide +kernel)
   ·exact absurd (lH e) (by decide +kernel)
 rintro _ _ ⟨rfl,rfl,n1⟩;refine aR (λΔ' M'=>Δ'=[some (.tup (o.map ax)),some (.tup (row.map ao)),some (.tup (.str s::a::r)),some a]/\M=M'/\(s="order"->∀c,¬ cm o row (.tup (.str s::a::r)) c)) (λnx k'=>?_) ?_
 ·walk_at"";have nk:(s="order"->∀c,¬ cm o row (.tup (.str s::a::r)) c)->nx [some (.tup (o.map ax)),some (.tup (row.map ao)),some (.tup (.str s::a::r)),some a] M:=λh=>k' _ _ ⟨rfl,rfl,h⟩;refine aM (λh=>?_) (λh=>nk λz=>absurd z (by simpa using h));obtain rfl:s="order":=by simpa using h
  refine aM (λh2=>?_) (λh2=>nk λ_ c hc=>?_)
  ·obtain⟨b,rfl⟩:=List.length_eq_one_iff.mp (show r.length=1 by simp at h2;lia);have hb:ai b=true:=by simpa[aS]using hg.2
   rw[A5];refine⟨a,_,rfl,hg.1,_,rfl,aM (λh3=>?_) (λh3=>nk λ_ c hc=>h3 ?_)⟩
   ·obtain⟨i,rfl,hi⟩:=bL.mp h3;obtain⟨x,hx⟩:∃x,row[i]?=some x:=⟨_,C4 (by lia)⟩;refine⟨b,jW,bq.mpr ⟨hb,_,rfl,aM (λh4=>?_) (λh4=>nk λ_ c hc=>?_)⟩⟩
    ·obtain⟨m,rfl,hm⟩:=eC.mp h4;refine⟨_,df hx,_,jW,o,x,m,rfl,ho,_,rfl,aM (λh5=>⟨_,rfl,_,jW,_,df hx,.int x.2,rfl,sz3 2,sz3 1,?_⟩) (λh5=>nk λ_ c hc=>h5 ?_)⟩
     ·rw[gn,<-S9];refine⟨_,if_pos (by rw[A5,D5];exact sz3 _ (by lia)),_,rfl,_,rfl,?_⟩;rw[show(i:Int)+1=((i+1:Nat):Int)by lia,bI,<-U6];refine⟨_,if_pos (by simp only[C8,A5,D5,F6,N3,W5];exact sz3 _ (by lia)),?_⟩;have:=mi k (fu.mpr ⟨i,m,x,⟨rfl,rfl⟩,hx,hm,h5,rfl⟩);simpa only[apC,L4,J0,X5,ao]using this
     ·obtain⟨j,m',u,⟨e1,e2⟩,g1,g2,g3,_⟩:=fu.mp hc;cases e2;obtain rfl:i=j:=by have:=D.int.inj e1;lia
      rw[hx]at g1;cases g1;exact g3
    ·obtain⟨j,m,u,⟨e1,rfl⟩,g1,g2,g3,_⟩:=fu.mp hc;exact h4 (eC.mpr ⟨m,rfl,g2⟩)
   ·obtain⟨i,m,x,⟨rfl,rfl⟩,h1,_⟩:=fu.mp hc;have:=(A7.mp h1).1;exact bL.mpr ⟨i,rfl,by lia⟩
  ·rcases hc with⟨i,x,y,e,_⟩|⟨i,m,x,e,_⟩|⟨i,x,y,e,_⟩
   ·exact absurd (lH e) (by decide +kernel)
   ·cases e;simp at h2
   ·exact absurd (lH e) (by decide +kernel)
 rintro _ _ ⟨rfl,rfl,n2⟩;refine aR (λΔ' M'=>Δ'=[some (.tup (o.map ax)),some (.tup (row.map ao)),some (.tup (.str s::a::r)),some a]/\M=M'/\(s="grow"->∀c,¬ cm o row (.tup (.str s::a::r)) c)) (λnx k'=>?_) ?_
 ·walk_at"";have nk:(s="grow"->∀c,¬ cm o row (.tup (.str s::a::r)) c)->nx [some (.tup (o.map ax)),some (.tup (row.map ao)),some (.tup (.str s::a::r)),some a] M:=λh=>k' _ _ ⟨rfl,rfl,h⟩;refine aM (λh=>?_) (λh=>nk λz=>absurd z (by simpa using h));obtain rfl:s="grow":=by simpa using h
  refine aM (λh2=>?_) (λh2=>nk λ_ c hc=>?_)
  ·obtain⟨b,e,rfl⟩:=jc (show r.length=2 by simp at h2;lia);have hb:ai b=true/\ai e=true:=by simpa[aS]using hg.2
   rw[A5];refine⟨a,_,rfl,hg.1,_,rfl,aM (λh3=>?_) (λh3=>nk λ_ c hc=>h3 ?_)⟩
   ·obtain⟨i,rfl,hi⟩:=bL.mp h3;refine⟨b,jW,bq.mpr ⟨hb.1,_,rfl,aM (λh4=>?_) (λh4=>nk λ_ c hc=>?_)⟩⟩
    ·obtain⟨x,rfl,hx⟩:=bE.mp h4;refine⟨e,bp (j:=3) rfl,bq.mpr ⟨hb.2,_,rfl,aM (λh5=>?_) (λh5=>nk λ_ c hc=>?_)⟩⟩
     ·obtain⟨y,rfl,hy⟩:=bE.mp h5;refine⟨_,jW,_,bp (j:=3) rfl,o,x,y,rfl,ho,_,rfl,aM (λh6=>⟨_,rfl,_,jW,_,bp (j:=3) rfl,sz3 2,?_⟩) (λh6=>nk λ_ c hc=>h6 ?_)⟩
      ·rw[B8,beq_iff_eq]at h6;rw[gn,<-S9];refine⟨_,if_pos (by rw[A5,D5];exact sz3 _ (by lia)),_,rfl,?_⟩;rw[bI,<-U6];refine⟨_,if_pos (by simp only[C8,A5,D5,F6,N3,W5];exact sz3 _ (by lia)),?_⟩;have:=mi k (dg.mpr ⟨i,x,y,⟨rfl,rfl,rfl⟩,by lia,hx,hy,h6.1,h6.2,rfl⟩);simpa only[apC,L4,J0,X5]using this
      ·obtain⟨j,u,v,⟨e1,e2,e3⟩,g1,g2,g3,g4,g5,_⟩:=dg.mp hc;rw[cL _ _ e2,cL _ _ e3,g5,g4];simp
     ·obtain⟨j,u,v,⟨e1,e2,rfl⟩,g1,g2,g3,_⟩:=dg.mp hc;exact h5 (bE.mpr ⟨v,rfl,g3⟩)
    ·obtain⟨j,u,v,⟨e1,rfl,e3⟩,g1,g2,g3,_⟩:=dg.mp hc;exact h4 (bE.mpr ⟨u,rfl,g2⟩)
   ·obtain⟨i,x,y,⟨rfl,_⟩,h1,_⟩:=dg.mp hc;exact bL.mpr ⟨i,rfl,by lia⟩
  ·rcases hc with⟨i,x,y,e,_⟩|⟨i,m,x,e,_⟩|⟨i,x,y,e,_⟩
   ·exact absurd (lH e) (by decide +kernel)
   ·exact absurd (lH e) (by decide +kernel)
   ·cases e;simp at h2
 rintro _ _ ⟨rfl,rfl,n3⟩;walk_at"";refine me k λc hc=>?_;rcases id hc with⟨i,x,y,e,_⟩|⟨i,m,x,e,_⟩|⟨i,x,y,e,_⟩
 ·exact n1 (by simp at e;exact e.1) c hc
 ·exact n2 (by simp at e;exact e.1) c hc
 ·exact n3 (by simp at e;exact e.1) c hc
def nq:SpD:=λds M R=>∃(o:List (Str×Str)) (row:List (Str×Int)) (d:D),ds=[.tup (o.map ax),.tup (row.map ao),d]/\fT d/\o.length<=500/\row.length<=60/\R (lgD (match d with|.tup es=>goF o row es|_=>none)) M
theorem qt(F:Fun K "_law_gone" "_law_gone" j5 f fd)(T:Txt mg)(G6:FnD P w K mg base "_law_step_gone" 4 3 dv):aK P w K mg base CX0 5 f fd ["_law_order_here","_law_row","_law_walk_here"] (spD K 3 nq):=by
 have nd:=lb.nd;refine F.okR rfl lb (λcdv A outer s H E hr=>⟨_,(ak (aP (bY (aJ (bC (Tn:="tuple") (by decide) rfl T.b_isinstance rfl T.b_tuple (by kernel_rfl) (aa 2)))) (am (az c7)) aD)
   (ak (eM F8 rfl (cn (aa 2)) (a7 (i:=3) nd rfl (D8 rfl)) (ak (aI (i:=1) nd rfl (D8 rfl) (qd G6 hr (ae (aa 0) (ae (aa 1) (ae (aa 3) ah)))))
   (am (aP (aG zi (aa 1) c7 nbh) (am (az c7)) aD))))
   (am (az (aa 1))))),λds M R _ hS bk=>?_⟩)
 obtain⟨o,row,d,rfl,hd,ho,hl,k⟩:=hS;refine bk ?_;clear bk;walk_at"";simp only[aZ hd.1];cases d with
 |tup es =>
  refine⟨true,rfl,?_⟩;rw[if_neg (by decide)];refine⟨_,rfl,λhz=>?_⟩;have b6:=hd.2 es rfl;have hgd:∀d∈es,ai d=true:=aX.mp (by simpa[ai]using hd.1);refine bf (λi Δ M'=>∃(r:List (Str×Int)) (x3:Option D),Δ=[some (D.tup (o.map ax)),some (D.tup (r.map ao)),some (D.tup es),x3]/\M'=M/\goF o row es=goF o r (es.drop i)/\r.length<=row.length+2*i) ⟨row,_,rfl,rfl,rfl,by lia⟩ ?_ ?_
  ·rintro i d Δ M' X he ⟨r,x3,rfl,rfl,hg,hr⟩ k';have hi:i<es.length:=(A7.mp he).1;rw[lM he]at hg;refine⟨_,rfl,?_⟩;walk_at"";refine⟨o,r,d,rfl,hgd d (F5 he),ho,by lia,?_⟩;cases hc:stO o r d with
   |none =>
    rw[nI hc]at hg;simp only[hg]at k;simp only[Option.map_none,lgD];walk_at"";exact k
   |some c =>
    rw[oa hc]at hg;have f4:=(mE hc).ap;simp only[Option.map_some,lgD];walk_at"";simp only[jP,Bool.xor_self,B0,if_false];exact k' _ _ ⟨apC r c,_,rfl,rfl,hg,by lia⟩
  ·rintro Δ M' ⟨r,x3,rfl,rfl,hg,hr⟩;rw[List.drop_length]at hg;simp only[hg,goF]at k;walk_at"";exact k
 |scr _=>exact absurd hd.1 (by simp[ai])
 |ref _=>exact absurd hd.1 (by simp[ai])
 |box _ _=>exact absurd hd.1 (by simp[ai])
 |_=>exact⟨false,rfl,k⟩
theorem cf{w:Str}(h:cz w):bo w=true:=by
 obtain⟨h1,h2,h3⟩:=h;have e:w.length=w.cps.toList.length:=by show w.cps.size=_;simp
 unfold bo;rw[decide_eq_true (by lia:1<=w.length),decide_eq_true (by lia:w.length<=8),E8,E8,L6];intro c hc;have:=h3 c hc;unfold lq at this;rw[decide_eq_true_eq];unfold fQ;rw[List.mem_range'_1]
 lia
def lP:SpD:=λds M R=>∃(o:List (Str×Str)) (row r2:List (Str×Int)) (d:D),ds=[.tup [.str "comes",.tup (o.map ax),.tup (row.map ao),.tup (r2.map ao)],d,.bl (nT o row r2 d)]/\iO o/\c8 row/\c8 r2/\fT d/\R (.bl true) M
theorem oJ(F:Fun K "_law_taken" "_law_taken" iF f fd)(T:Txt mg)(gb6:FnD P w K mg base "holds" 10 2 lF):aK P w K mg base CX0 11 f fd ["_law_claim","_law_paper","_law_due"] (spD K 3 lP):=by
 have nd:=ke.nd;refine F.okR rfl ke (λcdv A outer s H E hr=>⟨_,(ak (aI (i:=3) nd rfl (D8 rfl) (qd gb6 hr (ae (aa 0) (ae (aa 1) ah))))
   (am (az (bj (bC (Tn:="bool") (by decide) rfl T.b_isinstance rfl T.b_bool (by kernel_rfl) (aa 3)) (bK (cb (cC hr.units) (aa 3) (aa 2) nbh)))))),λds M R _ hS bk=>?_⟩)
 obtain⟨o,row,r2,d,rfl,ho,h1,h2,hd,k⟩:=hS;refine bk ?_;clear bk;walk_at"";refine⟨o,row,r2,d,rfl,ho,h1,h2,hd,?_⟩;walk_at"";simp only[beq_self_eq_true];exact k
def Shp(d:D):Prop:=∃(s:Str) (i:Int) (r:List D),d=.tup (.str s::.int i::r)/\s.length<=10/\(∀e∈r,ai e=true)/\r.length<=2/\cq r 58=true
theorem Shp.good{d:D}(h:Shp d):ai d=true:=by
 obtain⟨s,i,r,rfl,hs,hr,_⟩:=h;simp only[ai,aS,B8,decide_eq_true_eq];exact⟨by lia,trivial,aX.mpr hr⟩
theorem Shp.deep{es:List D}(h:∀d∈es,Shp d):dLe (.tup es) 60=true:=by
 have:cq es 59=true:=by
  rw[gD];intro d hd;obtain⟨s,i,r,rfl,_,_,_,h3⟩:=h d hd;show cq (.str s::.int i::r) 58=true;simp only[cq,dLe,E8];exact h3
 exact this
theorem tH{es:List D}:eqD (.tup es) (.tup [])=decide (es=[]):=by
 simp only[eqD];cases es<;>simp[cx]
theorem uC{es:List D}(h:dLe (.tup es) 60=true):eqF (.tup es) (.tup [])=some (.bl (decide (es=[]))):=by
 have h2:dLe (.tup []) 60=true:=rfl;simp only[eqF,h,h2,and_self,if_true,tH]
theorem mN{es:List D}(h:dLe (.tup es) 60=true):neF (.tup es) (.tup [])=some (.bl (!decide (es=[]))):=by
 have h2:dLe (.tup []) 60=true:=rfl;simp only[neF,h,h2,and_self,if_true,tH]
theorem xt{ns:List Int}:neF (.lst (ns.map D.int)) (.lst [])=some (.bl (!decide (ns=[]))):=by
 have h1:cq (ns.map D.int) 59=true:=by
  rw[gD];intro d hd;obtain⟨x,_,rfl⟩:=R3.mp hd;rfl
 have h2:dLe (.lst (ns.map D.int)) 60=true:=h1;have h3:dLe (.lst []) 60=true:=rfl;simp only[neF,h2,h3,and_self,if_true,eqD];cases ns with
 |nil=>rfl
 |cons a r=>simp[cx]
theorem vV:(D3 "cancel").length<=10:=by decide +kernel
theorem zH:(D3 "order").length<=10:=by decide +kernel
theorem yL:(D3 "grow").length<=10:=by decide +kernel
def RowW(ws:List Str)(row:List (Str×Int)):Prop:=∀x∈row,eO x
def fX:SpD:=λds M R=>∃(o:List (Str×Str)) (ws:List Str) (row:List (Str×Int)) (n:Int),ds=[.tup (o.map ax),.lst (ws.map D.str),.tup (row.map ao),.int n]/\0<=n/\ws≠[]/\ws.length<=8/\(∀w∈ws,cz w)/\row.length<=60/\∀d,Shp d->R d M
theorem jD(F:Fun K "_law_some_step" "_law_some_step" dq f fd)(T:Txt mg):aK P w K mg base CX0 1 f fd ["_law_order_here","_law_marks","_law_row","_law_number"] (spD K 4 fX):=by
 have nd:=eR.nd;refine F.okR rfl eR (λcdv A outer s H E hr=>⟨_,(ak (aI (i:=4) nd rfl (D8 rfl) (au aY (au dh (aa 3) ag) (au aH (aA ba rfl T.b_len (by kernel_rfl) (ae (aa 2) ah)) ag)))
   (ak (aI (i:=5) nd rfl (D8 rfl) (aw av (aa 1) (au aY (au dh (aa 3) ag) (aA ba rfl T.b_len (by kernel_rfl) (ae (aa 1) ah))) (λ_ _=>rfl)))
   (ak (aI (i:=6) nd rfl (D8 rfl) (aw av (aa 1) (au aY (au dh (aa 3) ag) (aA ba rfl T.b_len (by kernel_rfl) (ae (aa 1) ah))) (λ_ _=>rfl)))
   (ak (aI (i:=7) nd rfl (D8 rfl) (aw av (cX (ae ag (ae ag (ae (nM nu ag) (ae (nM nu ag) ah))))) (au aY (au dh (aa 3) ag) ag) (λ_ _=>rfl)))
   (ak (aP (dO (bx (aG (cC hr.units) (au aY (aa 3) ag) ag nbh) (bV (aG (qU hr.units) (aa 2) (aV ah) nbh)))) (am (az (aV (ae b7 (ae (au aY (aa 4) (aA ba rfl T.b_len (by kernel_rfl) (ae (aa 2) ah))) ah))))) aD)
   (ak (aP (dO (bx (aG (cC hr.units) (au aY (aa 3) ag) ag nbh) (bV (aG (qU hr.units) (aa 2) (aV ah) nbh)))) (am (az (aV (ae b7 (ae (au aY (aa 4) (aA ba rfl T.b_len (by kernel_rfl) (ae (aa 2) ah))) (ae (aa 5) ah)))))) aD)
   (am (az (aV (ae b7 (ae (aa 4) (ae (aV (ae (aa 5) (ae (au aH (aa 7) ag) ah))) (ae (aV (ae (aa 6) (ae (aa 7) ah))) ah))))))))))))),λds M R _ hS bk=>?_⟩)
 obtain⟨o,ws,row,n,rfl,hn,hw,hwl,hW,hrl,k⟩:=hS;refine bk ?_;clear bk;walk_at"";have hwp:=M6.mpr hw;rw[A5,A5];obtain⟨m1,hm1,f1⟩:=fE (gb:=ws) (v:=n / 40 % ws.length) (Q9 _ (by lia)) (N2 _ (by lia));obtain⟨m2,hm2,f2⟩:=fE (gb:=ws) (v:=n / 160 % ws.length) (Q9 _ (by lia)) (N2 _ (by lia));obtain⟨u,hu,f3⟩:=mK (l:=[0,1,-1,-2]) (v:=n / 640 % 4) (by lia) (by simp;lia);have g1:ai (.str m1)=true:=gU (cf (hW _ hm1));refine⟨_,if_pos (by lia),_,if_pos (by lia),_,f1,_,if_pos (by lia),_,f2,sz3 4,_,f3,?_⟩;have fin:∃z,i7 (rdM M (D.int u)) (D.int 1)=some z/\2<=A4/\2<=A4/\4<=A4/\R (D.tup [D.str (D3 "grow"),D.int (n / 4 % (row.length+1)),D.tup [D.str m1,z],D.tup [D.str m2,D.int u]]) M:=by
  refine⟨_,rfl,sz3 2,sz3 2,sz3 4,k _ ⟨_,_,_,rfl,yL,λe he=>?_,by simp,rfl⟩⟩;rcases B9.mp he with rfl|he
  ·exact ib (x:=(m1,u+1)) (cf (hW _ hm1))
  ·rw[A8.mp he];exact ib (x:=(m2,u)) (cf (hW _ hm2))
 have mid:if(n % 4==1)=true then 0<=A4/\∃z,neF (D.tup (row.map ao)) (D.tup [])=some z/\∃k,z=D.bl k/\if k=true then ∃z_7,iOp (λi j=>if 0<j then some (D.int (i % j))else none) (rdM M (D.int (n / 4 % (row.length+1)))) (D.int row.length)=some z_7/\3<=A4/\R (D.tup [D.str (D3 "order"),z_7,D.str m1]) M
   else ∃z,i7 (rdM M (D.int u)) (D.int 1)=some z/\2<=A4/\2<=A4/\4<=A4/\R (D.tup [D.str (D3 "grow"),D.int (n / 4 % (row.length+1)),D.tup [D.str m1,z],D.tup [D.str m2,D.int u]]) M
   else ∃z,i7 (rdM M (D.int u)) (D.int 1)=some z/\2<=A4/\2<=A4/\4<=A4/\R (D.tup [D.str (D3 "grow"),D.int (n / 4 % (row.length+1)),D.tup [D.str m1,z],D.tup [D.str m2,D.int u]]) M:=by
  refine aM (λh=>⟨sz3 0,_,mN jf,_,rfl,aM (λh2=>?_) (λ_=>fin)⟩) (λ_=>fin);have hne:0<row.length:=M6.mpr (by rintro rfl;simp at h2);refine⟨_,if_pos (by lia),sz3 3,k _ ⟨_,_,_,rfl,zH,λe he=>?_,by simp,rfl⟩⟩;rw[A8.mp he];exact g1
 refine aM (λh=>⟨sz3 0,_,mN jf,_,rfl,aM (λh2=>?_) (λ_=>mid)⟩) (λ_=>mid);have hne:0<row.length:=M6.mpr (by rintro rfl;simp at h2);exact⟨_,if_pos (by lia),sz3 2,k _ ⟨_,_,_,rfl,vV,λe he=>absurd he (by simp),by simp,rfl⟩⟩
def nQ:SpD:=λds M R=>∃(o:List (Str×Str)) (ws:List Str) (row:List (Str×Int)) (xs:List Int),ds=[.tup (o.map ax),.lst (ws.map D.str),.tup (row.map ao),.lst (xs.map D.int)]/\(∀x∈xs,0<=x)/\xs.length<=9/\o.length<=8/\ws≠[]/\ws.length<=8/\(∀w∈ws,cz w)/\row.length<=30/\(∀x∈row,eO x)/\
 ∀(es:List D) (r:List (Str×Int)),es.length<=9->(∀d∈es,Shp d)->c8 r->r.length<=59->R (.tup [.tup es,.tup (r.map ao)]) M
theorem cm.signs{o:List (Str×Str)}{row:List (Str×Int)}{d:D}{c:Chg}(h:cm o row d c)(hr:∀x∈row,eO x):∀x∈apC row c,eO x:=by
 have hp:∀x∈c.2.2,eO x:=by
  rcases h with⟨i,x,y,_,_,_,_,rfl⟩|⟨i,m,x,_,h,hm,_,rfl⟩|⟨i,x,y,_,_,h1,h2,_,_,rfl⟩
  ·intro z hz;cases hz
  ·intro z hz;rw[A8.mp hz];exact⟨hm,(hr x (F5 h)).2⟩
  ·intro z hz;rcases B9.mp hz with rfl|hz
   ·exact h1
   ·rw[A8.mp hz];exact h2
 intro x hx;unfold apC at hx;rcases C0.mp hx with hx|hx
 ·rcases C0.mp hx with hx|hx
  ·exact hr x (L5 hx)
  ·exact hp x hx
 ·exact hr x (Q3 hx)
theorem qI(F:Fun K "_law_walk" "_law_walk" gF f fd)(T:Txt mg)(ga6:FnD P w K mg base "_law_some_step" 1 4 fX)(G6:FnD P w K mg base "_law_step_gone" 4 3 dv)(Y5:FnD P w K mg base "_law_cancel" 2 3 gu):aK P w K mg base CX0 5 f fd ["_law_order_here","_law_marks","_law_row","_law_numbers_here"] (spD K 4 nQ):=by
 have nd:=kY.nd;refine F.okR rfl kY (λcdv A outer s H E hr=>⟨_,(ak (aI (i:=4) nd rfl (D8 rfl) (gm ah))
   (ak (eM F8 rfl (cn (aa 3)) (a7 (i:=5) nd rfl (D8 rfl)) (ak (vA (i:=6) nd rfl rfl rfl (ms:=[true,false,true,false,false,false,false,false,false]) (ay:=["_law_k"]) (cK rfl (show cW (aj gF) jq _ _=true from by decide +kernel)) rfl (jh rfl T.b_range (ae (au lu (aA ba rfl T.b_len (by kernel_rfl) (ae (aa 2) ah)) ag) ah)) (fM (i:=9) (show(jq++_).Nodup from by decide +kernel) rfl rfl) (λ_ _ _ _=>(xV (aJ (qd Y5 hr (ae (aa 0) (ae (aw av (aa 2) (aa 9) (λ_ _=>rfl)) (ae (aw av (aa 2) (au aH (aa 9) ag) (λ_ _=>rfl)) ah))))))) (λ_ _ _ _=>(aa 9)))
   (ak (aI (i:=7) nd rfl (D8 rfl) (qd ga6 hr (ae (aa 0) (ae (aa 1) (ae (aa 2) (ae (aa 5) ah))))))
   (ak (aP (dO (bx (aG (qU hr.units) (aa 6) (cX ah) nbh) (bV (aG l8 (au aY (aa 5) ag) ag nbh)))) (am (aI (i:=7) nd rfl (D8 rfl) (aV (ae b7 (ae (aw av (aa 6) (au aY (au dh (aa 5) ag) (aA ba rfl T.b_len (by kernel_rfl) (ae (aa 6) ah))) (λ_ _=>rfl)) ah))))) aD)
   (ak (aI (i:=8) nd rfl (D8 rfl) (qd G6 hr (ae (aa 0) (ae (aa 2) (ae (aa 7) ah)))))
   (ak (aP (dO (e9 (aG pS (aa 8) c7 nbh) (eh (aG (cC hr.units) (au aY (aa 5) ag) ag nbh)))) (am (fb (iV (aa 4) (aa 7)))) aD)
   (am (aP (aG pS (aa 8) c7 nbh) (am (aI (i:=2) nd rfl (Z8 rfl) (aa 8))) aD))))))))
   (am (oX (aV (ae (dD jd rfl T.b_tuple (by kernel_rfl) (ae (aa 4) ah)) (ae (aa 2) ah))))))),λds M R _ hS bk=>?_⟩)
 obtain⟨o,ws,row,xs,rfl,hx,hxl,ho,hw,hwl,hW,hrl,hrow,k⟩:=hS;refine bk ?_;clear bk;walk_at"";refine⟨sz3 0,λp hp hz=>?_⟩;refine bf (λi Δ M'=>∃(es:List D) (r:List (Str×Int)) (x5 x6 x7 x8:Option D),Δ=[some (.tup (o.map ax)),some (.lst (ws.map D.str)),some (.tup (r.map ao)),some (.lst (xs.map D.int)),some (.ref p),x5,x6,x7,x8]/\M'=bt M p (.lst es)/\es.length<=i/\(∀d∈es,Shp d)/\r.length<=row.length+2*i/\∀x∈r,eO x) ⟨[],row,none,none,none,none,rfl,rfl,B6 _,(λ_ h=>by cases h),B6 _,hrow⟩ ?_ ?_
 ·rintro i d Δ M' X hd ⟨es,r,x5,x6,x7,x8,rfl,rfl,hel,hes,hr',hrr⟩ k';obtain⟨n,hn,rfl⟩:=gP hd;have hi:i<xs.length:=(A7.mp hn).1;have hn0:0<=n:=hx n (F5 hn);refine⟨_,rfl,?_⟩;refine aR (λΔ' M2=>(∃ns:List Int,Δ'=[some (.tup (o.map ax)),some (.lst (ws.map D.str)),some (.tup (r.map ao)),some (.lst (xs.map D.int)),some (.ref p),some (.int n),some (.lst (ns.map D.int)),x7,x8]/\ns.length<=100)/\M2=bt M p (.lst es)) (λnx knx=>?_) ?_
  ·walk_at"";rw[A5];have en:((r.length:Int)-1).toNat=r.length-1:=by lia
   rw[en];refine⟨by lia,by lia,by rw[ft];exact sz3 _ (by lia),?_⟩;refine nW (λj acc Δ M'=>∃(z:Option D) (ns:List Int),Δ=[some (.tup (o.map ax)),none,some (.tup (r.map ao)),none,none,none,none,none,none,z]/\M'=bt M p (.lst es)/\acc=ns.map D.int/\ns.length<=j) ⟨none,[],rfl,rfl,rfl,B6 _⟩ ?_ ?_
   ·rintro j d acc Δ M' X2 hd2 ⟨z,ns,rfl,rfl,rfl,hnl⟩ k2;obtain⟨hj,rfl⟩:=fD hd2;obtain⟨x,h0⟩:∃x,r[j]?=some x:=⟨_,C4 (by lia)⟩;obtain⟨y,h1⟩:∃y,r[j+1]?=some y:=⟨_,C4 (by lia)⟩;have hy':atI (r.map ao) (0+(j:Int)+1)=some (ao y):=by rw[show(0:Int)+(j:Int)+1=((j+1:Nat):Int)by lia];exact df h1
    have hx':atI (r.map ao) (0+(j:Int))=some (ao x):=by rw[show(0:Int)+(j:Int)=(j:Int)by lia];exact df h0
    refine⟨_,rfl,?_⟩;walk_at"";refine⟨_,hx',_,hy',o,x,y,rfl,by lia,?_⟩;walk_at"";refine aM (λh=>?_) (λh=>?_)
    ·exact k2 _ _ _ ⟨_,ns++[(0+(j:Int))],rfl,rfl,by simp,by simp;lia⟩
    ·exact k2 _ _ _ ⟨_,ns,rfl,rfl,rfl,by lia⟩
   ·rintro acc Δ M' ⟨z,ns,rfl,rfl,rfl,hnl⟩;rw[ft]at hnl;exact knx _ _ ⟨⟨ns,rfl,by lia⟩,rfl⟩
  rintro _ _ ⟨⟨ns,rfl,hnl⟩,rfl⟩;refine aR (λΔ' M2=>(∃d,Shp d/\Δ'=[some (.tup (o.map ax)),some (.lst (ws.map D.str)),some (.tup (r.map ao)),some (.lst (xs.map D.int)),some (.ref p),some (.int n),some (.lst (ns.map D.int)),some d,x8])/\M2=bt M p (.lst es)) (λnx knx=>?_) ?_
  ·walk_at"";exact⟨o,ws,r,n,rfl,hn0,hw,hwl,hW,by lia,λd hd=>knx _ _ ⟨⟨d,hd,rfl⟩,rfl⟩⟩
  rintro _ _ ⟨⟨d,hd,rfl⟩,rfl⟩;refine aR (λΔ' M2=>(∃d,Shp d/\Δ'=[some (.tup (o.map ax)),some (.lst (ws.map D.str)),some (.tup (r.map ao)),some (.lst (xs.map D.int)),some (.ref p),some (.int n),some (.lst (ns.map D.int)),some d,x8])/\M2=bt M p (.lst es)) (λnx knx=>?_) ?_
  ·walk_at"";refine⟨sz3 0,_,xt,_,rfl,aM (λh=>aM (λh2=>?_) (λ_=>knx _ _ ⟨⟨d,hd,rfl⟩,rfl⟩)) (λ_=>knx _ _ ⟨⟨d,hd,rfl⟩,rfl⟩)⟩;have hne:0<ns.length:=M6.mpr (by simpa using h);rw[A5];obtain⟨u,hu,f1⟩:=mK (l:=ns) (v:=n / 5 % ns.length) (Q9 _ (by lia)) (N2 _ (by lia));exact⟨_,if_pos (by lia),_,f1,sz3 2,knx _ _ ⟨⟨_,⟨_,_,_,rfl,vV,λe he=>absurd he (by simp),by simp,rfl⟩,rfl⟩,rfl⟩⟩
  rintro _ _ ⟨⟨d,hd,rfl⟩,rfl⟩;have hst:∀c,stO o r d=some c->(apC r c).length<=row.length+2*(i+1)/\∀x∈apC r c,eO x:=λc hc=>⟨by have:=(mE hc).ap;lia,(mE hc).signs hrr⟩;have hln:es.length<A4:=B5 (by lia:es.length<1000) (sz3 1000);have hap:∀e∈es++[d],Shp e:=λe he=>by
   rcases C0.mp he with h|h
   ·exact hes e h
   ·rw[A8.mp h];exact hd
  walk_at"";refine⟨o,r,d,rfl,hd.good,by lia,by lia,?_⟩;cases hc:stO o r d with
  |none =>
   simp only[Option.map_none,lgD];walk_at"";simp only[jP,Bool.xor_self,B0,if_false];refine aM (λh=>⟨hln,?_⟩) (λh=>?_)
   ·exact k' _ _ ⟨es++[d],r,_,_,_,_,rfl,rfl,by simp;lia,hap,by lia,hrr⟩
   ·exact k' _ _ ⟨es,r,_,_,_,_,rfl,rfl,by lia,hes,by lia,hrr⟩
  |some c =>
   obtain⟨h1,h2⟩:=hst c hc;simp only[Option.map_some,lgD];walk_at"";simp only[jP,Bool.xor_false,if_true];exact⟨hln,k' _ _ ⟨es++[d],apC r c,_,_,_,_,rfl,rfl,by simp;lia,hap,h1,h2⟩⟩
 ·rintro Δ M' ⟨es,r,x5,x6,x7,x8,rfl,rfl,hel,hes,hr',hrr⟩;rw[A5]at hel hr';walk_at"";exact⟨sz3 2,_,je hp,k es r (by lia) hes ⟨by lia,hrr⟩ (by lia)⟩
def nA:SpD:=λds M R=>∃(es:List D) (n:Int),ds=[.tup es,.int n]/\0<=n/\es.length<=9/\(∀d∈es,Shp d)/\∀d,fT d->R d M
theorem Shp.tail{r:List D}(h:∀e∈r,ai e=true){x y:D}(hx:ai x=true)(hy:ai y=true):aS (x::y::r)=true:=by
 simp only[aS,hx,hy,E8];exact aX.mpr h
theorem mv{l:List D}{v:Int}(h0:0<=v)(h1:v<(l.length:Int)):∃d∈l,atI l v=some d:=by
 obtain⟨n,rfl⟩:=L1 h0;have hn:n<l.length:=by lia
 exact⟨l[n],N4 hn,bp (by simp[hn])⟩
theorem rg(F:Fun K "_law_bent" "_law_bent" jI f fd)(T:Txt mg):aK P w K mg base CX0 1 f fd ["_law_walk_here","_law_number"] (spD K 2 nA):=by
 have nd:=lO.nd;refine F.okR rfl lO (λcdv A outer s H E hr=>⟨_,(ak (aP (aG (cC hr.units) (aa 0) (aV ah) nbh) (am (az (aw av (cX (ae (cX ah) (ae c7 (ae (aV (ae (aV (ae b7 (ae ag ah))) ah)) (ae (aV (ae b7 (ae ag ah))) ah))))) (au aY (aa 1) ag) (λ_ _=>rfl)))) aD)
   (ak (aI (i:=2) nd rfl (D8 rfl) (au aY (au dh (aa 1) ag) (aA ba rfl T.b_len (by kernel_rfl) (ae (aa 0) ah))))
   (ak (aI (i:=3) nd rfl (D8 rfl) (aw av (aa 0) (aa 2) (λ_ _=>rfl)))
   (ak (aI (i:=4) nd rfl (D8 rfl) (au aY (aa 1) ag))
   (ak (aI (i:=5) nd rfl (D8 rfl) (cX (ae (au aH (aV (ae (aw av (aa 3) ag (λ_ _=>rfl)) (ae (au aH (aw av (aa 3) ag (λ_ _=>rfl)) ag) ah))) (aE (aa 3) (aF ag) aQ)) (ae (au aH (aV (ae (aw av (aa 3) ag (λ_ _=>rfl)) (ae ko ah))) (aE (aa 3) (aF ag) aQ)) (ae (au aH (aa 3) (aV (ae ag ah))) ah)))))
   (ak (aI (i:=5) nd rfl (D8 rfl) (au aH (aa 5) (cX (ae (dD sX rfl T.b_list (by kernel_rfl) (ae (aa 3) ah)) (ae (aE (aa 3) aQ (aF ag)) (ae (au aH (aV (ae b7 ah)) (aE (aa 3) (aF ag) aQ)) ah))))))
   (ak (aP (aG l8 (aa 4) ag nbh) (am (az (au aH (au aH (aE (aa 0) aQ (aF (aa 2))) (aV (ae (aw av (aa 5) (aa 4) (λ_ _=>rfl)) ah))) (aE (aa 0) (aF (au aH (aa 2) ag)) aQ)))) aD)
   (am (az (aw av (cX (ae (au aH (aE (aa 0) aQ (aF (aa 2))) (aE (aa 0) (aF (au aH (aa 2) ag)) aQ)) (ae (au aH (aE (aa 0) aQ (aF (au aH (aa 2) ag))) (aE (aa 0) (aF (aa 2)) aQ)) (ae (tR (aa 0) (nM nu ag)) (ae (dD sX rfl T.b_list (by kernel_rfl) (ae (aa 0) ah)) ah))))) (au lu (aa 4) ag) (λ_ _=>rfl))))))))))),λds M R _ hS bk=>?_⟩)
 obtain⟨es,n,rfl,hn,hl,hes,k⟩:=hS;refine bk ?_;clear bk;refine aR (λΔ' M'=>(es≠[]/\Δ'=[some (.tup es),some (.int n),none,none,none,none])/\M=M') (λnx k'=>?_) ?_
 ·walk_at"";refine⟨sz3 0,_,uC (Shp.deep hes),_,rfl,aM (λh=>⟨sz3 0,sz3 2,sz3 1,sz3 2,sz3 4,?_⟩) (λh=>k' _ _ ⟨⟨by simpa using h,rfl⟩,rfl⟩)⟩;obtain⟨d,hd,e⟩:=mv (l:=[D.lst [],D.non,D.tup [D.tup [D.str (D3 "cancel"),D.int 0]],D.tup [D.str (D3 "cancel"),D.int 0]]) (v:=n % 4) (by lia) (by simp;lia);refine⟨_,e,k d ?_⟩;have hc:decide ((D3 "cancel").length<=1000000)=true:=by decide +kernel
  simp only[B9,V5,or_false]at hd;rcases hd with rfl|rfl|rfl|rfl
  ·exact⟨rfl,λes e=>by cases e⟩
  ·exact⟨rfl,λes e=>by cases e⟩
  ·exact⟨by simp only[ai,aS,hc,V8],λes e=>by cases e;simp⟩
  ·exact⟨by simp only[ai,aS,hc,V8],λes e=>by cases e;simp⟩
 rintro _ _ ⟨⟨hne,rfl⟩,rfl⟩;have hlp:=M6.mpr hne;obtain⟨at_,hat⟩:∃a:Nat,n / 10 % (es.length:Int)=a:=⟨(n / 10 % (es.length:Int)).toNat,by have:=Q9 (n / 10) (by lia:(es.length:Int)≠0);lia⟩;have hatl:at_<es.length:=by have:=N2 (n / 10) (by lia:(0:Int)<es.length);lia
 obtain⟨s,i,r,hst,hs,hr,hrl,hrd⟩:=hes _ (N4 hatl);have hsg:ai (.str s)=true:=by simp only[ai,decide_eq_true_eq];lia
 have eat:atI es (at_:Int)=some (.tup (.str s::.int i::r)):=by rw[<-hst];exact bp (by simp[hatl])
 refine aR (λΔ' M'=>Δ'=[some (.tup es),some (.int n),some (.int at_),none,none,none]/\M=M') (λnx k'=>?_) ?_
 ·walk_at"";refine⟨_,if_pos (by lia),?_⟩;rw[hat];exact k' _ _ ⟨rfl,rfl⟩
 rintro _ _ ⟨rfl,rfl⟩;refine aR (λΔ' M'=>Δ'=[some (.tup es),some (.int n),some (.int at_),some (.tup (.str s::.int i::r)),none,none]/\M=M') (λnx k'=>?_) ?_
 ·walk_at"";exact⟨_,eat,k' _ _ ⟨rfl,rfl⟩⟩
 rintro _ _ ⟨rfl,rfl⟩;have ed:L2.bP (.str s::.int i::r) (some 2) none=r:=bI (n:=2);have ed1:L2.bP (.str s::.int i::r) (some 1) none=.int i::r:=bI (n:=1);have et1:L2.bP (.str s::.int i::r) none (some 1)=[.str s]:=gn (n:=1);refine aR (λΔ' M'=>Δ'=[some (.tup es),some (.int n),some (.int at_),some (.tup (.str s::.int i::r)),some (.int (n % 10)),none]/\M=M') (λnx k'=>?_) ?_
 ·walk_at"";exact k' _ _ ⟨rfl,rfl⟩
 rintro _ _ ⟨rfl,rfl⟩;refine aR (λΔ' M'=>(∃od:List D,Δ'=[some (.tup es),some (.int n),some (.int at_),some (.tup (.str s::.int i::r)),some (.int (n % 10)),some (.lst od)]/\od.length=3/\∀d∈od,ai d=true)/\M=M') (λnx k'=>?_) ?_
 ·walk_at"";simp only[ed];refine⟨sz3 2,_,if_pos (sz3 _ (by lia)),sz3 2,_,if_pos (sz3 _ (by lia)),sz3 1,_,if_pos (sz3 _ (by lia)),sz3 3,k' _ _ ⟨⟨_,rfl,rfl,λd hd=>?_⟩,rfl⟩⟩;simp only[B9,V5,or_false]at hd;rcases hd with rfl|rfl|rfl
  ·exact Shp.tail hr hsg rfl
  ·exact Shp.tail hr hsg rfl
  ·have h0:∀e∈r++[D.int 0],ai e=true:=λe he=>by
    rcases C0.mp he with h|h
    ·exact hr e h
    ·rw[A8.mp h];rfl
   exact Shp.tail (y:=.int i) h0 hsg rfl
 rintro _ _ ⟨⟨od,rfl,ho1,ho2⟩,rfl⟩;refine aR (λΔ' M'=>(∃od:List D,Δ'=[some (.tup es),some (.int n),some (.int at_),some (.tup (.str s::.int i::r)),some (.int (n % 10)),some (.lst od)]/\od.length=6/\∀d∈od,ai d=true)/\M=M') (λnx k'=>?_) ?_
 ·walk_at"";simp only[ed1,et1];refine⟨_,rfl,sz3 1,_,if_pos (by rw[N3];exact sz3 _ (by lia)),sz3 3,_,if_pos (by rw[ho1];exact sz3 6),k' _ _ ⟨⟨_,rfl,by simp[ho1],λd hd=>?_⟩,rfl⟩⟩;have hcs:ai (.str (D3 "cancels"))=true:=by decide +kernel
  rcases C0.mp hd with h|h
  ·exact ho2 d h
  ·simp only[B9,V5,or_false]at h;rcases h with rfl|rfl|rfl
   ·exact Shp.tail (y:=.int i) hr hsg rfl
   ·simp only[ai,aS,aa6];exact hsg
   ·exact Shp.tail (y:=.int i) hr hcs rfl
 rintro _ _ ⟨⟨od,rfl,ho1,ho2⟩,rfl⟩;walk_at"";have ha1:(at_:Int)+1=((at_+1:Nat):Int):=by lia
 rw[ha1];simp only[gn,bI];have hge:∀d∈es,ai d=true:=λd hd=>(hes d hd).good;have pap:∀l:List D,(∀d∈l,ai d=true)->l.length<=30->fT (.tup l):=λl h1 h2=>⟨aX.mpr h1,λes e=>by cases e;exact h2⟩;have hm:∀(a b:Nat) (d:D),d∈es.take a++es.drop b->ai d=true:=λa b d hd=>by
  rcases C0.mp hd with h|h
  ·exact hge d (L5 h)
  ·exact hge d (Q3 h)
 refine aM (λh=>?_) (λh=>?_)
 ·obtain⟨d,hd,e⟩:=mv (l:=od) (v:=n % 10) (by lia) (by rw[ho1];lia);refine⟨_,e,sz3 1,_,if_pos (by rw[D5];exact sz3 _ (by lia)),_,if_pos (by rw[C8,D5,F6];exact sz3 _ (by simp;lia)),k _ (pap _ (λz hz=>?_) (by simp;lia))⟩;rcases C0.mp hz with h|h
  ·rcases C0.mp h with h|h
   ·exact hge z (L5 h)
   ·rw[A8.mp h];exact ho2 d hd
  ·exact hge z (Q3 h)
 ·refine⟨_,if_pos (by rw[D5,F6];exact sz3 _ (by lia)),_,if_pos (by rw[D5,F6];exact sz3 _ (by lia)),_,rfl,sz3 4,?_⟩;obtain⟨d,hd,e⟩:=mv (l:=[D.tup (es.take at_++es.drop (at_+1)),D.tup (es.take (at_+1)++es.drop at_),D.tup es.reverse,D.lst es]) (v:=n % 10-6) (by lia) (by simp;lia);refine⟨_,e,k d ?_⟩;simp only[B9,V5,or_false]at hd;rcases hd with rfl|rfl|rfl|rfl
  ·exact pap _ (hm _ _) (by simp;lia)
  ·exact pap _ (hm _ _) (by simp;lia)
  ·exact pap _ (λd hd=>hge d (List.mem_reverse.mp hd)) (by simp;lia)
  ·exact⟨aX.mpr hge,λ_ e=>by cases e⟩
def S_law:SpD:=λds M R=>∃ns:List Int,ds=[.scr (ns.map D.int)]/\M=noM/\ns.length<=63/\∀M',R (.bl true) M'
theorem ir.cut{n:Nat}{xs:List Int}(h:ir n xs)(a b:Nat)(hab:a<=b)(hb:b<=n):∃ys:List Int,L2.bP (xs.map D.int) (some (a:Int)) (some (b:Int))=ys.map D.int/\ir (b-a) ys:=by
 refine⟨(xs.drop a).take (b-a),?_,?_,λx hx=>h.2 x (Q3 (L5 hx))⟩
 ·unfold L2.bP;rw[HT.sIx_nat,HT.sIx_nat,A5,h.1,W8 hb,W8 (by lia:a<=n),<-U6,<-S9]
 ·rw[D5,F6,h.1];lia
def kh(t:List (Str×Int)):D:=.tup (t.map ao)
theorem xk{o:List (Str×Str)}{row t:List (Str×Int)}{d:D}{M:DH}:eqF (rdM M (lgD (match d with|.tup es=>goF o row es|_=>none))) (.tup (t.map ao))=some (.bl (nT o row t d)):=by
 cases d with
 |tup es =>
  simp only[nT];cases goF o row es with
  |none=>exact nY
  |some r =>
   refine(pU (a:=r) (b:=t)).trans ?_;simp
 |_=>exact nY
theorem pZ{ws:List Str}(hW:∀w∈ws,cz w){s:Str×Int}(h1:s.1∈ws)(h2:-2<=s.2)(h3:s.2<=2):eO s:=⟨cf (hW _ h1),by lia,by lia⟩
theorem xI(F:Fun K "law" "law" qh f fd)(T:Txt mg)(ga0:FnD P w K mg base "_law_numbers" 1 3 iM)(gb7:FnD P w K mg base "_law_names" 1 1 lG)(gb9:FnD P w K mg base "_law_order" 1 2 k9)(gc1:FnD P w K mg base "_law_walk" 5 4 nQ)(gb4:FnD P w K mg base "_law_sign" 1 2 n4)(gc2:FnD P w K mg base "_law_bent" 1 2 nA)(gb8:FnD P w K mg base "_law_taken" 11 3 lP)(gc4:FnD P w K mg base "_law_gone" 5 3 nq):aK P w K mg base CX0 12 f fd ["_law_script"] (spD K 1 S_law):=by
 have nd:=tm.nd;refine F.okR rfl tm (λcdv A outer s H E hr=>⟨_,(ak (aI (i:=1) nd rfl (D8 rfl) (qd ga0 hr (ae (aa 0) (ae ag (ae ag ah)))))
   (ak (aI (i:=2) nd rfl (Z8 rfl) (qd gb7 hr (ae (aE (aa 1) aQ (aF (au aH ag (au aY (aw av (aa 1) ag (λ_ _=>rfl)) ag)))) ah)))
   (ak (aI (i:=3) nd rfl (D8 rfl) (qd gb9 hr (ae (aE (aa 1) (aF ag) (aF ag)) (ae (aa 2) ah))))
   (ak (aI (i:=4) nd rfl (D8 rfl) (dD jd rfl T.b_tuple (by kernel_rfl) (ae (rQ (ms:=[false,false,true,false,false,false,false,false,false,false,false,false,false]) (ay:=["_law_number"]) (cK rfl (show cW (aj qh) rV _ _=true from by decide +kernel)) rfl (cn (aE (aa 1) (aF ag) (aF (au aH ag (au aY (aw av (aa 1) ag (λ_ _=>rfl)) ag))))) (fM (i:=13) (show(rV++_).Nodup from by decide +kernel) rfl rfl) (λ_ _ _ _=>jk) (λ_ _ _ _=>(qd gb4 hr (ae (aa 13) (ae (aa 2) ah))))) ah)))
   (ak (eM F8 rfl (va rfl T.b_range (ae ag (ae ag ah))) (a7 (i:=5) nd rfl (D8 rfl)) (ak (aI (i:=6) nd rfl (D8 rfl) (qd ga0 hr (ae (aa 0) (ae (aa 5) (ae ag ah)))))
   (ak (rG (qd gc1 hr (ae (aa 3) (ae (aa 2) (ae (aa 4) (ae (aE (aa 6) (aF ag) (aF (au aH ag (au aY (aw av (aa 6) ag (λ_ _=>rfl)) ag)))) ah))))) (lw rfl (bU (a7 (i:=7) nd rfl (D8 rfl)) (bU (a7 (i:=8) nd rfl (D8 rfl)) lD))))
   (ak (aI (i:=9) nd rfl (D8 rfl) (cX (ae (aa 8) (ae (au aH (aE (aa 8) (aF ag) aQ) (aE (aa 8) aQ (aF ag))) ah))))
   (ak (aP (aG (cC hr.units) (au aY (aw av (aa 6) ag (λ_ _=>rfl)) ag) ag nbh) (am (aI (i:=9) nd rfl (D8 rfl) (cX (ae (aa 8) (ae (au aH (aa 8) (aV (ae (qd gb4 hr (ae (aw av (aa 6) ag (λ_ _=>rfl)) (ae (aa 2) ah))) ah))) ah))))) aD)
   (ak (aI (i:=10) nd rfl (D8 rfl) (gm (ae (aa 7) (ae (qd gc2 hr (ae (aa 7) (ae (aw av (aa 6) ag (λ_ _=>rfl)) ah))) ah))))
   (ak (aP (aG (qU hr.units) (aa 7) (aV ah) nbh) (am (fb (iV (aa 10) (au aH (aV (ae (au aH (aV (ae (aw av (aw av (aa 7) ag (λ_ _=>rfl)) ag (λ_ _=>rfl)) (ae (au lu (aw av (aw av (aa 7) ag (λ_ _=>rfl)) ag (λ_ _=>rfl)) (aA ba rfl T.b_len (by kernel_rfl) (ae (aa 4) ah))) ah))) (aE (aw av (aa 7) ag (λ_ _=>rfl)) (aF ag) aQ)) ah)) (aE (aa 7) (aF ag) aQ))))) aD)
   (vk 10 (am (eM F8 rfl (cn (aa 9)) (a7 (i:=11) nd rfl (D8 rfl)) (am (eM F8 rfl (cn (aa 10)) (a7 (i:=12) nd rfl (D8 rfl)) (am (aP (bY (aJ (qd gb8 hr (ae (aV (ae b7 (ae (aa 3) (ae (aa 4) (ae (aa 11) ah))))) (ae (aa 12) (ae (cb (cC hr.units) (qd gc4 hr (ae (aa 3) (ae (aa 4) (ae (aa 12) ah)))) (aa 11) nbh) ah)))))) (am (az ko)) aD))))))))))))))
   (am (az ko))))))),λds M R _ hS bk=>?_⟩)
 obtain⟨ns,rfl,rfl,hn,k⟩:=hS;refine bk ?_;clear bk;refine aR (λΔ' M'=>(∃xs,ir 17 xs/\Δ'=[some (.scr (ns.map D.int)),some (.lst (xs.map D.int)),none,none,none,none,none,none,none,none,none,none,none])/\noM=M') (λnx k'=>?_) ?_
 ·walk_at"";exact⟨ns,0,17,rfl,by lia,λxs hx=>k' _ _ ⟨⟨xs,hx,rfl⟩,rfl⟩⟩
 rintro _ _ ⟨⟨xs,hx,rfl⟩,rfl⟩;refine aR (λΔ' M'=>(∃ws:List Str,ws≠[]/\ws.length<=8/\(∀w∈ws,cz w)/\Δ'=[some (.scr (ns.map D.int)),some (.lst (xs.map D.int)),some (.lst (ws.map D.str)),none,none,none,none,none,none,none,none,none,none])/\noM=M') (λnx k'=>?_) ?_
 ·obtain⟨x4,e4,b0,b1⟩:=hx.at 4 (by lia);walk_at"";refine⟨_,e4,?_⟩;walk_at"";rw[show 1+x4 % 4=(((1+x4 % 4).toNat:Nat):Int)by lia,gn,<-S9];refine⟨_,rfl,by simp;lia,λx hx'=>(hx.2 x (L5 hx')).1,λws hw hW=>k' _ _ ⟨⟨ws,?_,?_,hW,rfl⟩,rfl⟩⟩
  ·rintro rfl;rw[D5,hx.1]at hw;simp at hw;lia
  ·rw[hw];simp;lia
 rintro _ _ ⟨⟨ws,hw,hwl,hW,rfl⟩,rfl⟩;refine aR (λΔ' M'=>(∃o:List (Str×Str),iO o/\Δ'=[some (.scr (ns.map D.int)),some (.lst (xs.map D.int)),some (.lst (ws.map D.str)),some (.tup (o.map ax)),none,none,none,none,none,none,none,none,none])/\noM=M') (λnx k'=>?_) ?_
 ·walk_at"";obtain⟨ys,ey,hy⟩:=hx.cut 5 12 (by lia) (by lia);refine⟨ys,ws,by rw[show L2.bP (xs.map D.int) (some 5) (some 12)=ys.map D.int from ey],hy,hw,hwl,λo h1 h2=>k' _ _ ⟨⟨o,⟨by lia,λx hx=>⟨cf (hW _ (h2 x hx).1),cf (hW _ (h2 x hx).2)⟩⟩,rfl⟩,rfl⟩⟩
 rintro _ _ ⟨⟨o,ho,rfl⟩,rfl⟩;refine aR (λΔ' M'=>(∃row:List (Str×Int),row.length<=4/\(∀x∈row,eO x)/\Δ'=[some (.scr (ns.map D.int)),some (.lst (xs.map D.int)),some (.lst (ws.map D.str)),some (.tup (o.map ax)),some (.tup (row.map ao)),none,none,none,none,none,none,none,none])/\noM=M') (λnx k'=>?_) ?_
 ·obtain⟨x12,e12,b0,b1⟩:=hx.at 12 (by lia);walk_at"";refine⟨_,e12,?_⟩;walk_at"";obtain⟨ys,ey,hy⟩:=hx.cut 13 (13+(x12 % 5).toNat) (by lia) (by lia);rw[show 13+x12 % 5=((13+(x12 % 5).toNat:Nat):Int)by lia,show L2.bP (xs.map D.int) (some 13) (some ((13+(x12 % 5).toNat:Nat):Int))=ys.map D.int from ey];refine λhz=>⟨hz,?_⟩;refine nW (λj acc Δ M'=>∃(z:Option D) (row:List (Str×Int)),Δ=[none,none,some (.lst (ws.map D.str)),none,none,none,none,none,none,none,none,none,none,z]/\M'=noM/\acc=row.map ao/\row.length=j/\∀x∈row,eO x) ⟨none,[],rfl,rfl,rfl,rfl,(λ_ h=>by cases h)⟩ ?_ ?_
  ·rintro j d acc Δ M' X2 hd2 ⟨z,row,rfl,rfl,rfl,hnl,hro⟩ k2;obtain⟨x,hx',rfl⟩:=gP hd2;refine⟨_,rfl,?_⟩;walk_at"";simp only[w6];walk_at"";refine⟨x,ws,rfl,(hy.2 x (F5 hx')).1,hw,hwl,λs h1 h2 h3=>k2 _ _ _ ⟨_,row++[s],rfl,rfl,by simp,by simp[hnl],λy hy'=>?_⟩⟩;rcases C0.mp hy' with h|h
   ·exact hro y h
   ·rw[A8.mp h];exact pZ hW h1 h2 h3
  ·rintro acc Δ M' ⟨z,row,rfl,rfl,rfl,hnl,hro⟩;rw[A5,hy.1]at hnl;exact k' _ _ ⟨⟨row,by lia,hro,rfl⟩,rfl⟩
 rintro _ _ ⟨⟨row,hrl,hrow,rfl⟩,rfl⟩;have hRow:c8 row:=⟨by lia,hrow⟩;walk_at"";refine⟨1,7,⟨rfl,rfl⟩,⟨by decide,by decide,by decide,by decide⟩,?_⟩;refine bf (λi Δ M'=>∃x5 x6 x7 x8 x9 x10 x11 x12:Option D,Δ=[some (.scr (ns.map D.int)),some (.lst (xs.map D.int)),some (.lst (ws.map D.str)),some (.tup (o.map ax)),some (.tup (row.map ao)),x5,x6,x7,x8,x9,x10,x11,x12]) ⟨none,none,none,none,none,none,none,none,rfl⟩ ?_ ?_
 ·rintro i d Δ M' X hd ⟨x5,x6,x7,x8,x9,x10,x11,x12,rfl⟩ k';obtain⟨hi,rfl⟩:=fD hd;refine⟨_,rfl,?_⟩;refine aR (λΔ' M2=>(∃ys,ir 12 ys/\Δ'=[some (.scr (ns.map D.int)),some (.lst (xs.map D.int)),some (.lst (ws.map D.str)),some (.tup (o.map ax)),some (.tup (row.map ao)),some (.int (1+(i:Int))),some (.lst (ys.map D.int)),x7,x8,x9,x10,x11,x12])/\M'=M2) (λnx knx=>?_) ?_
  ·walk_at"";exact⟨ns,1+i,12,by simp,by lia,λys hy=>knx _ _ ⟨⟨ys,hy,rfl⟩,rfl⟩⟩
  rintro _ _ ⟨⟨ys,hy,rfl⟩,rfl⟩;obtain⟨y0,f0,b0,b1⟩:=hy.at 0 (by lia);obtain⟨y1,f1,c0,c1⟩:=hy.at 1 (by lia);obtain⟨y2,f2,d0,d1⟩:=hy.at 2 (by lia);refine aR (λΔ' M2=>(∃(es:List D) (r:List (Str×Int)),es.length<=9/\(∀d∈es,Shp d)/\c8 r/\r.length<=59/\Δ'=[some (.scr (ns.map D.int)),some (.lst (xs.map D.int)),some (.lst (ws.map D.str)),some (.tup (o.map ax)),some (.tup (row.map ao)),some (.int (1+(i:Int))),some (.lst (ys.map D.int)),some (.tup es),some (.tup (r.map ao)),x9,x10,x11,x12])/\M'=M2) (λnx knx=>?_) ?_
  ·walk_at"";refine⟨_,f0,?_⟩;walk_at"";obtain⟨zs,ez,hz⟩:=hy.cut 3 (3+(y0 % 9).toNat) (by lia) (by lia);rw[show 3+y0 % 9=((3+(y0 % 9).toNat:Nat):Int)by lia,show L2.bP (ys.map D.int) (some 3) (some ((3+(y0 % 9).toNat:Nat):Int))=zs.map D.int from ez];exact⟨o,ws,row,zs,rfl,λx hx=>(hz.2 x hx).1,by rw[hz.1];lia,ho.1,hw,hwl,hW,by lia,hrow,λes r h1 h2 h3 h4=>⟨_,rfl,knx _ _ ⟨⟨es,r,h1,h2,h3,h4,rfl⟩,rfl⟩⟩⟩
  rintro _ _ ⟨⟨es,r,hel,hes,hr',hr59,rfl⟩,rfl⟩;have hge:∀d∈es,ai d=true:=λd hd=>(hes d hd).good;have pap:∀l:List D,(∀d∈l,ai d=true)->l.length<=30->fT (.tup l):=λl h1 h2=>⟨aX.mpr h1,λes e=>by cases e;exact h2⟩;refine aR (λΔ' M2=>(∃en:List (List (Str×Int)),(∀t∈en,c8 t)/\en.length=2/\Δ'=[some (.scr (ns.map D.int)),some (.lst (xs.map D.int)),some (.lst (ws.map D.str)),some (.tup (o.map ax)),some (.tup (row.map ao)),some (.int (1+(i:Int))),some (.lst (ys.map D.int)),some (.tup es),some (.tup (r.map ao)),some (.lst (en.map kh)),x10,x11,x12])/\M'=M2) (λnx knx=>?_) ?_
  ·walk_at"";rw[show L2.bP (r.map ao) (some 1) none=(r.map ao).drop 1 from bI (n:=1),show L2.bP (r.map ao) none (some 1)=(r.map ao).take 1 from gn (n:=1),<-U6,<-S9,<-L4];refine⟨_,if_pos (by rw[A5,A5,F6,D5];exact sz3 _ (by lia)),sz3 2,knx _ _ ⟨⟨[r,r.drop 1++r.take 1],λt ht=>?_,rfl,rfl⟩,rfl⟩⟩;rcases B9.mp ht with rfl|ht
   ·exact hr'
   ·rw[A8.mp ht];refine⟨by rw[C8,F6,D5];lia,λx hx=>?_⟩;rcases C0.mp hx with h|h
    ·exact hr'.2 x (Q3 h)
    ·exact hr'.2 x (L5 h)
  rintro _ _ ⟨⟨en,hen,hel2,rfl⟩,rfl⟩;refine aR (λΔ' M2=>(∃en:List (List (Str×Int)),(∀t∈en,c8 t)/\en.length=2/\Δ'=[some (.scr (ns.map D.int)),some (.lst (xs.map D.int)),some (.lst (ws.map D.str)),some (.tup (o.map ax)),some (.tup (row.map ao)),some (.int (1+(i:Int))),some (.lst (ys.map D.int)),some (.tup es),some (.tup (r.map ao)),some (.lst (en.map kh)),x10,x11,x12])/\M'=M2) (λnx knx=>?_) ?_
  ·walk_at"";refine⟨_,f1,?_⟩;walk_at"";refine aM (λh=>⟨_,f2,y2,ws,rfl,d0,hw,hwl,λs h1 h2 h3=>⟨sz3 1,_,if_pos (by rw[A5];exact sz3 _ (by simp;lia)),sz3 2,knx _ _ ⟨⟨[r,r++[s]],λt ht=>?_,rfl,?_⟩,rfl⟩⟩⟩) (λh=>knx _ _ ⟨⟨en,hen,hel2,rfl⟩,rfl⟩)
   ·rcases B9.mp ht with rfl|ht
    ·exact hr'
    ·rw[A8.mp ht];refine⟨by simp;lia,λx hx=>?_⟩;rcases C0.mp hx with h|h
     ·exact hr'.2 x h
     ·rw[A8.mp h];exact pZ hW h1 h2 h3
   ·simp[kh]
  rintro _ _ ⟨⟨en,hen,hel2,rfl⟩,rfl⟩;refine aR (λΔ' M2=>∃(pp:List D) (q:A9),(∀d∈pp,fT d)/\pp.length=2/\Δ'=[some (.scr (ns.map D.int)),some (.lst (xs.map D.int)),some (.lst (ws.map D.str)),some (.tup (o.map ax)),some (.tup (row.map ao)),some (.int (1+(i:Int))),some (.lst (ys.map D.int)),some (.tup es),some (.tup (r.map ao)),some (.lst (en.map kh)),some (.ref q),x11,x12]/\M2=bt M' q (.lst pp)) (λnx knx=>?_) ?_
  ·walk_at"";refine⟨_,f2,es,y2,rfl,d0,hel,hes,λd hd=>⟨sz3 2,λq hq=>knx _ _ ⟨[.tup es,d],q,λe he=>?_,rfl,rfl,rfl⟩⟩⟩;rcases B9.mp he with rfl|he
   ·exact pap es hge (by lia)
   ·rw[A8.mp he];exact hd
  rintro _ _ ⟨pp,q,hpp,hpl,rfl,rfl⟩;refine aR (λΔ' M2=>∃(pp:List D),(∀d∈pp,fT d)/\pp.length<=3/\Δ'=[some (.scr (ns.map D.int)),some (.lst (xs.map D.int)),some (.lst (ws.map D.str)),some (.tup (o.map ax)),some (.tup (row.map ao)),some (.int (1+(i:Int))),some (.lst (ys.map D.int)),some (.tup es),some (.tup (r.map ao)),some (.lst (en.map kh)),some (.ref q),x11,x12]/\M2=bt M' q (.lst pp)) (λnx knx=>?_) ?_
  ·walk_at"";refine⟨sz3 0,_,mN (Shp.deep hes),_,rfl,aM (λh=>?_) (λh=>knx _ _ ⟨pp,hpp,by lia,rfl,rfl⟩)⟩;have hne:es≠[]:=by simpa using h
   obtain⟨d,et,rfl⟩:=List.exists_cons_of_ne_nil hne;obtain⟨s,j,rr,rfl,hs,hr2,hrl2,hrd⟩:=hes d (.head _);have hs1:ai (.str s)=true:=by simp only[ai,decide_eq_true_eq];lia
   rw[show L2.bP (.tup (.str s::.int j::rr)::et) (some 1) none=et from bI (n:=1)];refine⟨_,kZ,_,kZ,_,kZ,_,vO,_,rfl,sz3 2,_,kZ,_,rfl,?_⟩;rw[show L2.bP (.str s::.int j::rr) (some 2) none=rr from bI (n:=2)];rw[N3]at hel;refine⟨_,if_pos (sz3 _ (by simp;lia)),sz3 1,_,if_pos (sz3 _ (by lia)),B5 (by lia:pp.length<1000) (sz3 1000),knx _ _ ⟨pp++[_],λe he=>?_,by simp;lia,rfl,rfl⟩⟩;rcases C0.mp he with h|h
   ·exact hpp e h
   ·rw[A8.mp h];refine pap _ (λz hz=>?_) (by simp;lia);rcases B9.mp hz with rfl|hz
    ·exact Shp.tail hr2 hs1 rfl
    ·exact hge z (.tail _ hz)
  rintro _ _ ⟨pp,hpp,hpl,rfl,rfl⟩;walk_at"";generalize jr (bt M' q (HD.lst pp)) q=M3;intro hz1;refine bf (λ_ Δ M2=>(∃x11 x12:Option D,Δ=[some (.scr (ns.map D.int)),some (.lst (xs.map D.int)),some (.lst (ws.map D.str)),some (.tup (o.map ax)),some (.tup (row.map ao)),some (.int (1+(i:Int))),some (.lst (ys.map D.int)),some (.tup es),some (.tup (r.map ao)),some (.lst (en.map kh)),some (.lst pp),x11,x12])/\M3=M2) ⟨⟨x11,x12,rfl⟩,rfl⟩ ?_ ?_
  ·rintro a d Δ M2 X2 hd2 ⟨⟨x11,x12,rfl⟩,rfl⟩ k2;obtain⟨t,ht,rfl⟩:=gP hd2;have htk:=hen t (F5 ht);refine⟨_,rfl,?_⟩;walk_at"";intro hz2;refine bf (λ_ Δ M2=>(∃x12:Option D,Δ=[some (.scr (ns.map D.int)),some (.lst (xs.map D.int)),some (.lst (ws.map D.str)),some (.tup (o.map ax)),some (.tup (row.map ao)),some (.int (1+(i:Int))),some (.lst (ys.map D.int)),some (.tup es),some (.tup (r.map ao)),some (.lst (en.map kh)),some (.lst pp),some (kh t),x12])/\M3=M2) ⟨⟨x12,rfl⟩,rfl⟩ ?_ ?_
   ·rintro b d Δ M2 X3 hd3 ⟨⟨x12,rfl⟩,rfl⟩ k3;have hdp:=hpp d (F5 hd3);refine⟨_,rfl,?_⟩;simp only[kh];walk_at"";refine⟨sz3 4,o,row,d,rfl,hdp,by have:=ho.1;lia,by lia,?_⟩;refine⟨_,xk,o,row,t,d,rfl,ho,hRow,htk,hdp,_,rfl,?_⟩;rw[if_neg (by decide)];exact k3 _ _ ⟨⟨_,rfl⟩,rfl⟩
   ·rintro Δ M2 ⟨⟨x12,rfl⟩,rfl⟩;exact k2 _ _ ⟨⟨_,_,rfl⟩,rfl⟩
  ·rintro Δ M2 ⟨⟨x11,x12,rfl⟩,rfl⟩;exact k' _ _ ⟨_,_,_,_,_,_,_,_,rfl⟩
 ·rintro Δ M' ⟨x5,x6,x7,x8,x9,x10,x11,x12,rfl⟩;walk_at"";exact k _
end
theorem yU:yi S_law:=λns R hn hR=>⟨ns,rfl,rfl,hn,hR⟩
theorem ya{l:PySem.W.OpenLaw}{w:J1}{K:u8}{h:D6}{mg:Str->Option A0}{fa:A9}(X:K.In h)(G:h.Ns B7 mg)(hfa:mg "law"=some (.ref fa))
  {f0:A9} {d0:B2}
  {f1:A9} {d1:B2}
  {f2:A9} {d2:B2}
  {f3:A9} {d3:B2}
  {f4:A9} {d4:B2}
  {f5:A9} {d5:B2}
  {f6:A9} {d6:B2}
  {f7:A9} {d7:B2}
  {f8:A9} {d8:B2}
  {f9:A9} {d9:B2}
  {f10:A9} {d10:B2}
  {f11:A9} {d11:B2}
  {f12:A9} {d12:B2}
  {f13:A9} {d13:B2}
  {f14:A9} {d14:B2}
  {f15:A9} {d15:B2}
  {f16:A9} {d16:B2}
  {f17:A9} {d17:B2}
  {f18:A9} {d18:B2}
  {f19:A9} {d19:B2}
  {f20:A9} {d20:B2}
  {f21:A9} {d21:B2}
  {f22:A9} {d22:B2}
  {f23:A9} {d23:B2}
  {f24:A9} {d24:B2}
  {f25:A9} {d25:B2}
  {f26:A9} {d26:B2}
  {f27:A9} {d27:B2}
  {f28:A9} {d28:B2}
  {f29:A9} {d29:B2}
  {f30:A9} {d30:B2}
  {f31:A9} {d31:B2}
  {f32:A9} {d32:B2}
  {f33:A9} {d33:B2}
  {f34:A9} {d34:B2}
  {f35:A9} {d35:B2}
  {f36:A9} {d36:B2}
  {f37:A9} {d37:B2}
  {f38:A9} {d38:B2}
  {f39:A9} {d39:B2}
  {f40:A9} {d40:B2}
  {f41:A9} {d41:B2}
  {f42:A9} {d42:B2}
  {f43:A9} {d43:B2}
  {f44:A9} {d44:B2}
  {f45:A9} {d45:B2}
  {tk_SMALL_LETTERS:Tok}
  {tk_MOST_LETTERS:Tok}
  {tk_MOST_PAIRS:Tok}
  {tk_MOST_TURN:Tok}
  {tk_MOST_SIGNS_OF_ROW:Tok}
  {ad_CHECKS:A9} {nn_CHECKS:Nat} {ck0 ck1 ck2 ck3 ck4 ck5 ck6:Tok} {cv0 cv1 cv2 cv3 cv4 cv5 cv6:A0} {ch0 ch1 ch2 ch3 ch4 ch5 ch6:Int}
  {C W N fI NW:A9} {nm q:Str} {bs:List A0} {sn:List Str} {sub:List A0} {ab:Bool} {col:Option Bool} {dd:Option A9} {xk0 xk1 xk2 xk3 xk5:Option A0} {xc0:A0} {dW:Option A9} {cdW:ClassData} {slW:Array (Option A0)} {cN:A0} {dN:Option A9} {es:Array ac4} {ep:Nat} {sN:Array (Option A0)} {odI anI:Option A9} {slI:Array (Option A0)} {kVI dcI pmI cdI ctI:A0}
  (x0:aT K "is_whole" dQ f0 d0)
  (x1:aT K "is_tuple_of" cy f1 d1)
  (x2:aT K "is_short_word" bz f2 d2)
  (x3:aT K "are_alike" dm f3 d3)
  (x4:aT K "reached_from" ck f4 d4)
  (x5:aT K "_law_numbers" eV f5 d5)
  (x6:aT K "_law_names" il f6 d6)
  (x7:aT K "_law_order" ip f7 d7)
  (x8:aT K "_law_sign" jn f8 d8)
  (x9:aT K "_law_reached" fq f9 d9)
  (x10:aT K "_law_place" iG f10 d10)
  (x11:aT K "_law_is_mark" da f11 d11)
  (x12:aT K "_law_some_step" dq f12 d12)
  (x13:aT K "_law_bent" jI f13 d13)
  (x14:aT K "is_tuple_called" bG f14 d14)
  (x15:aT K "is_mark" eW f15 d15)
  (x16:aT K "at_most" fo f16 d16)
  (x17:aT K "is_turn" e6 f17 d17)
  (x18:aT K "is_place" ef f18 d18)
  (x19:aT K "_law_cancel" gz f19 d19)
  (x20:aT K "_law_leads" ix f20 d20)
  (x21:aT K "_law_is_sign" eU f21 d21)
  (x22:aT K "is_pair" fC f22 d22)
  (x23:aT K "is_sign" fF f23 d23)
  (x24:aT K "mark_leads" cR f24 d24)
  (x25:aT K "_law_grows" iK f25 d25)
  (x26:aT K "is_order" cJ f26 d26)
  (x27:aT K "is_row" ec f27 d27)
  (x28:aT K "leads" iu f28 d28)
  (x29:aT K "cancel" gi f29 d29)
  (x30:aT K "may_grow" eD f30 d30)
  (x31:aT K "_law_step_gone" dw f31 d31)
  (x32:aT K "is_row_taken" cj f32 d32)
  (x33:aT K "by_cancel" dj f33 d33)
  (x34:aT K "by_order" dY f34 d34)
  (x35:aT K "by_grow" fj f35 d35)
  (x36:aT K "_law_gone" j5 f36 d36)
  (x37:aT K "_law_walk" gF f37 d37)
  (x38:aT K "by_step" eX f38 d38)
  (x39:aT K "are_rows_taken" bO f39 d39)
  (x40:aT K "gone" jR f40 d40)
  (x41:aT K "leads_there" cw f41 d41)
  (x42:aT K "takes_comes" cA f42 d42)
  (x43:aT K "holds" ik f43 d43)
  (x44:aT K "_law_taken" iF f44 d44)
  (x45:aT K "law" qh f45 d45)
  (z_isinstance:C9 K B7 "isinstance"=some none)
  (z_int:C9 K B7 "int"=some none)
  (z_bool:C9 K B7 "bool"=some none)
  (z_tuple:C9 K B7 "tuple"=some none)
  (z_len:C9 K B7 "len"=some none)
  (z_str:C9 K B7 "str"=some none)
  (z_all:C9 K B7 "all"=some none)
  (z_list:C9 K B7 "list"=some none)
  (z_enumerate:C9 K B7 "enumerate"=some none)
  (z_range:C9 K B7 "range"=some none)
  (z_abs:C9 K B7 "abs"=some none)
  (z_SMALL_LETTERS:C9 K B7 "SMALL_LETTERS"=some (some (.str "abcdefghijklmnopqrstuvwxyz" tk_SMALL_LETTERS)))
  (z_MOST_LETTERS:C9 K B7 "MOST_LETTERS"=some (some (.int 8 tk_MOST_LETTERS)))
  (z_MOST_PAIRS:C9 K B7 "MOST_PAIRS"=some (some (.int 8 tk_MOST_PAIRS)))
  (z_MOST_TURN:C9 K B7 "MOST_TURN"=some (some (.int 99 tk_MOST_TURN)))
  (z_MOST_SIGNS_OF_ROW:C9 K B7 "MOST_SIGNS_OF_ROW"=some (some (.int 60 tk_MOST_SIGNS_OF_ROW)))
  (z_CHECKS:C9 K B7 "CHECKS"=some (some (.ref ad_CHECKS)))
  (w_CHECKS:K.lookup ad_CHECKS=some ⟨.type "dict",none,.dict #[⟨ch0,.str "sentence" ck0,cv0⟩,⟨ch1,.str "no sentence" ck1,cv1⟩,⟨ch2,.str "twofold" ck2,cv2⟩,⟨ch3,.str "comes" ck3,cv3⟩,⟨ch4,.str "comes not" ck4,cv4⟩,⟨ch5,.str "parted" ck5,cv5⟩,⟨ch6,.str "means" ck6,cv6⟩] nn_CHECKS,#[]⟩)
  (u_CHECKS:(ad_CHECKS==ab1)=false)
  (hh0:ch0=kP w (.inr "sentence")) (vv0:C9 K B7 "takes_sentence"=some (some cv0))
  (hh1:ch1=kP w (.inr "no sentence")) (vv1:C9 K B7 "takes_no_sentence"=some (some cv1))
  (hh2:ch2=kP w (.inr "twofold")) (vv2:C9 K B7 "takes_twofold"=some (some cv2))
  (hh3:ch3=kP w (.inr "comes")) (vv3:C9 K B7 "takes_comes"=some (some cv3))
  (hh4:ch4=kP w (.inr "comes not")) (vv4:C9 K B7 "takes_comes_not"=some (some cv4))
  (hh5:ch5=kP w (.inr "parted")) (vv5:C9 K B7 "takes_parted"=some (some cv5))
  (hh6:ch6=kP w (.inr "means")) (vv6:C9 K B7 "takes_means"=some (some cv6))
  (aC:C9 K B7 "NoStep"=some (some (.ref C))) (aW:C9 K B7 "WishError"=some (some (.ref W))) (kC:K3 K (.ref C)=true)
  (lC:K.lookup C=some (S0 nm q C N bs [.ref W,.type "ValueError",.type "Exception",.type "BaseException",.type "object"] true sn sub ab col dd xk0 xk1 xk2 xk3 xk5 "ValueError.__new__"))
  (iC:P9 K (.ref C) "__init__"=some (some (.ref fI)))
  (lI:K.lookup fI=some ⟨.type "function",odI,.func (P4 "__init__" "NoStep.__init__" (de ia) (bM ia) (aj ia) .none kVI dcI pmI anI cdI ctI),slI⟩) (cI:S2 K cdI "NoStep.__init__"=true) (kI:K3 K (.ref fI)=true)
  (lW:K.lookup W=some ⟨xc0,dW,.cls cdW,slW⟩) (eN:cdW.ns=NW) (lN:K.lookup NW=some ⟨cN,dN,.dict es ep,sN⟩) (hN:es.toList.all (λe=>e.key.isStr "__init__"==false&&match e.key with|.str _ _=>true|_=>false)=true)
  (sW:PySem.W.specialIn K (.ref W) "__getattribute__"=some (some (.builtin "type.__getattribute__"))) (rW:PySem.W.readsIn K W (.type "type")=true) (fW:PySem.W.findCls K (.ref W) (.type "type") "__init__"=some (.val (.builtin "ValueError.__init__")))
  (sC:P9 K (.ref C) "__setattr__"=some (some (.builtin "object.__setattr__"))) (mC:PySem.W.mroIn K C (.type "object")=some true) (tC:P9 K (.ref C) "number"=some none)
 :∃fd:B2,(∀(s:A2) (v:A0),ac6 s fd ⟨[v],[]⟩ [("_law_script",v)])/\∀base:D6,K.In base->base.Ns B7 mg->aK l.prog w K mg base CX0 12 fa fd ["_law_script"] (spD K 1 S_law):=by
 have T:Txt mg:=⟨F9 X G z_isinstance,F9 X G z_int,F9 X G z_bool,F9 X G z_tuple,F9 X G z_len,F9 X G z_str,F9 X G z_all,F9 X G z_list,F9 X G z_enumerate,F9 X G z_range,F9 X G z_abs,⟨_,F2 X G z_SMALL_LETTERS⟩,⟨_,F2 X G z_MOST_LETTERS⟩,⟨_,F2 X G z_MOST_PAIRS⟩,⟨_,F2 X G z_MOST_TURN⟩,⟨_,F2 X G z_MOST_SIGNS_OF_ROW⟩⟩;have GF:gK w K mg "CHECKS" xP:=⟨_,_,_,_,F2 X G z_CHECKS,w_CHECKS,⟨rfl,rfl,rfl⟩,rfl,u_CHECKS,by decide +kernel,(.cons ⟨⟨_,rfl⟩,hh0,F2 X G vv0⟩ (.cons ⟨⟨_,rfl⟩,hh1,F2 X G vv1⟩ (.cons ⟨⟨_,rfl⟩,hh2,F2 X G vv2⟩ (.cons ⟨⟨_,rfl⟩,hh3,F2 X G vv3⟩ (.cons ⟨⟨_,rfl⟩,hh4,F2 X G vv4⟩ (.cons ⟨⟨_,rfl⟩,hh5,F2 X G vv5⟩ (.cons ⟨⟨_,rfl⟩,hh6,F2 X G vv6⟩ .nil)))))))⟩;have Y:i3 K mg "NoStep" "WishError" "number" C W fI:=⟨F2 X G aC,F2 X G aW,kC,⟨_,_,_,_,_,_,_,_,_,_,_,_,_,_,lC⟩,iC,⟨_,_,_,_,_,_,_,_,_,lW,by rw[eN];exact lN,hN⟩,sW,rW,fW,sC,mC,tC⟩;have FI0:=o4 (st:=ia) lI cI kI;have hbI:=bd2 FI0 λ_ _ _ _ _ _ _ _=>rfl;refine xZ X G hfa x45 (λ_ _ _ _ _ _ _=>rfl) λbase=>?_;have G9:=fg X G x0 (kL (P:=l.prog) (w:=w) (base:=base) x0.F T ) (bd1 x0.F λ_ _ _ _ _ _ _=>rfl);have G0:=fg X G x1 (iD (P:=l.prog) (w:=w) (base:=base) x1.F T ) (bd2 x1.F λ_ _ _ _ _ _ _ _=>rfl);have Y6:=fg X G x2 (gA (P:=l.prog) (w:=w) (base:=base) x2.F T ) (bd1 x2.F λ_ _ _ _ _ _ _=>rfl);have ga4:=fg X G x3 (jG (P:=l.prog) (w:=w) (base:=base) x3.F T ) (bd2 x3.F λ_ _ _ _ _ _ _ _=>rfl);have Y7:=fg X G x4 (gM (P:=l.prog) (w:=w) (base:=base) x4.F T ) (bd2 x4.F λ_ _ _ _ _ _ _ _=>rfl);have ga0:=fg X G x5 (mH (P:=l.prog) (w:=w) (base:=base) x5.F T ) (bd3 x5.F λ_ _ _ _ _ _ _ _ _=>rfl);have gb7:=fg X G x6 (oO (P:=l.prog) (w:=w) (base:=base) x6.F T ) (bd1 x6.F λ_ _ _ _ _ _ _=>rfl);have gb9:=fg X G x7 (oV (P:=l.prog) (w:=w) (base:=base) x7.F T ) (bd2 x7.F λ_ _ _ _ _ _ _ _=>rfl);have gb4:=fg X G x8 (qw (P:=l.prog) (w:=w) (base:=base) x8.F T ) (bd2 x8.F λ_ _ _ _ _ _ _ _=>rfl);have G5:=fg X G x9 (mL (P:=l.prog) (w:=w) (base:=base) x9.F T ) (bd2 x9.F λ_ _ _ _ _ _ _ _=>rfl);have ga3:=fg X G x10 (oS (P:=l.prog) (w:=w) (base:=base) x10.F T ) (bd2 x10.F λ_ _ _ _ _ _ _ _=>rfl);have Y1:=fg X G x11 (mz (P:=l.prog) (w:=w) (base:=base) x11.F T ) (bd1 x11.F λ_ _ _ _ _ _ _=>rfl);have ga6:=fg X G x12 (jD (P:=l.prog) (w:=w) (base:=base) x12.F T ) (bd4 x12.F λ_ _ _ _ _ _ _ _ _ _=>rfl);have gc2:=fg X G x13 (rg (P:=l.prog) (w:=w) (base:=base) x13.F T ) (bd2 x13.F λ_ _ _ _ _ _ _ _=>rfl);have G4:=fg X G x14 (fw (P:=l.prog) (w:=w) (base:=base) x14.F T G0 ga4) (bd3 x14.F λ_ _ _ _ _ _ _ _ _=>rfl);have G2:=fg X G x15 (ml (P:=l.prog) (w:=w) (base:=base) x15.F T Y6) (bd1 x15.F λ_ _ _ _ _ _ _=>rfl);have ga2:=fg X G x16 (mR (P:=l.prog) (w:=w) (base:=base) x16.F T Y7) (bd3 x16.F λ_ _ _ _ _ _ _ _ _=>rfl);have gb1:=fg X G x17 (mT (P:=l.prog) (w:=w) (base:=base) x17.F T G9) (bd1 x17.F λ_ _ _ _ _ _ _=>rfl);have G3:=fg X G x18 (kH (P:=l.prog) (w:=w) (base:=base) x18.F T G9) (bd2 x18.F λ_ _ _ _ _ _ _ _=>rfl);have Y5:=fg X G x19 (nP (P:=l.prog) (w:=w) (base:=base) x19.F T G5) (bd3 x19.F λ_ _ _ _ _ _ _ _ _=>rfl);have Y8:=fg X G x20 (o3 (P:=l.prog) (w:=w) (base:=base) x20.F T G5) (bd3 x20.F λ_ _ _ _ _ _ _ _ _=>rfl);have ga1:=fg X G x21 (mG (P:=l.prog) (w:=w) (base:=base) x21.F T Y1) (bd1 x21.F λ_ _ _ _ _ _ _=>rfl);have gb2:=fg X G x22 (mm (P:=l.prog) (w:=w) (base:=base) x22.F T G0 G2) (bd1 x22.F λ_ _ _ _ _ _ _=>rfl);have G8:=fg X G x23 (lY (P:=l.prog) (w:=w) (base:=base) x23.F T G0 G2 gb1) (bd1 x23.F λ_ _ _ _ _ _ _=>rfl);have G1:=fg X G x24 (i2 (P:=l.prog) (w:=w) (base:=base) x24.F T ga2) (bd4 x24.F λ_ _ _ _ _ _ _ _ _ _=>rfl);have gc0:=fg X G x25 (o9 (P:=l.prog) (w:=w) (base:=base) x25.F T Y8) (bd3 x25.F λ_ _ _ _ _ _ _ _ _=>rfl);have ga9:=fg X G x26 (kG (P:=l.prog) (w:=w) (base:=base) x26.F T gb2) (bd1 x26.F λ_ _ _ _ _ _ _=>rfl);have G7:=fg X G x27 (m4 (P:=l.prog) (w:=w) (base:=base) x27.F T G8) (bd1 x27.F λ_ _ _ _ _ _ _=>rfl);have Y3:=fg X G x28 (oK (P:=l.prog) (w:=w) (base:=base) x28.F T G1) (bd3 x28.F λ_ _ _ _ _ _ _ _ _=>rfl);have gb5:=fg X G x29 (nL (P:=l.prog) (w:=w) (base:=base) x29.F T G1) (bd3 x29.F λ_ _ _ _ _ _ _ _ _=>rfl);have ga8:=fg X G x30 (kj (P:=l.prog) (w:=w) (base:=base) x30.F T G1) (bd3 x30.F λ_ _ _ _ _ _ _ _ _=>rfl);have G6:=fg X G x31 (js (P:=l.prog) (w:=w) (base:=base) x31.F T ga3 Y5 Y1 Y8 ga1 gc0) (bd3 x31.F λ_ _ _ _ _ _ _ _ _=>rfl);have Y0:=fg X G x32 (h9 (P:=l.prog) (w:=w) (base:=base) x32.F T G7) (bd1 x32.F λ_ _ _ _ _ _ _=>rfl);have ga5:=fg X G x33 (jU (P:=l.prog) (w:=w) (base:=base) x33.F T G3 gb5) (bd3 x33.F λ_ _ _ _ _ _ _ _ _=>rfl);have ga7:=fg X G x34 (kE (P:=l.prog) (w:=w) (base:=base) x34.F T Y3 G3 G2) (bd4 x34.F λ_ _ _ _ _ _ _ _ _ _=>rfl);have gb3:=fg X G x35 (mW (P:=l.prog) (w:=w) (base:=base) x35.F T G3 G8 ga8) (bd5 x35.F λ_ _ _ _ _ _ _ _ _ _ _=>rfl);have gc4:=fg X G x36 (qt (P:=l.prog) (w:=w) (base:=base) x36.F T G6) (bd3 x36.F λ_ _ _ _ _ _ _ _ _=>rfl);have gc1:=fg X G x37 (qI (P:=l.prog) (w:=w) (base:=base) x37.F T ga6 G6 Y5) (bd4 x37.F λ_ _ _ _ _ _ _ _ _ _=>rfl);have gb0:=fg X G x38 (mJ (P:=l.prog) (w:=w) (base:=base) x38.F T G4 ga5 ga7 gb3) (bd3 x38.F λ_ _ _ _ _ _ _ _ _=>rfl);have Y4:=fg X G x39 (fS (P:=l.prog) (w:=w) (base:=base) x39.F T ga9 Y0) (bd3 x39.F λ_ _ _ _ _ _ _ _ _=>rfl);have gc3:=fgX X G x40 (qp (P:=l.prog) (w:=w) (base:=base) x40.F T Y (uW FI0 Y) hbI ⟨_,lI,rfl⟩ gb0) (bd3 x40.F λ_ _ _ _ _ _ _ _ _=>rfl);have Y9:=fg X G x41 (iI (P:=l.prog) (w:=w) (base:=base) x41.F T Y gc3) (bd4 x41.F λ_ _ _ _ _ _ _ _ _ _=>rfl);have Y2:=fg X G x42 (ij (P:=l.prog) (w:=w) (base:=base) x42.F T G0 Y4 Y9) (bd2 x42.F λ_ _ _ _ _ _ _ _=>rfl);have gb6:=fg X G x43 (pe (P:=l.prog) (w:=w) (base:=base) x43.F T GF Y2) (bd2 x43.F λ_ _ _ _ _ _ _ _=>rfl);have gb8:=fg X G x44 (oJ (P:=l.prog) (w:=w) (base:=base) x44.F T gb6) (bd3 x44.F λ_ _ _ _ _ _ _ _ _=>rfl);exact xI x45.F T ga0 gb7 gb9 gc1 gb4 gc2 gb8 gc4
end My
namespace PySem.W.Fast
def tw10052976903575802114:=Nat
def tw10066022588197765679:=Nat
def tw10078297173856205251:=Nat
def tw10081191579565540297:=Nat
def tw10091118405280860931:=Nat
def tw10136900045403631822:=Nat
def tw10183134454369499297:=Nat
def tw10185089390446170024:=Nat
def tw10191719763893765526:=Nat
def tw10248788434785016243:=Nat
def tw10250396950549357656:=Nat
def tw10254763278776693921:=Nat
def tw10260076627654845591:=Nat
def tw10303365717285362388:=Nat
def tw10324275945623559813:=Nat
def tw10446802172697029726:=Nat
def tw10475574455660893187:=Nat
def tw10477488114695878496:=Nat
def tw10518360605349896901:=Nat
def tw10526555579132837728:=Nat
def tw10531440655272991688:=Nat
def tw10596382503739854982:=Nat
def tw10606249492090195525:=Nat
def tw10624839246144660156:=Nat
def tw10635628279829305832:=Nat
def tw10656868961598432931:=Nat
def tw10686529244174322801:=Nat
def tw10698480619301537019:=Nat
def tw10828093675899682319:=Nat
def tw10889636768086843864:=Nat
def tw10895068177526768344:=Nat
def tw10972955116844881872:=Nat
def tw11020471525675262143:=Nat
def tw11100520608272781835:=Nat
def tw11133226705031438091:=Nat
def tw11164924183695018834:=Nat
def tw11227583443358524250:=Nat
def tw11235124203871613340:=Nat
def tw11366967029710040435:=Nat
def tw11396352685554433586:=Nat
def tw11406156787633929846:=Nat
def tw11431146197114291892:=Nat
def tw11450204459605527827:=Nat
def tw11484521536928922521:=Nat
def tw11495288066146504578:=Nat
def tw11498447843523416025:=Nat
def tw1150507557277984899:=Nat
def tw11570104928907073727:=Nat
def tw11613887172124090025:=Nat
def tw1162721460919704853:=Nat
def tw11693386765664126009:=Nat
def tw117361230812617211:=Nat
def tw11763885952814631092:=Nat
def tw11797765192586889227:=Nat
def tw11801750783841173877:=Nat
def tw11837178776088124635:=Nat
def tw1184173949527481261:=Nat
def tw11877755231961645093:=Nat
def tw11933619420871585767:=Nat
def tw11950752280527513124:=Nat
def tw11965539316775680015:=Nat
def tw12032494689036649259:=Nat
def tw12083088239482072715:=Nat
def tw1208560938733366797:=Nat
def tw12159611222388030819:=Nat
def tw12197898457368011007:=Nat
def tw12210585513038348091:=Nat
def tw12220520484787668722:=Nat
def tw12232584271527349607:=Nat
def tw12245479487110411022:=Nat
def tw12252894478419244349:=Nat
def tw12268022890711851057:=Nat
def tw12293085239071710825:=Nat
def tw12372593311701428280:=Nat
def tw12380680687581660220:=Nat
def tw12388927051000322244:=Nat
def tw12417632129464150730:=Nat
def tw12433836571124765992:=Nat
def tw12447678435806927628:=Nat
def tw12455146196076388978:=Nat
def tw1246244826682395385:=Nat
def tw12472163031581955955:=Nat
def tw12479582665734175911:=Nat
def tw1260830451010386954:=Nat
def tw12628397540727971724:=Nat
def tw12630055448881778396:=Nat
def tw12633187217564702268:=Nat
def tw12635527140175503405:=Nat
def tw12643781697790216985:=Nat
def tw12687461840043684013:=Nat
def tw12737326402046549630:=Nat
def tw12756579792692159693:=Nat
def tw12779575442740375547:=Nat
def tw12818030219839578753:=Nat
def tw12833247007320446417:=Nat
def tw12925166137798164302:=Nat
def tw12926574808439866848:=Nat
def tw12963459610512162339:=Nat
def tw12973206494549609513:=Nat
def tw13030231954317544015:=Nat
def tw13096189079028469888:=Nat
def tw13097158608331399081:=Nat
def tw13152791657097548540:=Nat
def tw13169147110287853056:=Nat
def tw1317195853682110919:=Nat
def tw13183947142926480572:=Nat
def tw13222680413899692197:=Nat
def tw13224789321241529314:=Nat
def tw1325088060262173408:=Nat
def tw13254503960384207316:=Nat
def tw13258838465376563209:=Nat
def tw13313877996783726443:=Nat
def tw13394909832183043231:=Nat
def tw13452832207442100550:=Nat
def tw13493063267686332051:=Nat
def tw13524012084988705386:=Nat
def tw13558054992738264006:=Nat
def tw13630867819422106125:=Nat
def tw13712875381215789515:=Nat
def tw13756243353957286168:=Nat
def tw13770209438497557380:=Nat
def tw13775325274871601774:=Nat
def tw13788721357835777605:=Nat
def tw13801504291347156376:=Nat
def tw13818098041553473686:=Nat
def tw13872201497953955305:=Nat
def tw13903980597492786999:=Nat
def tw13906577607035492117:=Nat
def tw13911447276173096305:=Nat
def tw13974621025964399678:=Nat
def tw14051390539286858029:=Nat
def tw14054237709806055226:=Nat
def tw14078559880093591875:=Nat
def tw14102373228173088082:=Nat
def tw14109709069682557078:=Nat
def tw14181266315223618294:=Nat
def tw14233330908891411960:=Nat
def tw14242219084893013928:=Nat
def tw1428815063426806662:=Nat
def tw14306415019412643691:=Nat
def tw14323285173448644182:=Nat
def tw14349134817953994409:=Nat
def tw14406239163397168915:=Nat
def tw14410356662065846009:=Nat
def tw1453643883296197244:=Nat
def tw14551611501759659835:=Nat
def tw14553275165172301877:=Nat
def tw14561977118128777005:=Nat
def tw14591109273048597834:=Nat
def tw14618012792793248953:=Nat
def tw14631725704541159469:=Nat
def tw14658581744470406254:=Nat
def tw14664367721997448152:=Nat
def tw14690788537478158364:=Nat
def tw14739262877614527819:=Nat
def tw14790983997132210487:=Nat
def tw1480021181715173124:=Nat
def tw14808982113828167254:=Nat
def tw14829123683700748466:=Nat
def tw14874421121840366370:=Nat
def tw14892977339783929449:=Nat
def tw14918626721125965992:=Nat
def tw14935110663693548671:=Nat
def tw14956426775115217697:=Nat
def tw14982388533808110848:=Nat
def tw14987337926797454204:=Nat
def tw15018140783066232651:=Nat
def tw15037785140710495723:=Nat
def tw15053493239553132297:=Nat
def tw1506718813526724348:=Nat
def tw15123875227562972799:=Nat
def tw15137285380073838928:=Nat
def tw15167377393186877859:=Nat
def tw15205722018600340511:=Nat
def tw15272434626544344119:=Nat
def tw15341588052657514057:=Nat
def tw15382340325850473424:=Nat
def tw15407150088053512764:=Nat
def tw15438162754176487213:=Nat
def tw15456555923255863766:=Nat
def tw15486580302720462512:=Nat
def tw15496401003942921283:=Nat
def tw15609764785925253700:=Nat
def tw15631505921168492017:=Nat
def tw15648536180509512814:=Nat
def tw15665011078899484495:=Nat
def tw15720765784877150043:=Nat
def tw15726437021757913287:=Nat
def tw15794819716326064311:=Nat
def tw15949598672382748389:=Nat
def tw15973200462690046851:=Nat
def tw1599721098004309566:=Nat
def tw15998721061386570059:=Nat
def tw16006653978464464256:=Nat
def tw16122277001343054899:=Nat
def tw16191789946727550752:=Nat
def tw1622375661396579201:=Nat
def tw16275237875771986827:=Nat
def tw16290223057955729601:=Nat
def tw16303995629145933879:=Nat
def tw16324521026764687489:=Nat
def tw16357737826054261490:=Nat
def tw16417803124625371000:=Nat
def tw16425282404429484869:=Nat
def tw1647770486835099512:=Nat
def tw1652979118577825444:=Nat
def tw16627287004245996569:=Nat
def tw16635124990410008826:=Nat
def tw16696805983206205361:=Nat
def tw16738685858328188518:=Nat
def tw1676725224698926117:=Nat
def tw16808594407452569421:=Nat
def tw16859881452964747120:=Nat
def tw16961039687615168456:=Nat
def tw16971328511842663288:=Nat
def tw1699154266687635543:=Nat
def tw17026008075939845963:=Nat
def tw17040612572382295992:=Nat
def tw17059659597181072453:=Nat
def tw17073425809738218461:=Nat
def tw17124657642356876653:=Nat
def tw17126477473496356901:=Nat
def tw17136624360882518295:=Nat
def tw17136992564009268593:=Nat
def tw17170705892170960855:=Nat
def tw17199994471765387381:=Nat
def tw1722131881662507552:=Nat
def tw17282331410081422718:=Nat
def tw17286604783672471016:=Nat
def tw17292716078687176958:=Nat
def tw17316890808113212425:=Nat
def tw17370841649816543902:=Nat
def tw17386798984897024328:=Nat
def tw17475786256035725149:=Nat
def tw17480046014495732404:=Nat
def tw17662153017860714905:=Nat
def tw17703796181559003953:=Nat
def tw177700048002571814:=Nat
def tw1777416422877595546:=Nat
def tw17778675708525300787:=Nat
def tw17836317606718752640:=Nat
def tw17862692617542946198:=Nat
def tw17878662945087505368:=Nat
def tw17988462304321045379:=Nat
def tw18049301669784682416:=Nat
def tw18064148447636916874:=Nat
def tw18079865670882520052:=Nat
def tw18079951569177200651:=Nat
def tw18098268584315939418:=Nat
def tw18106061013197488152:=Nat
def tw18150944657442277921:=Nat
def tw18216008362955214090:=Nat
def tw18270723563047187472:=Nat
def tw18308394721953582627:=Nat
def tw18351322589808177739:=Nat
def tw18367409877686819118:=Nat
def tw18424964099484586764:=Nat
def tw1904442931285778816:=Nat
def tw1983988278134876564:=Nat
def tw2008902068013512025:=Nat
def tw2153822275832565943:=Nat
def tw2220324246911875854:=Nat
def tw2260701122510740822:=Nat
def tw2291197456795227387:=Nat
def tw2372602378668386595:=Nat
def tw2383647224973838004:=Nat
def tw2397769678973046484:=Nat
def tw2439467504822953365:=Nat
def tw2506112815383014975:=Nat
def tw2628591311466648634:=Nat
def tw2665569792954528175:=Nat
def tw2791598060538476415:=Nat
def tw2887480734691755322:=Nat
def tw2929537262917906905:=Nat
def tw2961671621914084020:=Nat
def tw297445309569041482:=Nat
def tw2992443668758178768:=Nat
def tw3003034191375794554:=Nat
def tw3017897702074409093:=Nat
def tw3048888170927982234:=Nat
def tw3064426119061551304:=Nat
def tw3088639999777895896:=Nat
def tw3120510565748118275:=Nat
def tw3149874756654315451:=Nat
def tw3179997281460662230:=Nat
def tw3230661298932762385:=Nat
def tw3247239173959593973:=Nat
def tw328334361846174578:=Nat
def tw3283578511159262500:=Nat
def tw3290874658596267003:=Nat
def tw3305086939650986158:=Nat
def tw3309466643132707048:=Nat
def tw3327530802131186196:=Nat
def tw3331407324524771396:=Nat
def tw3334738886211496074:=Nat
def tw3348194025477122830:=Nat
def tw3348244554497820216:=Nat
def tw337221238869630345:=Nat
def tw3396743350642014043:=Nat
def tw345073314590033334:=Nat
def tw3545709561421114275:=Nat
def tw3645371388621246787:=Nat
def tw3650079246502763291:=Nat
def tw366430860884081193:=Nat
def tw3670124210394179304:=Nat
def tw3679849097025385488:=Nat
def tw3680938693526316773:=Nat
def tw3696984863371541247:=Nat
def tw3730919692203226318:=Nat
def tw375619838785586700:=Nat
def tw3756822691283751312:=Nat
def tw3893039796121143881:=Nat
def tw3978107667291953456:=Nat
def tw3980568705501873862:=Nat
def tw398806051770277733:=Nat
def tw3994210331445505928:=Nat
def tw4042539871926507105:=Nat
def tw4086608897501001366:=Nat
def tw4087320491867243828:=Nat
def tw4163762999451798539:=Nat
def tw4170606755097394218:=Nat
def tw4279533413147438517:=Nat
def tw4285321867286322672:=Nat
def tw4314139515648102028:=Nat
def tw43310109435016030:=Nat
def tw4344058559727438800:=Nat
def tw4483357681709034748:=Nat
def tw4484341371349607203:=Nat
def tw4561014920993745780:=Nat
def tw4597977448072900463:=Nat
def tw459913073350464433:=Nat
def tw4603153063009988086:=Nat
def tw4642098400409448679:=Nat
def tw4667390537967561981:=Nat
def tw47396607398567238:=Nat
def tw4851141563991282173:=Nat
def tw4861086887266804286:=Nat
def tw4872663510370940319:=Nat
def tw5093490332345645141:=Nat
def tw5115476567637109100:=Nat
def tw5175984982740706477:=Nat
def tw5195698744401797052:=Nat
def tw5226096806632200562:=Nat
def tw5274787590820410440:=Nat
def tw5280445882324641548:=Nat
def tw5305696474005301936:=Nat
def tw5313071914543761:=Nat
def tw535109835696383327:=Nat
def tw5353969754603742930:=Nat
def tw5400332997850667897:=Nat
def tw5407836316917647429:=Nat
def tw5456230861367485946:=Nat
def tw5464154166717285821:=Nat
def tw5527955206927140970:=Nat
def tw5588799957986936352:=Nat
def tw5589973451534859087:=Nat
def tw5637461630491276478:=Nat
def tw5727025198296539998:=Nat
def tw5741564616673887444:=Nat
def tw5742669070502985877:=Nat
def tw5748795746874971379:=Nat
def tw5768498203844302659:=Nat
def tw5826014162663831953:=Nat
def tw5912994383288712220:=Nat
def tw5943078161065350165:=Nat
def tw5948948041111863674:=Nat
def tw5963078878619696761:=Nat
def tw5971983732311180532:=Nat
def tw5977586882481453666:=Nat
def tw5999376691819755651:=Nat
def tw6016630406566830590:=Nat
def tw604216818409170358:=Nat
def tw6087209005734150402:=Nat
def tw6090961308457644564:=Nat
def tw6123546168093367471:=Nat
def tw6151973158193464138:=Nat
def tw6152037470009585894:=Nat
def tw622558715395282035:=Nat
def tw6298659689432467823:=Nat
def tw6334270916416216015:=Nat
def tw6373372820374507230:=Nat
def tw6513520383790516891:=Nat
def tw6527053579578582026:=Nat
def tw6528418146238553025:=Nat
def tw6622885120591326626:=Nat
def tw6638302653276641312:=Nat
def tw6667426413542082304:=Nat
def tw6677660737363612991:=Nat
def tw6699500920587590452:=Nat
def tw6726767600029287267:=Nat
def tw6753013652857368766:=Nat
def tw6765967329078686119:=Nat
def tw678643565634994791:=Nat
def tw6814049399616111314:=Nat
def tw6830403601520419497:=Nat
def tw6845396251871099929:=Nat
def tw6849312383105361143:=Nat
def tw6860808449254933632:=Nat
def tw6895211848698696045:=Nat
def tw6950345894792493867:=Nat
def tw6955714912175496303:=Nat
def tw6975321135700746948:=Nat
def tw7053028900933007298:=Nat
def tw705622478258602728:=Nat
def tw7069025870956634832:=Nat
def tw7113268011372667015:=Nat
def tw7124071839238798837:=Nat
def tw7270180755789467497:=Nat
def tw7300955411843904583:=Nat
def tw7316772446827527595:=Nat
def tw7336834360927521770:=Nat
def tw733993151876940106:=Nat
def tw7415481318671267976:=Nat
def tw7465435356722482953:=Nat
def tw7503035980554196181:=Nat
def tw7523717601064393113:=Nat
def tw7604536639266470388:=Nat
def tw7613957936766859535:=Nat
def tw7643051598893213252:=Nat
def tw7653564277832393668:=Nat
def tw7674580303684921310:=Nat
def tw7699950195897808635:=Nat
def tw7707419750831762575:=Nat
def tw7721200176138584647:=Nat
def tw7723520932309546278:=Nat
def tw7724683385397077992:=Nat
def tw7726253742671246048:=Nat
def tw7728829117029714347:=Nat
def tw7739003472777287057:=Nat
def tw7755675226140313356:=Nat
def tw7782649534750955253:=Nat
def tw7817263527527826563:=Nat
def tw7888676279133367853:=Nat
def tw7932316777694712833:=Nat
def tw7944393315406417913:=Nat
def tw7947683205996999311:=Nat
def tw8008896238145413416:=Nat
def tw8054718274907861354:=Nat
def tw8138783895091681944:=Nat
def tw8163677632510514899:=Nat
def tw8191236119056889770:=Nat
def tw8219010680412096487:=Nat
def tw8229768298914789958:=Nat
def tw8253347013278285941:=Nat
def tw8257022079499258245:=Nat
def tw8295431873380044867:=Nat
def tw8305569932774209841:=Nat
def tw8336449853520475934:=Nat
def tw8377696350454878722:=Nat
def tw8379405619477077883:=Nat
def tw8379911734309501685:=Nat
def tw8407605789996520167:=Nat
def tw8429041886154230359:=Nat
def tw8433664571340887621:=Nat
def tw8453532449120871338:=Nat
def tw8479001344693314457:=Nat
def tw8494863763611501025:=Nat
def tw8533229663369914514:=Nat
def tw8543206792392987444:=Nat
def tw8563536558896576963:=Nat
def tw8576854961395838287:=Nat
def tw8622238235814283698:=Nat
def tw8639512051667357540:=Nat
def tw8658077648856822412:=Nat
def tw8665015722770841793:=Nat
def tw8675457526407971544:=Nat
def tw8701996232293094692:=Nat
def tw8740197123626437723:=Nat
def tw8755125734317883278:=Nat
def tw8781673956478805308:=Nat
def tw8797040753588472956:=Nat
def tw8816544798472690746:=Nat
def tw8912365249161751817:=Nat
def tw8927281689049195489:=Nat
def tw8975688535638556822:=Nat
def tw9049219547286315152:=Nat
def tw9056429567082335694:=Nat
def tw9063681992367007300:=Nat
def tw9125491295178422397:=Nat
def tw9143582364364519234:=Nat
def tw9214466330172284101:=Nat
def tw9220211003167117103:=Nat
def tw9236417196566655906:=Nat
def tw9239925344685141420:=Nat
def tw9241403278599597551:=Nat
def tw925292341128743021:=Nat
def tw932354330972215642:=Nat
def tw9342245063269425360:=Nat
def tw9465343892380573467:=Nat
def tw9497859395023235205:=Nat
def tw9545727325131524817:=Nat
def tw9623582206327154779:=Nat
def tw9687744875633922691:=Nat
def tw9696314323269704396:=Nat
def tw9766714502749310085:=Nat
def tw9789796400819276624:=Nat
def tw9794618052250508113:=Nat
def tw9812977999496853759:=Nat
def tw9846889921645446016:=Nat
def tw9905243875493916975:=Nat
def tw9928819129398654095:=Nat
def tw9933998674853845393:=Nat
def tw9960534457343122295:=Nat
def tw9998053850138447901:=Nat
end PySem.W.Fast
open PySem PySem.W PyProof.Rows
set_option maxRecDepth 100000 in
set_option maxHeartbeats 0 in
theorem PySem.Challenge.cw_wordwishes_k64_walks_judged_holds : PySem.Challenge.rw_wordwishes_k64_walks_judged.Holds := by
 w_on;o_law;z_head;(case hw=>w_witness2)
 k_fill
 refine L2.tp (fun _=>rfl) ?_;refine L2.yY (S:=My.S_law) My.yU (k:=12) (x:="_law_script") (l:=PySem.Challenge.rw_wordwishes_k64_walks_judged) ⟨rfl,by decide,by decide⟩ rfl rfl (fun w h Y=>Y) ?F
 case F =>
  intro w mg fa h KX G hmg
  refine' My.ya KX G hmg ?_ ?_ ?_ ?_ ?_ ?_ ?_ ?_ ?_ ?_ ?_ ?_ ?_ ?_ ?_ ?_ ?_ ?_ ?_ ?_ ?_ ?_ ?_ ?_ ?_ ?_ ?_ ?_ ?_ ?_ ?_ ?_ ?_ ?_ ?_ ?_ ?_ ?_ ?_ ?_ ?_ ?_ ?_ ?_ ?_ ?_ ?_ ?_ ?_ ?_ ?_ ?_ ?_ ?_ ?_ ?_ ?_ ?_ ?_ ?_ ?_ ?_ ?_ ?_ ?_ ?_ ?_ ?_ ?_ ?_ ?_ ?_ ?_ ?_ ?_ ?_ ?_ ?_ ?_ ?_ ?_ ?_ ?_ ?_ ?_ ?_ ?_ ?_ ?_ ?_ ?_ ?_ ?_ ?_ ?_ ?_ ?_
  all_goals try first|exact L2.yy (by k_is) (by k_is) (by k_is) (by k_is)|exact L2.o4 (by k_is) (by k_is) (by k_is)|k_is|exact rfl
