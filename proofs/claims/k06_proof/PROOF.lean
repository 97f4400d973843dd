import PyProof.Rows.All
import Wide.All
import OpenK.AllK
import Wide.FinOn
import Lean
import PyProof.EqAt
import PyProof.EqKinds
import PyProof.TupleCall
import KE.KRevIter
import PyProof.NeKinds
import PyProof.Draws
import PyProof.EnumMake
import KE.KSortTup
import PyProof.ZipIter
import KE.KDictList
import PyProof.AttrMissHeap
import KE.KDictOf
import PyProof.Rows.SetFrom
import PyProof.Rows.SortRunsK
import PyProof.IsRules
import PyProof.SetRoads
import KE.KSortKey
import PyProof.RulesDel
import PyProof.DelItemList
import PyProof.StrCalls6
import PyProof.StrCalls
import PyProof.StrLawsFirst
import PyProof.Rows.StrNews2
import PyProof.Rows.StrLawsPart
import PySem.Challenge.RW_wordwishes_k06_texts_of_no_row
set_option Elab.async false
set_option linter.all false
set_option maxRecDepth 100000
set_option maxHeartbeats 4000000
set_option bootstrap.genMatcherCode false
set_option compiler.extract_closed false
noncomputable section
open PySem renaming Value->o0,wpAny_bind->u8,Shared->z4,wpAny_pure->z7,starEach->z9,sizeLine->A0,Addr->A1,Spec->B0,mainGlobals->B1,wpAny->B3,FuncData->B7,Program->C1,Expr->C5,Heap->C9,model->D3,Around->D4,compareOp->E3,Builtin->E4,wpAny_mono->F3,wpAny_ite_false->F6,World->F8,attributeBase->F9,NameKind->J1,mem_of_lookup->J3,wpAny_holding->K0,wpAny_loadPart_at->K1,backTo->K6,excClassObj->K8,eval->M6,binaryOp->M7,wpAny_newObj_type->N8,keywordEach->O2,bootBuiltins->O8,Keyword->P4,codeAny_call_builtin->P5,wpAny_truthy_bool->P6,foldedSetIterable->P7,Stmt->P9,wpAny_getItem_str_slice->Q7,wpAny_Call_Name_kw->R5,behindInMarks->S1,Paired->S2,Scope->T0,wpAny_isSubtype_exc->T3,wpAny_call->T6,typeIs_str->T7,wpAny_execs_nil->T8,letOwnedTupleGo->T9,wpAny_passesOwn->U0,backToKw->U3,sliceBounds->U9,call_meets->V0,wpAny_ite_true->V3,wpAny_loadPart->V4,wpAny_standAt->W3,Comprehension->W4,swapsWith->W7,PassesOwn->W8,wpAny_field->W9,post_val_or_str->X3,codeAny_mono->Y6,wpAny_Name->Y9,holding->Z1,wpAny_load'->Z5,codeAny->aa1,wpAny_typeOf->aa2,typeIs_int->aa5,assign->aa7,callerA->ab0,GenState->ab5,IsPart->ab6,noteFrame->ab7,BindsTo->ab8,getItem->ab9,rawInt->ac1,Model->ac2,standAt->ac4,cellsFrom->ac5,DictEntry->ac6,valueAt->ac7,OwnTail->ac9,Data->ad0,cLine->ad2
open PySem.W renaming Frag->s0,kitOne->C3,nsIn->C7,mg_of->D7,findIn->F2,mg_none_of->H0,keepIn->M8,fnOf->P0,hideAll_get->Q3,hideAll_none->S3,specialIn->V1,codeIn->V2,mroIn->W5,Looks->X6
open List renaming replicate->z5,size_toArray->A3,mem_append_right->A4,mem_cons->A5,mem_cons_of_mem->B4,map_cons->B5,length_cons->B6,length_append->C6,mem_append_left->D0,mem_singleton->D6,getElem?_eq_some_iff->D8,mem_append->D9,nil_append->E1,mem_map->E2,length_replicate->E5,replicate_succ->E6,mem_cons_self->F1,lookup_cons->F4,all_eq_true->F5,getElem?_append_left->F7,length_map->J4,getElem?_set_self->K3,length_nil->K5,filterMap_cons->K7,filter_eq_self->K9,eq_of_mem_replicate->L4,map_map->N1,not_mem_nil->N3,getElem?_set_ne->N4,mem_of_getElem?->N5,getElem?_map->N7,flatten_cons->N9,append_assoc->O0,find?_cons->O3,getElem?_append_right->O4,range->O5,any_eq_true->O6,mem_filterMap->O9,all_cons->P1,any_cons->P2,getElem?_eq_getElem->P8,all_map->Q0,getElem?_replicate->Q6,length_take->Q9,append_nil->R6,getElem?_eq_none->R7,cons->R8,length_drop->S7,cons_append->S8,map_congr_left->T5,nodup_cons->U1,getElem_mem->W0,mem_filter->W6,map_append->X7,length->Z3,lookup->ab1,foldl->ac0
open PySem.Heap renaming get?_push_of_some->z6,lt_size->A7,get?_update_other->B9,get?_push_size->C8,get?_update_self->J5,get?_none_of_le->L9,SameBut->V5
open PySem.Str renaming ofString->z8,join->N0,length->aa3
open Bool renaming false_eq_true->A6,and_eq_true->B2,false_ne_true->L7,false_and->R1,and_false->S6,eq_iff_iff->U6,true_and->Z7,false_or->Z8
open Nat renaming lt_of_lt_of_le->A8,le_refl->B8,ne_of_lt->D1,le_trans->E7,lt_succ_of_lt->O1,lt_irrefl->O7,lt_succ_self->R0,zero_le->X1,le_of_lt->X8,ne_of_gt->X9,le_succ->ab3
open PySem.Value renaming ref->A9,none->C4,type->D5,builtin->U5,bool->U8,str->aa0
open Option renaming isSome_iff_exists->E8,some->L5
open PyProof.Rows renaming slot_tuple_getitem->E9,cnt->S9,envOfC->U2,AllBare->V9,kindOf->Y7,IsTup->ad1
open Bind renaming bind->F0
open False renaming elim->I0
open PySem.Builtin.Tuple renaming tupleExact->J0
open Or renaming inl->J6,inr->Z9
open PySem.Txt renaming split->J7,count->S5,slice->V6,upper->V8,slice_le->Y8,replace->ab4,join->ac3
open List.cons renaming injEq->J8
open PySem.SeqAt renaming EqAt->J9
open Array renaming getElem?_eq_some_iff->K2,length_toList->Q4
open Option.some renaming inj->K4
open PySem.Calls renaming spliced_cons->L6,callWith_builtin->R3,Constant_str->R4
open ForInStep renaming yield->L8
open PySem.F renaming plainAttrs_str->M0,excAttr_ValueError->S4,slot_int_rmul->X0
open PySem.NameKind renaming free->M9,cell->U4
open Ne renaming symm->N6
open PySem.Builtin.Slice renaming slicePlaces->P3
open PySem.Builtin.Str renaming occurrences->Q5
open PySem.Obj renaming mapFields->Q8,dropNameByArray->T4,data_mapFields->U7,dropName_eq->X5,mapSeq->aa4
open PySem.PassesOwn renaming never->R9
open PySem.Unicode renaming upperOf->S0
open PySem.Data renaming fields->T1,dict->Z0,seq->aa6
open PySem.W.Looks renaming here->V7
open Pure renaming pure->W1
open Eq renaming refl->X4
open PySem.Code renaming compLoop->Z4
open PySem.Expr renaming Constant->Z6
open Sum renaming inl->aa8,inr->aa9
open LawfulMonad renaming pure_bind->ac8
set_option compiler.extract_closed false
namespace L2
open PySem PySem.Spec PyProof.Rows
abbrev Key:=Sum Int Str
def tF:Key->o0->Bool
 |.inl k,v=>o0.isInt k v
 |.inr x,v=>o0.isStrOf x v
noncomputable def yf(w:F8):Key->Int
 |.inl k=>hashInt k
 |.inr x=>hashStr w x
theorem aV:∀{k:Key}{v:o0},tF k v=true->(∃i t,k=aa8 i/\v=o0.int i t)∨(∃x t,k=aa9 x/\v=aa0 x t)
 |.inl i,v,h=>by
  obtain⟨t,e⟩:=o0.isInt_shape (k:=i) (v:=v) h;exact .inl ⟨i,t,rfl,e⟩
 |.inr x,v,h=>by
  obtain⟨t,e⟩:=o0.isStrOf_shape (x:=x) (v:=v) h;exact .inr ⟨x,t,rfl,e⟩
theorem vj(a b:Int):decide ((aa8 a:Key)=aa8 b)=(a==b):=by
 by_cases e:a=b
 ·subst e;simp
 ·have h:¬ (aa8 a:Key)=aa8 b:=λq=>e (aa8.inj q);rw[decide_eq_false h];exact(beq_eq_false_iff_ne.mpr e).symm
theorem uK(a b:Str):decide ((aa9 a:Key)=aa9 b)=decide (a=b):=by
 by_cases e:a=b
 ·subst e;simp
 ·have h:¬ (aa9 a:Key)=aa9 b:=λq=>e (aa9.inj q);rw[decide_eq_false h,decide_eq_false e]
theorem tS(a:Int)(b:Str):decide ((aa8 a:Key)=aa9 b)=false:=decide_eq_false (λq=>nomatch q)
theorem vE(a:Str)(b:Int):decide ((aa9 a:Key)=aa8 b)=false:=decide_eq_false (λq=>nomatch q)
def mn(prog:C1)(w:F8):PySem.KeyKind prog w Key where
 is:=tF
 hash:=yf w
 inj:=λv a b n l=>by
  rcases aV n with⟨i,t,rfl,rfl⟩|⟨x,t,rfl,rfl⟩
  ·rcases aV l with⟨j,u,rfl,e⟩|⟨y,u,rfl,e⟩
   ·injection e with f _;rw[f]
   ·exact nomatch e
  ·rcases aV l with⟨j,u,rfl,e⟩|⟨y,u,rfl,e⟩
   ·exact nomatch e
   ·injection e with f _;rw[f]
 byValue:=λk v h=>by
  rcases aV h with⟨i,t,rfl,rfl⟩|⟨x,t,rfl,rfl⟩<;>rfl
 pyHash:=λg h=>by
  rcases aV g with⟨i,t,rfl,rfl⟩|⟨x,t,rfl,rfl⟩
  ·exact wpAny_pyHash_int h
  ·exact wpAny_pyHash_str h
 eqBool:=λm g h=>by
  rcases aV m with⟨i,t,rfl,rfl⟩|⟨x,t,rfl,rfl⟩
  ·rcases aV g with⟨j,u,rfl,rfl⟩|⟨y,u,rfl,rfl⟩
   ·rw[vj]at h;exact wpAny_eqBool_int h
   ·rw[tS]at h;exact J9.int_str i t y u _ _ _ _ h
  ·rcases aV g with⟨j,u,rfl,rfl⟩|⟨y,u,rfl,rfl⟩
   ·rw[vE]at h;exact J9.str_int x t j u _ _ _ _ h
   ·rw[uK]at h;exact wpAny_eqBool_str h
 «strs»:=λk x t v h=>by
  rcases aV h with⟨i,u,rfl,e⟩|⟨y,u,rfl,e⟩
  ·exact nomatch e
  ·injection e with f _
   subst f;cases v<;>rfl
inductive V where
 |non|bl (b:Bool)|int (i:Int)|str (x:Str)|byt (b:Array UInt8)|flt (b:UInt64)|ref (a:A1)|ty (n:String)
 deriving DecidableEq
def aF:V->o0->Prop
 |.non,u=>u=C4
 |.bl b,u=>u=U8 b
 |.int i,u=>∃t,u=o0.int i t
 |.str x,u=>∃t,u=aa0 x t
 |.byt b,u=>∃t,u=o0.bytes b t
 |.flt b,u=>∃t,u=o0.float b t
 |.ref a,u=>u=A9 a
 |.ty n,u=>u=D5 n
abbrev au:List V->List o0->Prop:=S2 aF
theorem au.length{a:List V}{b:List o0}(r:au a b):a.length=b.length:=S2.length r
theorem au.get:∀{a:List V}{b:List o0}{i:Nat}{x:V},au a b->a[i]?=some x->∃u,b[i]?=some u/\aF x u
 |_,_,_,_,.nil,e=>by simp at e
 |_,_,0,_,.cons r _,e=>by simp at e;subst e;exact⟨_,rfl,r⟩
 |_,_,i+1,x,.cons _ t,e=>by
  obtain⟨u,f,g⟩:=au.get (i:=i) (x:=x) t (by simpa using e);exact⟨u,by simpa using f,g⟩
theorem au.set{x:V}{u:o0}(r:aF x u):∀{a:List V}{b:List o0}(i:Nat),au a b->au (a.set i x) (b.set i u)
 |_,_,_,.nil=>.nil
 |_,_,0,.cons _ t=>.cons r t
 |_,_,i+1,.cons q t=>.cons q (au.set r i t)
theorem au.append:∀{a ys:List V}{b ws:List o0},au a b->au ys ws->au (a++ys) (b++ws)
 |_,_,_,_,.nil,s=>s
 |_,_,_,_,.cons r t,s=>.cons r (au.append t s)
theorem au.take:∀{a:List V}{b:List o0}(n:Nat),au a b->au (a.take n) (b.take n)
 |_,_,0,_=>.nil
 |_,_,_+1,.nil=>.nil
 |_,_,n+1,.cons r t=>.cons r (au.take n t)
theorem au.drop:∀{a:List V}{b:List o0}(n:Nat),au a b->au (a.drop n) (b.drop n)
 |_,_,0,r=>r
 |_,_,_+1,.nil=>.nil
 |_,_,n+1,.cons _ t=>au.drop n t
def p8:Option V->Option o0->Prop
 |some v,some u=>aF v u
 |none,none=>True
 |_,_=>False
def KV{a:Type}:List (a×V)->List (a×o0)->Prop:=S2 λ(p:a×V) (q:a×o0)=>p.1=q.1/\aF p.2 q.2
def kV:Key->V
 |.inl i=>.int i
 |.inr x=>.str x
inductive HO where
 |lst (xs:List V)
 |tup (xs:List V)
 |dK (kvs:List (Key×V))|dT (kvs:List (List Key×V))
 |set (S:Int->Bool) (n:Nat)
 |ins (C dx:A1) (fs:List (Str×V))
 |own (x:A1)
 |xd (fs:List (Str×V))
 |met (f x:A1)
 |rng (lo hi:Int)
 |frz (o:Obj) (u:HO)
 |tbl (ps:Array o0)
 |ext (φ:C9->Prop)
abbrev Hp:=A1->Option HO
def upd(H:Hp)(a:A1)(o:HO):Hp:=λb=>if b=a then some o else H b
theorem aM{H:Hp}{a:A1}{o:HO}:upd H a o a=some o:=by unfold upd;rw[if_pos rfl]
theorem az{H:Hp}{a b:A1}{o:HO}(h:b≠a):upd H a o b=H b:=by unfold upd;rw[if_neg h]
theorem rm{H:Hp}{a:A1}{o u:HO}:upd (upd H a o) a u=upd H a u:=by
 funext b;unfold upd;split<;>rfl
theorem bJ{H:Hp}{a b:A1}{o:HO}(h:H a=some o)(h':H b=none):a≠b:=by
 intro e;subst e;rw[h]at h';cases h'
def ia(h:C9)(a:A1)(b:Array o0):Prop:=∃o,h.get? a=some o/\o.cls=.type "tuple"/\(∃n,o.data=.seq b n)/\o.dict=none
theorem ia.tup{h:C9}{a:A1}{b:Array o0}(x:ia h a b):ad1 h a b:=let⟨o,e,c,d,_⟩:=x;⟨o,e,c,d⟩
theorem ia.lt{h:C9}{a:A1}{b:Array o0}(x:ia h a b):a<h.objs.size:=let⟨_,e,_⟩:=x;A7 e
theorem ia.new(h:C9)(a:Array o0):ia (h.push { cls:=.type "tuple",data:=.seq a }) h.objs.size a:=⟨_,C8 h rfl,rfl,⟨_,rfl⟩,rfl⟩
section
variable(P:C1) (w:F8)
def bK(H:Hp)(h:C9)(a:A1):HO->Prop
 |.lst g=>g.length<=A0/\∃(e:List o0) (n:Nat),au g e/\h.get? a=some { cls:=.type "list",data:=.seq e.toArray n }
 |.tup g=>g.length<=A0/\∃e:List o0,au g e/\ia h a e.toArray
 |.dK b=>b.length<=A0/\(a==sysModules)=false/\∃s,KV b s/\h.DictOf (mn P w) a s
 | .dT b => b.length ≤ A0 ∧ (a == sysModules) = false ∧ ∃ g:List (List Key × A1 × o0),
   S2 (λ(p:List Key×V) (q:List Key×A1×o0)=>p.1=q.1/\H q.2.1=some (.tup (p.1.map kV))/\aF p.2 q.2.2) b g /\
   ∃o m G,h.get? a=some o/\o.ExactDict/\o.data=.dict m G/\m.toList=g.map (entryOfKey (tupleKind (mn P w)))/\(g.map (·.1)).Nodup
 |.set S n=>h.SetOf (intKind P w) a S n
 | .ins C j fs => H j = some (.own a) ∧ fs.length ≤ 1000 ∧ j ≠ a ∧ h.get? a = some (PySem.W.instObj C j) ∧
   ∃i,h.Ns1 j i/\(∀f,p8 (fs.lookup f) (i f))/\PySem.Within i (fs.map (·.1))
 |.own _=>∃o,h.get? a=some o
 |.xd fs=>∃i,h.Ns1 a i/\∀f,p8 (fs.lookup f) (i f)
 |.rng lo E=>∃t u v,h.get? a=some { cls:=.type "range",data:=.fields #[.int lo t,.int E u,.int 1 v] }
 |.frz o u=>h.get? a=some o/\bK H h a u
 |.tbl B=>h.get? a=some { cls:=.none,data:=.fields B }
 |.met f x=>h.get? a=some (PySem.W.methodObj (.ref f) (.ref x))
 |.ext l=>l h/\(∃o,h.get? a=some o)/\∀z A:C9,l z->(∀o,z.get? a=some o->A.get? a=some o)->l A
def HOk(H:Hp)(h:C9):Prop:=∀a o,H a=some o->bK P w H h a o
end
section
variable{P:C1}{w:F8}{H g:Hp}{h h':C9}{a:A1}{o:HO}
theorem bK.lt(x:bK P w H h a o):a<h.objs.size:=by
 cases o with
 |lst g=>obtain⟨_,_,_,_,e⟩:=x;exact A7 e
 |tup g=>obtain⟨_,_,_,p⟩:=x;exact p.lt
 |dK b=>obtain⟨_,_,_,_,o,_,_,e,_⟩:=x;exact A7 e
 |dT b=>obtain⟨_,_,_,_,o,_,_,e,_⟩:=x;exact A7 e
 |set S n=>obtain⟨o,_,_,_,e,_⟩:=x;exact A7 e
 |ins C m fs=>obtain⟨_,_,_,e,_⟩:=x;exact A7 e
 |own y=>obtain⟨_,e⟩:=x;exact A7 e
 |xd fs=>obtain⟨_,⟨_,_,_,e,_⟩,_⟩:=x;exact A7 e
 |rng lo i=>obtain⟨_,_,_,e⟩:=x;exact A7 e
 |frz j u=>obtain⟨e,_⟩:=x;exact A7 e
 |tbl l=>exact A7 (show h.get? a=some _ from x)
 |met f y=>exact A7 (show h.get? a=some _ from x)
 |ext q=>obtain⟨_,⟨_,e⟩,_⟩:=x;exact A7 e
theorem S2.mapP{i h:Type}{F G:i->h->Prop}:∀{g:List i}{e:List h},S2 F g e->(∀a b,F a b->G a b)->S2 G g e
 |_,_,.nil,_=>.nil
 |_,_,.cons r t,f=>.cons (f _ _ r) (S2.mapP t f)
theorem S2.imp'{i h:Type}{F G:i->h->Prop}(f:∀a b,F a b->G a b){g:List i}{e:List h}(r:S2 F g e):S2 G g e:=S2.mapP r f
theorem bK.stay(x:bK P w H h a o)(k:∀b u,(b=a∨H b=some (.own a))->h.get? b=some u->h'.get? b=some u)
  (J:∀b,H b=some (.own a)->g b=some (.own a)) (L:∀b s,H b=some (.tup s)->g b=some (.tup s)):bK P w g h' a o:=by
 induction o with
 |lst s=>obtain⟨z,m,n,r,e⟩:=x;exact⟨z,m,n,r,k _ _ (.inl rfl) e⟩
 |tup s=>obtain⟨z,m,r,i,e,c⟩:=x;exact⟨z,m,r,i,k _ _ (.inl rfl) e,c⟩
 |dK B=>obtain⟨z,y,M,r,i,j,l,e,c⟩:=x;exact⟨z,y,M,r,i,j,l,k _ _ (.inl rfl) e,c⟩
 |dT B =>
  obtain⟨z,y,s,r,i,j,l,e,c⟩:=x;exact⟨z,y,s,S2.mapP r λp q z=>⟨z.1,L _ _ z.2.1,z.2.2⟩,i,j,l,k _ _ (.inl rfl) e,c⟩
 |set S n=>obtain⟨i,j,l,t,e,c⟩:=x;exact⟨i,j,l,t,k _ _ (.inl rfl) e,c⟩
 |ins C Q fs =>
  obtain⟨d,z,N,e,A,⟨E,j,l,I,c⟩,r⟩:=x;exact⟨J _ d,z,N,k _ _ (.inl rfl) e,A,⟨E,j,l,k _ _ (.inr d) I,c⟩,r⟩
 |own y=>obtain⟨i,e⟩:=x;exact⟨i,k _ _ (.inl rfl) e⟩
 |xd fs=>obtain⟨A,⟨E,j,l,e,c⟩,r⟩:=x;exact⟨A,⟨E,j,l,k _ _ (.inl rfl) e,c⟩,r⟩
 |rng lo O=>obtain⟨t,u,v,e⟩:=x;exact⟨t,u,v,k _ _ (.inl rfl) e⟩
 |frz i u ih=>obtain⟨e,q⟩:=x;exact⟨k _ _ (.inl rfl) e,ih q⟩
 |tbl G =>
  have e:h.get? a=some { cls:=.none,data:=.fields G }:=x;show h'.get? a=some { cls:=.none,data:=.fields G };exact k a _ (.inl rfl) e
 |met f y =>
  have e:h.get? a=some (PySem.W.methodObj (.ref f) (.ref y)):=x;show h'.get? a=some (PySem.W.methodObj (.ref f) (.ref y));exact k a _ (.inl rfl) e
 |ext R=>obtain⟨p,⟨o,e⟩,st⟩:=x;exact⟨st _ _ p λo q=>k _ _ (.inl rfl) q,⟨o,k _ _ (.inl rfl) e⟩,st⟩
theorem HOk.lt(x:HOk P w H h)(e:H a=some o):a<h.objs.size:=(x a o e).lt
theorem HOk.fresh(x:HOk P w H h)(e:h.objs.size<=a):H a=none:=by
 cases q:H a with
 |none=>rfl
 |some u=>exact absurd (A8 (x.lt q) e) (O7 _)
theorem HOk.kept(x:HOk P w H h)(k:∀b u,h.get? b=some u->h'.get? b=some u):HOk P w H h':=λa o e =>
 (x a o e).stay (λb u _ q=>k b u q) (λ_ q=>q) λ_ _ q=>q
theorem HOk.laid(x:HOk P w H h)(k:∀b u,h.get? b=some u->h'.get? b=some u)(i:h.objs.size<=a)(new:bK P w (upd H a o) h' a o):HOk P w (upd H a o) h':=λb u e=>by
 have g:=x.fresh i
 by_cases f:b=a
 ·subst f;rw[aM]at e;cases e;exact new
 ·rw[az f]at e;exact(x b u e).stay (λc v _ q=>k c v q) (λc q=>by rw[az (bJ q g)];exact q) λc j q=>by rw[az (bJ q g)];exact q
end
def Rd(H:Hp)(a:A1)(u:HO):Prop:=H a=some u∨∃o,H a=some (.frz o u)
theorem Rd.of{H:Hp}{a:A1}{u:HO}(h:H a=some u):Rd H a u:=.inl h
theorem Rd.ok{P:C1}{w:F8}{H:Hp}{h:C9}{a:A1}{u:HO}(r:Rd H a u)(x:HOk P w H h):bK P w H h a u:=by
 rcases r with r|⟨o,r⟩
 ·exact x a u r
 ·obtain⟨_,q⟩:=x a _ r;exact q
def Mut:Option HO->Prop
 |some (.lst _)=>True
 |some (.dK _)=>True
 |some (.dT _)=>True
 |some (.set _ _)=>True
 |some (.ins _ _ _)=>True
 |some (.ext _)=>True
 |_=>False
section
variable{P:C1}{w:F8}{H:Hp}{h h':C9}{x e:A1}{g:HO}
theorem HOk.write(ok:HOk P w H h)(m:Mut (H x))(he:e=x∨H e=some (.own x))(k:∀b u,b≠e->h.get? b=some u->h'.get? b=some u)(o:∃u,h'.get? e=some u)
  (new:bK P w (upd H x g) h' x g):HOk P w (upd H x g) h':=λb u q=>by
 have f:∀c y,H c=some (.own y)->c≠x:=λc y r z=>by subst z;rw[r]at m;exact m
 have i:∀c n,H c=some (.tup n)->c≠x:=λc n r z=>by subst z;rw[r]at m;exact m
 by_cases l:b=x
 ·subst l;rw[aM]at q;cases q;exact new
 ·rw[az l]at q
  by_cases a:b=e
  ·have p:H b=some (.own x):=by
    rcases he with z|z
    ·exact absurd (a.trans z) l
    ·rw[a];exact z
   rw[q]at p;cases p;obtain⟨v,s⟩:=o;exact⟨v,by rw[a];exact s⟩
  ·refine(ok b u q).stay (λc v j r=>k c v ?_ r) (λc r=>by rw[az (f c b r)];exact r) λc n r=>by rw[az (i c n r)];exact r
   rcases j with rfl|j
   ·exact a
   ·rintro rfl;rcases he with z|z
    ·exact f c b j z
    ·rw[j]at z;cases z;exact l rfl
end
structure Un(fs ex:List A1) (H H':Hp) (h h':C9):Prop where
 keep:∀b o,h.get? b=some o->H b=none->b∉fs->b∉ex->h'.get? b=some o
 slot:∀b o,h.get? b=some o->H b=none->b∈fs->b∉ex->∃sl,h'.get? b=some { o with slots:=sl }
 free:∀b o,h.get? b=some o->H b=none->b∉ex->H' b=none
 there:∀b o,h.get? b=some o->b∉ex->∃o',h'.get? b=some o'
 tups:∀b xs,H b=some (.tup xs)->H' b=some (.tup xs)
 frzs:∀b o u,H b=some (.frz o u)->H' b=some (.frz o u)
 tbls:∀b ps,H b=some (.tbl ps)->∃more,H' b=some (.tbl (ps++more))
section
variable{fs B g E:List A1}{H G I:Hp}{h t J h':C9}{a x e:A1}{o:HO}
theorem Un.any(u:Un fs g H G h t){b:A1}{a:Obj}(q:h.get? b=some a)(n:H b=none)(f:b∉g):∃i,t.get? b=some { a with slots:=i }:=by
 by_cases e:b∈fs
 ·exact u.slot b a q n e f
 ·exact⟨a.slots,u.keep b a q n e f⟩
theorem Un.kept(k:∀b u,h.get? b=some u->h'.get? b=some u):Un fs g H H h h' :=
 ⟨λb a q _ _ _=>k b a q,λb a q _ _ _=>⟨a.slots,k b a q⟩,λ_ _ _ n _=>n,λb a q _=>⟨a,k b a q⟩,λ_ _ q=>q,λ_ _ _ q=>q,λ_ e q=>⟨#[],by rw[q];simp⟩⟩
theorem Un.refl:Un fs g H H h h:=Un.kept λ_ _ q=>q
theorem Un.laid(k:∀b u,h.get? b=some u->h'.get? b=some u)(i:h.objs.size<=a)(e:H a=none):Un fs g H (upd H a o) h h' where
 keep:=λb u q _ _ _=>k b u q
 slot:=λb u q _ _ _=>⟨u.slots,k b u q⟩
 free:=λb u q n _=>by rw[az (D1 (A8 (A7 q) i))];exact n
 there:=λb u q _=>⟨u,k b u q⟩
 tups:=λb f q=>by rw[az (bJ q e)];exact q
 frzs:=λb u f q=>by rw[az (bJ q e)];exact q
 tbls:=λb j q=>⟨#[],by rw[az (bJ q e),q];simp⟩
theorem Un.write(f:Mut (H x))(he:e=x∨H e=some (.own x))(k:∀b u,b≠e->h.get? b=some u->h'.get? b=some u)(i:∃u,h'.get? e=some u):Un fs g H (upd H x o) h h':=by
 have m:∀b,H b=none->b≠x:=λb n z=>by subst z;rw[n]at f;exact f
 have l:∀b,H b=none->b≠e:=λb n z=>by
  subst z;rcases he with r|r
  ·exact m b n r
  ·rw[n]at r;cases r
 have j:∀b u,H b=some u->¬ Mut (some u)->b≠x:=λb u q p z=>by subst z;rw[q]at f;exact p f
 refine⟨λb u q n _ _=>k b u (l b n) q,λb u q n _ _=>⟨u.slots,k b u (l b n) q⟩,λb u q n _=>by rw[az (m b n)];exact n,λb u q _=>?_,
  λb s q=>by rw[az (j b _ q λz=>z)];exact q,λb u s q=>by rw[az (j b _ q λz=>z)];exact q,λb t q=>⟨#[],by rw[az (j b _ q λz=>z),q];simp⟩⟩
 by_cases a:b=e
 ·subst a;exact i
 ·exact⟨u,k b u a q⟩
end
def trk(h:C9)(H:Hp):List A1:=(O5 h.objs.size).filter λa=>(H a).isSome
def jS(h:C9)(H:Hp):C9:=PySem.W.hideAll h (trk h H)
theorem nr(h:C9)(H:Hp):(jS h H).objs.size=h.objs.size:=PySem.W.hideAll_size _ _
theorem pV{h:C9}{H:Hp}{b:A1}{o:Obj}(e:h.get? b=some o)(n:H b=none):(jS h H).get? b=some o :=
 Q3 _ e λa=>by
  have q:(H b).isSome=true:=(W6.mp a).2;rw[n]at q;simp at q
theorem qQ{h:C9}{H:Hp}{b:A1}{o:Obj}(e:(jS h H).get? b=some o):h.get? b=some o/\H b=none:=by
 have a:h.get? b=some o:=PySem.W.of_hideAll (trk h H) e;refine⟨a,?_⟩;cases q:H b with
 |none=>rfl
 |some x =>
  have f:b∈trk h H:=W6.mpr ⟨List.mem_range.mpr (A7 a),by simp[q]⟩;have z:(jS h H).get? b=none:=S3 (trk h H) f;rw[z]at e;cases e
noncomputable def sm(g h:C9)(L:A1):List (A1×Obj):=(O5 h.objs.size).filterMap λa=>if a=L∨(g.get? a).isSome=true then none else(h.get? a).map λo=>(a,o)
def rest(g h:C9)(L d:A1):List (A1×Obj):=(sm g h L).filter λp=>decide (p.1≠d)
structure Mod(K:s0) (mg:Str->Option o0) (base:C9):Prop where
 kin:K.In base
 glob:base.Ns B1 mg
 blt:∃mb,base.Ns builtinsNs mb/\∀x:Str,x≠"__name__"->mb x=O8 x
 nolimit:base.NoLimit
structure Cx where
 prog:C1
 w:F8
 K:s0
 mg:Str->Option o0
 base:C9
 A:D4
 N:List Str
 s₀:z4
 H₀:Hp
 env:Env
 outer:List Env
 stack:List Env
 ex:List A1
 fn:Str->Bool
 calm:Bool
 pn:List (A1×Obj)
 xe:o0->z4->Prop
def frs(l:List Env):List A1:=l.filterMap (·.frame)
abbrev Cx.fs(X:Cx):List A1:=frs X.outer
def Vis(a:T0)(x:Str):Prop:=a.names.lookup x=some .local∨a.names.lookup x=some .cell∨a.names.lookup x=some .free
def Loc(a:T0)(x:Str):Prop:=a.names.lookup x=some .local∨a.names.lookup x=some .cell
def xZ(env:Env)(h:C9)(m:Str->Option o0)(x:Str)(u:o0):Prop :=
 (env.kindOf x=some .local/\m x=some u)∨((env.kindOf x=some .cell∨env.kindOf x=some .free)/\∃c,env.cells.lookup x=some c/\h.IsCell c (some u))
structure Cx.Ok(X:Cx):Prop where
 mod:Mod X.K X.mg X.base
 kind:X.env.scope.kind=.function
 glob:X.env.globals=B1
 blt:X.env.builtins=builtinsNs
 above:X.s₀.heap.objs.size<=X.env.locals
 inj:∀x y c,X.env.cells.lookup x=some c->X.env.cells.lookup y=some c->x=y
 has:∀x,(X.env.kindOf x=some .cell∨X.env.kindOf x=some .free)->∃c,X.env.cells.lookup x=some c
 cab:∀x c,X.fn x=true->X.env.cells.lookup x=some c->X.s₀.heap.objs.size<=c
 hd:X.calm=true->X.A.handled=none
 frames:X.A.frames=some X.stack
 stk:X.stack=X.outer∨(X.stack=X.env::X.outer/\X.env.frame=some X.env.locals)
 exf:∀b∈X.ex,b≠X.env.locals/\∀x c,X.env.cells.lookup x=some c->c≠b
 bs:∀b o,X.base.get? b=some o->X.s₀.heap.get? b=some o/\X.H₀ b=none
 bsz:X.base.objs.size<=X.s₀.heap.objs.size
 noex:∀b o,X.base.get? b=some o->b∉X.ex
 exfs:∀b∈X.ex,b∉X.fs
 funs:X.s₀.heap.FunFrames X.base X.outer
 frf:∀b∈X.fs,X.H₀ b=none
structure Inv(X:Cx) (aa:List (A1×Obj)) (σ:List (Option V)) (H:Hp) (s:z4):Prop where
 ok:X.Ok
 os:s.os=X.s₀.os
 bare:V9 s.gens
 base:Un X.fs X.ex X.H₀ H X.s₀.heap s.heap
 loc:∃m,s.heap.Ns X.env.locals m/\∀(i:Nat) (x:Str) (v:V),X.N[i]?=some x->σ[i]?=some (some v)->Vis X.env.scope x->∃u,aF v u/\xZ X.env s.heap m x u
 cell:∀x c,X.env.cells.lookup x=some c->∃v,s.heap.IsCell c v
 free:H X.env.locals=none
 freeC:∀x c,X.env.cells.lookup x=some c->H c=none
 pin:∀p∈X.pn++aa,s.heap.get? p.1=some p.2/\H p.1=none/\p.1≠X.env.locals/\p.1∉X.fs/\∀v,p.2.data≠.cell v
 hok:HOk X.prog X.w H s.heap
 len:σ.length=X.N.length
section
variable{X:Cx}{g:List (A1×Obj)}{σ:List (Option V)}{H B:Hp}{s:z4}{h':C9}
theorem Cx.Ok.nofr(ok:X.Ok){b:A1}{o:Obj}(e:X.base.get? b=some o):b∉X.fs:=λa=>by
 have:=(ok.funs.mem a).1;rw[e]at this;cases this
theorem Inv.bs(I:Inv X g σ H s):∀b o,X.base.get? b=some o->s.heap.get? b=some o/\H b=none:=λb o e =>
 ⟨I.base.keep b o (I.ok.bs b o e).1 (I.ok.bs b o e).2 (I.ok.nofr e) (I.ok.noex b o e),I.base.free b o (I.ok.bs b o e).1 (I.ok.bs b o e).2 (I.ok.noex b o e)⟩
theorem Inv.bk(I:Inv X g σ H s):∀b o,X.base.get? b=some o->s.heap.get? b=some o:=λb o e=>(I.bs b o e).1
theorem Inv.mod(I:Inv X g σ H s):Mod X.K X.mg X.base:=I.ok.mod
theorem Inv.kIn(I:Inv X g σ H s):X.K.In s.heap:=I.ok.mod.kin.keeps I.bk
theorem Inv.lt(I:Inv X g σ H s):X.env.locals<s.heap.objs.size:=let⟨_,a,_⟩:=I.loc;a.lt
theorem Inv.sz(I:Inv X g σ H s):X.s₀.heap.objs.size<=s.heap.objs.size:=E7 I.ok.above (X8 I.lt)
theorem Inv.nofs(I:Inv X g σ H s){a:A1}(h:s.heap.objs.size<=a):a∉X.fs:=λb=>by
 obtain⟨_,o,e,_⟩:=I.ok.funs.mem b;exact absurd (A8 (A7 e) (E7 I.sz h)) (O7 _)
theorem Inv.cne(I:Inv X g σ H s):∀x c,X.env.cells.lookup x=some c->c≠X.env.locals:=λx c e z=>by
 obtain⟨v,o,h,f⟩:=I.cell x c e;obtain⟨m,⟨i,j,l,a,b,_⟩,_⟩:=I.loc;rw[z,a]at h;cases h;rw[b]at f;cases f
theorem Inv.funs(I:Inv X g σ H s):s.heap.FunFrames X.base X.outer:=by
 have all:∀(l:List Env),(∀b∈frs l,b∈X.fs)->X.s₀.heap.FunFrames X.base l->s.heap.FunFrames X.base l:=by
  intro l
  induction l with
  |nil=>intro _ _;trivial
  |cons m r ih =>
   intro i u;obtain⟨p,⟨L,o,h,q,t,j⟩,n⟩:=u;have a:L∈X.fs:=i L (by unfold frs;rw[K7,h];exact F1);obtain⟨w,e⟩:=I.base.slot L o t (I.ok.frf L a) a λz=>I.ok.exfs L z a;exact⟨p,⟨L,_,h,q,e,j⟩,ih (λb f=>i b (by unfold frs;rw[K7,h];exact B4 _ f)) n⟩
 exact all X.outer (λ_ f=>f) I.ok.funs
theorem Inv.stack(I:Inv X g σ H s):s.heap.FunFrames X.base X.stack:=by
 rcases I.ok.stk with e|⟨e,b⟩
 ·rw[e];exact I.funs
 ·rw[e];obtain⟨m,a,_⟩:=I.loc;refine .cons (by rw[I.ok.kind];decide) b a ?_ I.funs;exact L9 (E7 I.ok.bsz I.ok.above)
theorem Inv.stkSub(I:Inv X g σ H s):∀b∈frs X.stack,b∈X.env.locals::X.fs:=λb a=>by
 rcases I.ok.stk with e|⟨e,f⟩
 ·rw[e]at a;exact B4 _ a
 ·rw[e]at a;unfold frs at a;rw[K7,f]at a;exact a
theorem Inv.stkFree(I:Inv X g σ H s):∀b∈frs X.stack,H b=none:=λb a=>by
 rcases A5.mp (I.stkSub b a)with e|a
 ·rw[e];exact I.free
 ·obtain⟨_,o,f,_⟩:=I.ok.funs.mem a;exact I.base.free b o f (I.ok.frf b a) λz=>I.ok.exfs b z a
theorem Inv.step{g':Array ab5}{t':Nat}{d':Drawn}{ch:List A1}(I:Inv X g σ H s)
  (f:∀b∈ch,(b∈X.ex∨X.s₀.heap.objs.size<=b)/\b≠X.env.locals/\(∀x c,X.env.cells.lookup x=some c->c≠b)/\∀p∈X.pn++g,p.1≠b)
  (keep:∀b o,b≠X.env.locals->b∉X.fs->b∉ch->s.heap.get? b=some o->H b=none->h'.get? b=some o)
  (slot:∀b o,b≠X.env.locals->b∈X.fs->b∉ch->s.heap.get? b=some o->H b=none->∃T,h'.get? b=some { o with slots:=T }) (free:∀b o,b∉ch->s.heap.get? b=some o->H b=none->B b=none)
  (C:∀b o,b∉ch->s.heap.get? b=some o->∃L,h'.get? b=some L)
  (O:∀b A,H b=some (.tup A)->B b=some (.tup A)) (J:∀b o u,H b=some (.frz o u)->B b=some (.frz o u)) (N:∀b ps,H b=some (.tbl ps)->∃P,B b=some (.tbl (ps++P)))
  (ns:∀m,s.heap.Ns X.env.locals m->h'.Ns X.env.locals m) (U:HOk X.prog X.w B h') (hg:V9 g') :
  Inv X g σ B { s with heap:=h',gens:=g',drawn:=d',toks:=t' }:=by
 have Q:∀b o,X.s₀.heap.get? b=some o->b≠X.env.locals:=λb o e=>D1 (A8 (A7 e) I.ok.above);have w:∀b o,X.s₀.heap.get? b=some o->b∉X.ex->b∉ch:=λb o e a E=>by
  rcases(f b E).1 with z|z
  ·exact a z
  ·exact absurd (A8 (A7 e) z) (O7 _)
 have h:∀x c,X.env.cells.lookup x=some c->∀v,s.heap.IsCell c v->h'.IsCell c v:=λx c e v ⟨o,G,R⟩=>by
  have j:c∉ch:=λz=>(f c z).2.2.1 x c e rfl
  by_cases hc:c∈X.fs
  ·obtain⟨T,q⟩:=slot c o (I.cne x c e) hc j G (I.freeC x c e);exact⟨_,q,R⟩
  ·exact⟨o,keep c o (I.cne x c e) hc j G (I.freeC x c e),R⟩
 refine⟨I.ok,I.os,hg,⟨λb o e n E a=>?_,λb o e n E a=>?_,λb o e n a=>?_,λb o e a=>?_,λb A e=>O b A (I.base.tups b A e),λb o A e=>J b o A (I.base.frzs b o A e),λb ps e=>?_⟩,?_,λx c e=>?_,?_,λx c e=>?_,λp Z=>?_,U,I.len⟩
 ·exact keep b o (Q b o e) E (w b o e a) (I.base.keep b o e n E a) (I.base.free b o e n a)
 ·obtain⟨T,t⟩:=I.base.slot b o e n E a;obtain⟨S,M⟩:=slot b _ (Q b o e) E (w b o e a) t (I.base.free b o e n a);exact⟨S,M⟩
 ·obtain⟨L,t⟩:=I.base.there b o e a;exact free b L (w b o e a) t (I.base.free b o e n a)
 ·obtain⟨L,t⟩:=I.base.there b o e a;exact C b L (w b o e a) t
 ·obtain⟨m1,t⟩:=I.base.tbls b ps e;obtain⟨m2,M⟩:=N b _ t;exact⟨m1++m2,by rw[M,Array.append_assoc]⟩
 ·obtain⟨m,hn,hl⟩:=I.loc;refine⟨m,ns m hn,λi x v t M e3=>?_⟩;obtain⟨u,r,l⟩:=hl i x v t M e3;refine⟨u,r,?_⟩;rcases l with l|⟨k,c,e,z⟩
  ·exact .inl l
  ·exact .inr ⟨k,c,e,h x c e _ z⟩
 ·obtain⟨v,z⟩:=I.cell x c e;exact⟨v,h x c e v z⟩
 ·obtain⟨m,⟨o,_,_,G,_⟩,_⟩:=I.loc;exact free _ o (λz=>(f _ z).2.1 rfl) G I.free
 ·obtain⟨v,o,G,R⟩:=I.cell x c e;exact free c o (λz=>(f c z).2.2.1 x c e rfl) G (I.freeC x c e)
 ·obtain⟨e,n,ne,Y,d⟩:=I.pin p Z;have j:p.1∉ch:=λz=>(f p.1 z).2.2.2 p Z rfl;exact⟨keep p.1 p.2 ne Y j e n,free p.1 p.2 j e n,ne,Y,d⟩
theorem Inv.un{t':Nat}(I:Inv X g σ H s)(u:Un X.fs [] H B s.heap h')(f:HOk X.prog X.w B h'):Inv X g σ B { s with heap:=h',toks:=t' }:=by
 obtain⟨m,⟨o,x,w,l,r⟩,_⟩:=id I.loc;obtain⟨C,p⟩:=u.any l I.free (by simp);exact I.step (g':=s.gens) (d':=s.drawn) (ch:=[]) (λ_ z=>nomatch z) (λb o _ j _ e n=>u.keep b o e n j (by simp)) (λb o _ j _ e n=>u.slot b o e n j (by simp)) (λb o _ e n=>u.free b o e n (by simp)) (λb o _ e=>u.there b o e (by simp)) u.tups u.frzs u.tbls (λA t=>by
  obtain⟨E,i,h,a,q⟩:=t;rw[l]at a;cases a;exact⟨_,i,h,p,q⟩) f I.bare
theorem Inv.call{g':Array ab5}{t':Nat}{d':Drawn}{ch:List A1}(I:Inv X g σ H s)(u:Un (frs X.stack) ch H B s.heap h')(i:HOk X.prog X.w B h')(hg:V9 g')
  (h:∀b∈ch,(b∈X.ex∨X.s₀.heap.objs.size<=b)/\b≠X.env.locals/\(∀x c,X.env.cells.lookup x=some c->c≠b)/\∀p∈X.pn++g,p.1≠b) :
  Inv X g σ B { s with heap:=h',gens:=g',drawn:=d',toks:=t' }:=by
 obtain⟨m,⟨o,G,E,t,r⟩,_⟩:=id I.loc;obtain⟨L,j⟩:=u.any t I.free λz=>(h _ z).2.1 rfl;exact I.step (ch:=ch) h (λb o j A a e n=>u.keep b o e n (λz=>(A5.mp (I.stkSub b z)).elim j A) a) (λb o _ _ a e n=>u.any e n a) (λb o a e n=>u.free b o e n a) (λb o a e=>u.there b o e a) u.tups u.frzs u.tbls (λJ C=>by
  obtain⟨M,q,l,f,w⟩:=C;rw[t]at f;cases f;exact⟨_,q,l,j,w⟩) i hg
theorem Inv.turned{t':Nat}{it:A1}(I:Inv X g σ H s)(k:∀b o,b≠it->s.heap.get? b=some o->h'.get? b=some o)(A:H it=none)(h:it≠X.env.locals)
  (i:it∈X.ex∨X.s₀.heap.objs.size<=it) (E:∀x c,X.env.cells.lookup x=some c->c≠it) (j:∀p∈X.pn++g,p.1≠it):Inv X g σ H { s with heap:=h',toks:=t' }:=by
 have f:∀b u,H b=some u->b≠it:=λb u e z=>by rw[z,A]at e;cases e
 refine I.step (g':=s.gens) (d':=s.drawn) (ch:=[it]) (λb t=>?_) (λb o _ _ a e _=>k b o (λz=>a (by simp[z])) e) (λb o _ _ a e _=>⟨o.slots,k b o (λz=>a (by simp[z])) e⟩) (λ_ _ _ _ n=>n)
  (λb o a e=>⟨o,k b o (λz=>a (by simp[z])) e⟩) (λ_ _ e=>e) (λ_ _ _ e=>e) (λb G e=>⟨#[],by rw[e];simp⟩) (λm B=>?_) (λb u e=>?_) I.bare
 ·have e:b=it:=by simpa using t
  subst e;exact⟨i,h,E,j⟩
 ·obtain⟨o,w,l,C,r⟩:=B;exact⟨o,w,l,k _ o (N6 h) C,r⟩
 ·refine(I.hok b u e).stay (λc v a q=>k c v ?_ q) (λ_ q=>q) λ_ _ q=>q;rcases a with z|z
  ·rw[z];exact f b u e
  ·exact f c _ z
theorem Inv.tok(I:Inv X g σ H s)(t:Nat):Inv X g σ H { s with toks:=t }:=I.un (h':=s.heap) (t':=t) Un.refl I.hok
theorem Inv.kept{t':Nat}(I:Inv X g σ H s)(k:∀b u,s.heap.get? b=some u->h'.get? b=some u):Inv X g σ H { s with heap:=h',toks:=t' }:=I.un (Un.kept k) (I.hok.kept k)
theorem Inv.laid{a:A1}{o:HO}{t':Nat}(I:Inv X g σ H s)(k:∀b u,s.heap.get? b=some u->h'.get? b=some u)(e:s.heap.objs.size<=a)(new:bK X.prog X.w (upd H a o) h' a o):
  Inv X g σ (upd H a o) { s with heap:=h',toks:=t' }:=I.un (Un.laid k e (I.hok.fresh e)) (I.hok.laid k e new)
theorem Inv.write{x e:A1}{o:HO}{t':Nat}(I:Inv X g σ H s)(f:Mut (H x))(he:e=x∨H e=some (.own x))(k:∀b u,b≠e->s.heap.get? b=some u->h'.get? b=some u)(a:∃u,h'.get? e=some u)
  (new:bK X.prog X.w (upd H x o) h' x o):Inv X g σ (upd H x o) { s with heap:=h',toks:=t' }:=I.un (Un.write f he k a) (I.hok.write f he k a new)
theorem Inv.pins_of{a:List (A1×Obj)}(I:Inv X g σ H s)(h:∀p∈a,s.heap.get? p.1=some p.2/\H p.1=none/\p.1≠X.env.locals/\p.1∉X.fs/\∀v,p.2.data≠.cell v):Inv X a σ H s :=
 ⟨I.ok,I.os,I.bare,I.base,I.loc,I.cell,I.free,I.freeC,λp b=>(D9.mp b).elim (λz=>I.pin p (D0 _ z)) (h p),I.hok,I.len⟩
theorem g8{N:List Str}(f:N.Nodup){i j:Nat}{x:Str}(a:N[i]?=some x)(b:N[j]?=some x):i=j:=by
 obtain⟨h,e⟩:=D8.mp a;obtain⟨l,g⟩:=D8.mp b;exact(List.getElem_inj f).mp (e.trans g.symm)
theorem iJ{M:ac2}{A:D4}{E:o0->z4->Prop}{i:Nat}{x:Str}{v:V}{u:o0}{Q:Unit->z4->Prop}(I:Inv X g σ H s)(hN:X.N.Nodup)(T:X.N[i]?=some x)(B:Loc X.env.scope x)(r:aF v u)
  (h:∀s',Inv X g (σ.set i (some v)) H s'->(∃a,V5 a s.heap s'.heap/\(a=X.env.locals∨X.env.cells.lookup x=some a))->Q () s') (hf:X.fn x=true∨X.env.scope.names.lookup x=some .local:=by first|exact .inl rfl|exact .inr rfl|assumption):B3 M A (storeName X.env x u) Q E s:=by
 obtain⟨m,hn,hl⟩:=id I.loc;have Z:(X.env.scope.kind==.class || (X.env.scope.kind==.module&&X.env.locals != X.env.globals))=false:=by rw[I.ok.kind];rfl
 have L:i<σ.length:=by rw[I.len];exact(D8.mp T).1
 have cne:=I.cne;have l:∀{a:A1} {h':C9},(∃o,s.heap.get? a=some o/\H a=none)->V5 a s.heap h'->HOk X.prog X.w H h':=λ{a h'} ha f b ob e=>by
  obtain⟨_,_,C⟩:=ha;refine(I.hok b ob e).stay (λc w' w q=>(f.2 c ?_).trans q) (λ_ q=>q) λ_ _ q=>q;rintro rfl;rcases w with rfl|w
  ·rw[C]at e;cases e
  ·rw[C]at w;cases w
 rcases B with J|J
 ·refine wpAny_storeName_local J hn (λh' a1 f=>?_) Z;obtain⟨oL,_,_,a0,_⟩:=id hn;refine h _ ⟨I.ok,I.os,I.bare,⟨λb o e n P B=>?_,λb o e n P B=>?_,I.base.free,λb o e B=>?_,I.base.tups,I.base.frzs,I.base.tbls⟩,⟨_,a1,λj y v' t G e3=>?_⟩,λy c e=>?_,I.free,I.freeC,λp hp=>?_,l ⟨oL,a0,I.free⟩ f,by simpa using I.len⟩ ⟨_,f,.inl rfl⟩
  ·exact(f.2 b (D1 (A8 (A7 e) I.ok.above))).trans (I.base.keep b o e n P B)
  ·obtain⟨sl,t⟩:=I.base.slot b o e n P B;exact⟨sl,(f.2 b (D1 (A8 (A7 e) I.ok.above))).trans t⟩
  ·obtain⟨o',t⟩:=I.base.there b o e B;exact⟨o',(f.2 b (D1 (A8 (A7 e) I.ok.above))).trans t⟩
  ·by_cases O:j=i
   ·subst O;rw[T]at t;cases t;rw[K3 L]at G;cases G;exact⟨u,r,.inl ⟨J,by simp⟩⟩
   ·rw[N4 (N6 O)]at G;obtain⟨u',r',q⟩:=hl j y v' t G e3;refine⟨u',r',?_⟩;rcases q with⟨k,e⟩|⟨k,c,e,z⟩
    ·refine .inl ⟨k,?_⟩;have:y≠x:=λe=>O (g8 hN t (e▸T));simp[this,e]
    ·exact .inr ⟨k,c,e,z.sameBut f (cne y c e)⟩
  ·obtain⟨w',z⟩:=I.cell y c e;exact⟨w',z.sameBut f (cne y c e)⟩
  ·obtain⟨e,n,ne,nf,d⟩:=I.pin p hp;exact⟨(f.2 p.1 ne).trans e,n,ne,nf,d⟩
 ·have N:X.fn x=true:=by
   rcases hf with z|z
   ·exact z
   ·rw[z]at J;cases J
  obtain⟨c,w⟩:=I.ok.has x (.inl J);obtain⟨w',z⟩:=I.cell x c w;refine wpAny_storeName_cell I.ok.kind J w z (λh' Y f=>?_);obtain⟨oc,S,U⟩:=id z;refine h { s with heap:=h' } ⟨I.ok,I.os,I.bare,⟨λb o e n P B=>?_,λb o e n P B=>?_,I.base.free,λb o e B=>?_,I.base.tups,I.base.frzs,I.base.tbls⟩,⟨m,hn.sameBut f (N6 (cne x c w)),λj y v' t G e3=>?_⟩,λy c' e=>?_,I.free,I.freeC,λp hp=>?_,l ⟨oc,S,I.freeC x c w⟩ f,by simpa using I.len⟩ ⟨c,f,.inr w⟩
  ·exact(f.2 b (D1 (A8 (A7 e) (I.ok.cab x c N w)))).trans (I.base.keep b o e n P B)
  ·obtain⟨sl,t⟩:=I.base.slot b o e n P B;exact⟨sl,(f.2 b (D1 (A8 (A7 e) (I.ok.cab x c N w)))).trans t⟩
  ·obtain⟨o',t⟩:=I.base.there b o e B;exact⟨o',(f.2 b (D1 (A8 (A7 e) (I.ok.cab x c N w)))).trans t⟩
  ·by_cases O:j=i
   ·subst O;rw[T]at t;cases t;rw[K3 L]at G;cases G;exact⟨u,r,.inr ⟨.inl J,c,w,Y⟩⟩
   ·rw[N4 (N6 O)]at G;obtain⟨u',r',q⟩:=hl j y v' t G e3;refine⟨u',r',?_⟩;rcases q with q|⟨k,c',e,z'⟩
    ·exact .inl q
    ·refine .inr ⟨k,c',e,z'.sameBut f ?_⟩;rintro rfl;exact O (g8 hN t (I.ok.inj _ _ _ e w▸T))
  ·by_cases R:c'=c
   ·subst R;exact⟨_,Y⟩
   ·obtain⟨w2,z2⟩:=I.cell y c' e;exact⟨w2,z2.sameBut f R⟩
  ·obtain⟨e,n,ne,nf,d⟩:=I.pin p hp;refine⟨(f.2 p.1 ?_).trans e,n,ne,nf,d⟩;intro q;rw[q,S]at e;have q':oc=p.2:=K4 e;exact d w' (by rw[<-q'];exact U)
theorem fi{M:ac2}{A:D4}{E:o0->z4->Prop}{i:Nat}{x:Str}{v:V}{u:o0}{Q:Unit->z4->Prop}(I:Inv X g σ H s)(a:X.N.Nodup)(e:X.N[i]?=some x)(f:Loc X.env.scope x)(r:aF v u)
  (h:∀s',Inv X g (σ.set i (some v)) H s'->Q () s') (j:X.fn x=true∨X.env.scope.names.lookup x=some .local:=by first|exact .inl rfl|exact .inr rfl|assumption):B3 M A (storeName X.env x u) Q E s :=
 iJ I a e f r (λs' b _=>h s' b) j
theorem Inv.call'{s':z4}{ch:List A1}(I:Inv X g σ H s)(m:s'.os=s.os)(u:Un (frs X.stack) ch H B s.heap s'.heap)(a:HOk X.prog X.w B s'.heap)(hg:V9 s'.gens)
  (f:∀b∈ch,(b∈X.ex∨X.s₀.heap.objs.size<=b)/\b≠X.env.locals/\(∀x c,X.env.cells.lookup x=some c->c≠b)/\∀p∈X.pn++g,p.1≠b):Inv X g σ B s':=by
 obtain⟨h',j,i,h,l⟩:=s';have e:l=s.os:=m;subst e;exact I.call (g':=j) (t':=h) (d':=i) u a hg f
end
abbrev XK:=o0->Option A1->Hp->Prop
noncomputable abbrev St:=List (Option V)
abbrev VK:=V->Hp->Prop
abbrev TE:=St->Hp->VK->Prop
abbrev TT:=St->Hp->(Bool->Hp->Prop)->Prop
abbrev TA:=St->Hp->(List V->Hp->Prop)->Prop
structure ip where
 nx:St->Hp->Prop
 rt:VK
 bk:St->Hp->Prop:=λ_ _=>False
 ct:St->Hp->Prop:=λ_ _=>False
abbrev TS:=ip->St->Hp->Prop
def EP(X:Cx)(b:List (A1×Obj))(σ:St)(Q:VK)(u:o0)(s':z4):Prop:=∃v a,Inv X b σ a s'/\aF v u/\Q v a
def TP(X:Cx)(e:List (A1×Obj))(σ:St)(Q:Bool->Hp->Prop)(b:Bool)(s':z4):Prop:=∃a,Inv X e σ a s'/\Q b a
def AP(X:Cx)(e:List (A1×Obj))(σ:St)(Q:List V->Hp->Prop)(f:List o0)(s':z4):Prop:=∃a b,Inv X e σ b s'/\au a f/\Q a b
theorem EP.el{X:Cx}{e:List (A1×Obj)}{σ:St}{Q:VK}{u:o0}{s:z4}{P:Prop}(h:EP X e σ Q u s)(f:∀(v:V) (H:Hp),Inv X e σ H s->aF v u->Q v H->P):P:=by
 obtain⟨g,i,a,b,c⟩:=h;exact f g i a b c
theorem AP.el{X:Cx}{e:List (A1×Obj)}{σ:St}{Q:List V->Hp->Prop}{u:List o0}{s:z4}{P:Prop}(h:AP X e σ Q u s)(f:∀(v:List V) (H:Hp),Inv X e σ H s->au v u->Q v H->P):P:=by
 obtain⟨g,i,a,b,c⟩:=h;exact f g i a b c
theorem TP.el{X:Cx}{e:List (A1×Obj)}{σ:St}{Q:Bool->Hp->Prop}{u:Bool}{s:z4}{P:Prop}(h:TP X e σ Q u s)(f:∀(H:Hp),Inv X e σ H s->Q u H->P):P:=by
 obtain⟨g,a,b⟩:=h;exact f g a b
def SP(X:Cx)(e:List (A1×Obj))(D:ip)(f:Flow)(s':z4):Prop :=
 match f with
 |.next=>∃ a b,Inv X e a b s'/\D.nx a b
 |.brk=>∃ a b,Inv X e a b s'/\D.bk a b
 |.cont=>∃ a b,Inv X e a b s'/\D.ct a b
 |.ret u=>∃v a b,Inv X e a b s'/\aF v u/\D.rt v b
def PE(X:Cx)(e:C5)(t:TE):Prop :=
 ∀(b:List (A1×Obj)) (s:z4) (a:St) (H:Hp) (Q:VK),Inv X b a H s->t a H Q->B3 (D3 X.prog X.w) X.A (M6 e X.env) (EP X b a Q) X.xe s
def PT(X:Cx)(e:C5)(t:TT):Prop :=
 ∀(b:List (A1×Obj)) (s:z4) (a:St) (H:Hp) (Q:Bool->Hp->Prop),Inv X b a H s->t a H Q->B3 (D3 X.prog X.w) X.A (isTrue e X.env (M6 e X.env)) (TP X b a Q) X.xe s
def PW(X:Cx)(e:C5)(t:TT):Prop :=
 ∀(a:Sem o0) (f:List (A1×Obj)) (s:z4) (b:St) (H:Hp) (Q:Bool->Hp->Prop),Inv X f b H s->t b H Q->B3 (D3 X.prog X.w) X.A (isTrue e X.env a) (TP X f b Q) X.xe s
theorem PW.pt{X:Cx}{e:C5}{t:TT}(h:PW X e t):PT X e t:=h _
def PA(X:Cx)(f:List C5)(t:TA):Prop :=
 ∀(b:Pos) (e:List (A1×Obj)) (s:z4) (a:St) (H:Hp) (Q:List V->Hp->Prop),Inv X e a H s->t a H Q->B3 (D3 X.prog X.w) X.A (spliced (K6 b (z9 f X.env))) (AP X e a Q) X.xe s
def PS(X:Cx)(st:P9)(t:TS):Prop :=
 ∀(a:List (A1×Obj)) (s:z4) (b:St) (H:Hp) (D:ip),Inv X a b H s->t D b H->B3 (D3 X.prog X.w) X.A (exec st X.env) (SP X a D) X.xe s
def PSs(X:Cx)(st:List P9)(t:TS):Prop :=
 ∀(a:List (A1×Obj)) (s:z4) (b:St) (H:Hp) (D:ip),Inv X a b H s->t D b H->B3 (D3 X.prog X.w) X.A (execs st X.env) (SP X a D) X.xe s
theorem thn{b:Type}{t:Sem b}{Q e:b->z4->Prop}{M:ac2}{A:D4}{E:o0->z4->Prop}{s:z4}(h:B3 M A t Q E s)(f:∀a s,Q a s->e a s):B3 M A t e E s:=F3 h f λ_ _ x=>x
section
variable{X:Cx}
def lY(i:Nat):TE:=λa H Q=>∃v,a[i]?=some (some v)/\Q v H
def tC(v:V):TE:=λ_ H Q=>Q v H
theorem oD{i:Nat}{x:Str}{pos:Pos}(p:X.N[i]?=some x)(t:Vis X.env.scope x)(g:(x==("__debug__":Str))=false:=by decide)(j:(x==("__classdict__":Str))=false:=by decide):PE X (.Name x pos) (lY i):=by
 intro o s q H Q I h;obtain⟨v,e,h⟩:=h;obtain⟨m,w,A⟩:=I.loc;obtain⟨u,r,l⟩:=A i x v p e t;have b:EP X o q Q u s:=⟨v,H,I,r,h⟩;rcases l with⟨f,z⟩|⟨f,c,n,a⟩
 ·exact Y9 (wpAny_loadName_local I.ok.kind f w z b) g
 ·rcases f with f|f
  ·exact Y9 (wpAny_loadName_cell I.ok.kind f n a b) g
  ·exact Y9 (wpAny_loadName_free I.ok.kind f n a b j) g
theorem u5{i j pos}:PE X (.Constant (.int i) j pos) (tC (.int i)):=λ_ _ _ H _ I h=>wpAny_Constant_int ⟨.int i,H,I.tok _,⟨_,rfl⟩,h⟩
theorem xH{b j pos}:PE X (.Constant (.bool b) j pos) (tC (.bl b)):=λ_ _ _ H _ I h=>Constant_bool ⟨.bl b,H,I,rfl,h⟩
theorem uc{j pos}:PE X (.Constant .none j pos) (tC .non):=λ_ _ _ H _ I h=>Constant_none ⟨.non,H,I,rfl,h⟩
theorem pI{x j pos}:PE X (.Constant (.str x) j pos) (tC (.str x)):=λ_ _ _ H _ I h=>R4 ⟨.str x,H,I.tok _,⟨_,rfl⟩,h⟩
def Gl(X:Cx)(x:Str):Prop:=X.env.kindOf x=some .globalImplicit
theorem ft{E:o0->z4->Prop}{a:List (A1×Obj)}{s:z4}{σ:St}{H:Hp}{x:Str}{u:o0}{pos:Pos}{Q:o0->z4->Prop}(I:Inv X a σ H s)(hg:Gl X x)(e:X.mg x=some u)(h:Q u s)
  (b:(x==("__debug__":Str))=false:=by decide):B3 (D3 X.prog X.w) X.A (M6 (.Name x pos) X.env) Q E s :=
 Calls.Name_function_global I.ok.kind hg (Calls.loadGlobal_global (by rw[I.ok.glob];exact I.mod.glob.keeps I.bk) e h) b
theorem jZ{E:o0->z4->Prop}{f:List (A1×Obj)}{s:z4}{σ:St}{H:Hp}{x:Str}{u:o0}{pos:Pos}{Q:o0->z4->Prop}(I:Inv X f σ H s)(hg:Gl X x)(g:X.mg x=none)(e:O8 x=some u)(h:Q u s)
  (i:x≠"__name__":=by decide) (a:(x==("__debug__":Str))=false:=by decide):B3 (D3 X.prog X.w) X.A (M6 (.Name x pos) X.env) Q E s:=by
 obtain⟨l,b,j⟩:=I.mod.blt;exact Calls.Name_function_global I.ok.kind hg (Calls.loadGlobal_builtin (by rw[I.ok.glob];exact I.mod.glob.keeps I.bk) g (by rw[I.ok.blt];exact b.keeps I.bk) ((j x i).trans e) h) a
theorem jF{x:Str}{v:V}{u:o0}{pos:Pos}(hg:Gl X x)(b:X.mg x=some u)(r:aF v u)(a:(x==("__debug__":Str))=false:=by decide):PE X (.Name x pos) (tC v) :=
 λ_ _ _ H _ I h=>ft I hg b ⟨v,H,I,r,h⟩ a
theorem mV{x:Str}{v:V}{u:o0}{pos:Pos}(hg:Gl X x)(f:X.mg x=none)(b:O8 x=some u)(r:aF v u)(e:x≠"__name__":=by decide)(a:(x==("__debug__":Str))=false:=by decide):PE X (.Name x pos) (tC v) :=
 λ_ _ _ H _ I h=>jZ I hg f b ⟨v,H,I,r,h⟩ e a
variable{a b:C5}{g G:TE}{pos:Pos}
theorem oA(b:C5){a:CmpOp}(h:a≠.In)(g:a≠.NotIn):S1 a b=false:=by
 have f:(a==CmpOp.In)=false:=by cases a<;>first|rfl|exact absurd rfl h
 have e:(a==CmpOp.NotIn)=false:=by cases a<;>first|rfl|exact absurd rfl g
 cases b<;>simp[S1,f,e]
def tB(t:TE):TT:=λa H Q=>t a H λx b=>∃c,x=.bl c/\Q c b
theorem tZ{e:C5}{t:TE}(h:PE X e t)(he:∀a,isTrue e X.env a=(do let v <-a;ac4 e.pos;Z1 [v] (truthy v)):=by intro _;rfl):PT X e (tB t):=by
 intro l s n H Q I f;refine isTrue_plain (thn (h l s n H _ I f) λv o b=>b.el λx j i m g=>?_) (he _);obtain⟨d,rfl,q⟩:=g;cases m;exact P6 ⟨j,i,q⟩
variable{z B:TT}{rest:List C5}
def yj(t u:TT):TT:=λa H Q=>t a H λc b=>if c=true then u a b Q else Q false b
def tOr(t u:TT):TT:=λa H Q=>t a H λc b=>if c=true then Q true b else u a b Q
def yd(t:TT):TT:=λa H Q=>t a H λc b=>Q (!c) b
theorem rO(ha:PT X a z):PW X (.BoolOp .And [a] pos) z:=by
 intro g b s f H Q I h;refine isTrue_and (thn (ha b s f H Q I h) λc i e=>?_);cases c with
 |true=>exact isTrue_and_nil e
 |false=>exact e
theorem vB(ha:PT X a z):PW X (.BoolOp .Or [a] pos) z:=by
 intro g b s f H Q I h;refine isTrue_or (thn (ha b s f H Q I h) λc i e=>?_);cases c with
 |false=>exact isTrue_or_nil e
 |true=>exact e
theorem uM(ha:PT X a z)(n:PW X (.BoolOp .And (b::rest) pos) B):PW X (.BoolOp .And (a::b::rest) pos) (yj z B):=by
 intro o j s l H Q I h;refine isTrue_and (thn (ha j s l H _ I h) λc m e=>e.el λi g f=>?_);cases c with
 |true=>exact n o j m l i Q g f
 |false=>exact⟨i,g,f⟩
theorem xB(ha:PT X a z)(n:PW X (.BoolOp .Or (b::rest) pos) B):PW X (.BoolOp .Or (a::b::rest) pos) (tOr z B):=by
 intro o j s l H Q I h;refine isTrue_or (thn (ha j s l H _ I h) λc m e=>e.el λi g f=>?_);cases c with
 |true=>exact⟨i,g,f⟩
 |false=>exact n o j m l i Q g f
theorem uu(ha:PT X a z):PT X (.UnaryOp .Not a pos) (yd z):=by
 intro b s e H Q I h;exact isTrue_not (ha b s e H (λc f=>Q (!c) f) I h)
def w6(g G:TE):TE:=λa H Q=>g a H λx b=>∃c,x=.bl c/\if c=true then G a b Q else Q (.bl false) b
def vZ(g:TE):TE:=λa H Q=>g a H λx b=>∃c,x=.bl c/\Q (.bl (!c)) b
theorem uv{op}{t:TE}(h:PE X a t):PE X (.BoolOp op [a] pos) t:=λb s e H Q I f=>BoolOp_one (h b s e H Q I f)
theorem uO(ha:PE X a g)(o:PE X (.BoolOp .And (b::rest) pos) G):PE X (.BoolOp .And (a::b::rest) pos) (w6 g G):=by
 intro l s m H Q I h;refine BoolOp_and (thn (ha l s m H _ I h) λv n f=>f.el λx j i p e=>?_);obtain⟨c,rfl,e⟩:=e;cases p;refine P6 ?_;cases c with
 |true=>exact o l n m j Q i e
 |false=>exact⟨.bl false,j,i,rfl,e⟩
theorem uJ(ha:PE X a g):PE X (.UnaryOp .Not a pos) (vZ g):=by
 intro f s i H Q I h;refine UnaryOp_ (thn (ha f s i H _ I h) λv n e=>e.el λx m l j b=>?_);obtain⟨c,rfl,b⟩:=b;cases j;exact not_of (P6 ⟨.bl (!c),m,l,rfl,b⟩)
def tIf(t:TT)(g G:TE):TE:=λa H Q=>t a H λc b=>if c=true then g a b Q else G a b Q
theorem pC{c:C5}(o:PT X c z)(ha:PE X a g)(p:PE X b G):PE X (.IfExp c a b pos) (tIf z g G):=by
 intro e s i H Q I h;refine wpAny_IfExp (thn (o e s i H _ I h) λd n f=>f.el λm l j=>?_);cases d with
 |true=>exact ha e n i m Q l j
 |false=>exact p e n i m Q l j
end
def SqL(K:s0)(H:Hp)(a:A1)(e:List V):Prop :=
 Rd H a (.lst e) ∨
  ∃(o:Obj) (b:Array o0) (n:Nat),K.lookup a=some o/\o.cls=.type "list"/\o.dict=none/\o.data=.seq b n/\b.size<=A0/\au e b.toList
def SqT(K:s0)(H:Hp)(a:A1)(e:List V):Prop :=
 Rd H a (.tup e) ∨
  ∃(o:Obj) (b:Array o0) (n:Nat),K.lookup a=some o/\(o.cls=.type "tuple"/\o.dict=none)/\o.data=.seq b n/\b.size<=A0/\au e b.toList
noncomputable def yv:o0->Option V
 |.none=>some .non
 |.bool b=>some (.bl b)
 |.int i _=>some (.int i)
 |.str x _=>some (.str x)
 |.bytes b _=>some (.byt b)
 |.float b _=>some (.flt b)
 |.ref a=>some (.ref a)
 |.type n=>some (.ty n)
 |_=>none
theorem aF.abs{x:V}{u:o0}(r:aF x u):yv u=some x:=by
 cases x with
 |non=>cases r;rfl
 |bl _=>cases r;rfl
 |int _=>obtain⟨t,rfl⟩:=r;rfl
 |str _=>obtain⟨t,rfl⟩:=r;rfl
 |byt _=>obtain⟨t,rfl⟩:=r;rfl
 |flt _=>obtain⟨t,rfl⟩:=r;rfl
 |ref _=>cases r;rfl
 |ty _=>cases r;rfl
theorem aF.inj{x y:V}{u:o0}(r:aF x u)(q:aF y u):x=y:=K4 (r.abs.symm.trans q.abs)
theorem au.inj:∀{a ys:List V}{b:List o0},au a b->au ys b->a=ys
 |_,_,_,.nil,.nil=>rfl
 |_,_,_,.cons r t,.cons f e=>by rw[r.inj f,au.inj t e]
section
variable{X:Cx}{t:List (A1×Obj)}{σ:St}{H:Hp}{s:z4}{a:A1}{g ys:List V}
theorem SqL.of{K:s0}(h:H a=some (.lst g)):SqL K H a g:=.inl (.inl h)
theorem SqT.of{K:s0}(h:H a=some (.tup g)):SqT K H a g:=.inl (.inl h)
theorem Inv.list(I:Inv X t σ H s)(h:SqL X.K H a g):∃b:List o0,au g b/\PlainL s.heap a b.toArray/\g.length<=A0:=by
 rcases h with h|⟨o,b,n,l,j,f,i,m,r⟩
 ·obtain⟨z,b,n,r,e⟩:=h.ok I.hok;exact⟨b,r,⟨_,n,e,rfl,rfl,rfl⟩,z⟩
 ·refine⟨b.toList,r,⟨o,n,I.kIn a o l,j,f,by simpa using i⟩,?_⟩;have e:=r.length;simp only[Q4]at e
  lia
theorem Inv.tuple(I:Inv X t σ H s)(h:SqT X.K H a g):∃b:List o0,au g b/\ad1 s.heap a b.toArray/\g.length<=A0:=by
 rcases h with h|⟨o,b,n,j,i,f,l,r⟩
 ·obtain⟨z,b,r,p⟩:=h.ok I.hok;exact⟨b,r,p.tup,z⟩
 ·refine⟨b.toList,r,⟨o,I.kIn a o j,i.1,n,by simpa using f⟩,?_⟩;have e:=r.length;simp only[Q4]at e
  lia
theorem Inv.list_inj(I:Inv X t σ H s)(h:SqL X.K H a g)(h':SqL X.K H a ys):g=ys:=by
 obtain⟨f,r,⟨o,n,e,_,_,d⟩,_⟩:=I.list h;obtain⟨b,m,⟨p,q,i,_,_,j⟩,_⟩:=I.list h';rw[e]at i;cases i;rw[d]at j;injection j with l _
 have:f=b:=by simpa using congrArg Array.toList l
 subst this;exact r.inj m
theorem Inv.tuple_inj(I:Inv X t σ H s)(h:SqT X.K H a g)(h':SqT X.K H a ys):g=ys:=by
 obtain⟨f,r,⟨o,e,_,n,d⟩,_⟩:=I.tuple h;obtain⟨b,m,⟨p,i,_,q,j⟩,_⟩:=I.tuple h';rw[e]at i;cases i;rw[d]at j;injection j with l _
 have:f=b:=by simpa using congrArg Array.toList l
 subst this;exact r.inj m
end
abbrev Cx.wish(X:Cx)(E:o0->z4->Prop):Cx:={ X with xe:=E }
abbrev Cx.nox(X:Cx):Cx:=X.wish λ_ _=>False
theorem Cx.Ok.wish{X:Cx}(ok:X.Ok)(E:o0->z4->Prop):(X.wish E).Ok :=
 ⟨ok.mod,ok.kind,ok.glob,ok.blt,ok.above,ok.inj,ok.has,ok.cab,ok.hd,ok.frames,ok.stk,ok.exf,ok.bs,ok.bsz,ok.noex,ok.exfs,ok.funs,ok.frf⟩
theorem Cx.Ok.unwish{X:Cx}{E:o0->z4->Prop}(ok:(X.wish E).Ok):X.Ok :=
 ⟨ok.mod,ok.kind,ok.glob,ok.blt,ok.above,ok.inj,ok.has,ok.cab,ok.hd,ok.frames,ok.stk,ok.exf,ok.bs,ok.bsz,ok.noex,ok.exfs,ok.funs,ok.frf⟩
section
variable{X:Cx}{g:List (A1×Obj)}{σ:St}{H:Hp}{s:z4}{E:o0->z4->Prop}
theorem Inv.wish(I:Inv X g σ H s)(E:o0->z4->Prop):Inv (X.wish E) g σ H s:=⟨I.ok.wish E,I.os,I.bare,I.base,I.loc,I.cell,I.free,I.freeC,I.pin,I.hok,I.len⟩
theorem Inv.unwish(I:Inv (X.wish E) g σ H s):Inv X g σ H s:=⟨I.ok.unwish,I.os,I.bare,I.base,I.loc,I.cell,I.free,I.freeC,I.pin,I.hok,I.len⟩
theorem SP.unwish{D:ip}{f:Flow}{s':z4}(h:SP (X.wish E) g D f s'):SP X g D f s':=by
 cases f with
 |next=>obtain⟨a,b,I,q⟩:=h;exact⟨a,b,I.unwish,q⟩
 |brk=>obtain⟨a,b,I,q⟩:=h;exact⟨a,b,I.unwish,q⟩
 |cont=>obtain⟨a,b,I,q⟩:=h;exact⟨a,b,I.unwish,q⟩
 |ret u=>obtain⟨v,a,b,I,r,q⟩:=h;exact⟨v,a,b,I.unwish,r,q⟩
theorem PSs.nox{st:List P9}{t:TS}(h:PSs X.nox st t):PSs X st t:=λg s σ H D I a =>
 F3 (h g s σ H D (I.wish _) a) (λ_ _ q=>q.unwish) λ_ _ z=>I0 z
end
section
variable{X:Cx}{st:P9}{rest:List P9}{t u:TS}{e:C5}{te:TE}{pos:Pos}
def wc:TS:=λD a H=>D.nx a H
def xO(t u:TS):TS:=λD a H=>t { D with nx:=u D } a H
theorem m7:PSs X [] wc:=λ_ _ a H _ I h=>T8 ⟨a,H,I,h⟩
theorem gT(e:PS X st t)(m:PSs X rest u):PSs X (st::rest) (xO t u):=by
 intro b s l H D I h;refine wpAny_execs_cons (thn (e b s l H { D with nx:=u D } I h) λf j q=>?_);cases f with
 |next =>
  obtain⟨a,i,g,q⟩:=q;exact m b j a i D g q
 |ret v=>exact q
 |brk=>exact q
 |cont=>exact q
theorem jv(e:PS X st t):PSs X [st] t:=by
 intro a s b H D I h;refine wpAny_execs_cons (thn (e a s b H D I h) λf g q=>?_);cases f with
 |next=>exact T8 q
 |ret v=>exact q
 |brk=>exact q
 |cont=>exact q
theorem Inv.quiet{a:List (A1×Obj)}{σ:St}{H:Hp}{s:z4}(I:Inv X a σ H s):interactive X.env=false:=by simp[interactive,I.ok.kind]
def xw(te:TE):TS:=λD a H=>te a H λ_ b=>D.nx a b
theorem nh(he:PE X e te)(i:W7 e none pos.line X.env=W1 false:=by rfl):PS X (.Expr e pos) (xw te):=by
 intro f s b H D I h;exact wpAny_Expr_any (thn (he f s b H _ I h) λv n a=>a.el λx l j m g=>⟨b,l,j,g⟩) I.quiet i
def ye(te:TE):TS:=λD a H=>te a H D.rt
theorem qp(he:PE X e te):PS X (.Return (some e) pos) (ye te):=by
 intro f s b H D I h;exact wpAny_Return_some (thn (he f s b H _ I h) λv m a=>a.el λx l j i g=>⟨x,b,l,j,i,g⟩)
def xK(c:TT)(t u:TS):TS:=λD a H=>c a H λb e=>if b=true then t D a e else u D a e
theorem tw{c:C5}{a b:List P9}{tc:TT}(o:PT X c tc)(ha:PSs X a t)(n:PSs X b u):PS X (.If c a b pos) (xK tc t u):=by
 intro e s g H D I h;refine wpAny_If (thn (o e s g H _ I h) λd m f=>f.el λl j i=>?_);cases d with
 |true=>exact ha e m g l D j i
 |false=>exact n e m g l D j i
end
abbrev TG:=V->St->Hp->(St->Hp->Prop)->Prop
def PG(X:Cx)(a:C5)(t:TG):Prop :=
 ∀(e:List (A1×Obj)) (s:z4) (f:St) (H:Hp) (v:V) (u:o0) (Q:St->Hp->Prop),Inv X e f H s->aF v u->t v f H Q ->
  B3 (D3 X.prog X.w) X.A (aa7 a X.env u) (λ_ h=>∃ b g,Inv X e b g h/\Q b g) X.xe s
abbrev tU:=V->V->V->Hp->(Hp->Prop)->Prop
def we(X:Cx)(t:tU):Prop :=
 ∀(a:List (A1×Obj)) (s:z4) (b:St) (H:Hp) (o i v:V) (e f u:o0) (Q:Hp->Prop),Inv X a b H s->aF o e->aF i f->aF v u->t o i v H Q ->
  B3 (D3 X.prog X.w) X.A (setItem e f u) (λ_ h=>∃g,Inv X a b g h/\Q g) X.xe s
section
variable{X:Cx}{pos:Pos}
def ko(i:Nat):TG:=λv a H Q=>Q (a.set i (some v)) H
theorem mU{i:Nat}{x:Str}(a:X.N.Nodup)(e:X.N[i]?=some x)(f:Loc X.env.scope x)(g:X.fn x=true∨X.env.scope.names.lookup x=some .local:=by first|exact .inl rfl|exact .inr rfl|assumption):PG X (.Name x pos) (ko i):=by
 intro j s l H v u Q I r h;exact wpAny_assign_Name (fi I a e f r (λm b=>⟨_,H,b,h⟩) g)
def yg(b f:TE)(t:tU):TG:=λv a H Q=>b a H λo h=>f a h λi g=>t o i v g λe=>Q a e
theorem va{o i:C5}{j l:TE}{t:tU}(O:PE X o j)(w:PE X i l)(J:we X t)
  (ha:∀ v,aa7 (.Subscript o i pos) X.env v = (do
   let b <-Z1 [v] (M6 o X.env)
   let e <-Z1 [v,b] (M6 i X.env)
   ac4 pos
   Z1 [v,b,e] (setItem b e v)
   release [v,b,e] []):=by intro _;rfl):PG X (.Subscript o i pos) (yg j l t):=by
 intro g s f H v u Q I r h;rw[ha];refine u8 (K0 (thn (O g s f H _ I h) λb B a=>a.el λx q n L m=>?_));refine u8 (K0 (thn (w g B f q _ n m) λe N a=>a.el λy E z M G=>?_));refine u8 (W3 (u8 (K0 (thn (J g N f E x y v b e u _ z L M r G) λ_ P ⟨A,p,C⟩=>?_))));exact wpAny_release ⟨f,A,p,C⟩
def uX(te:TE)(g:TG):TS:=λD a H=>te a H λx b=>g x a b D.nx
theorem uC{a e:C5}{te:TE}{g:TG}(he:PE X e te)(hg:PG X a g)(t:swapsWithSole [a] e pos.line X.env=W1 false:=by rfl)(j:swappedStores [a] e X.env=W1 none:=by rfl)
  (m:(assignEach [a] X.env).map (·.2)=[aa7 a X.env]:=by rfl):PS X (.Assign [a] e pos) (uX te g):=by
 intro f s i H D I h;refine wpAny_Assign_stores (thn (he f s i H _ I h) λv p b=>b.el λx o n u l=>?_) t j;rw[m];exact thn (hg f p i o x v _ n u l) λ_ w q=>q
theorem uF{i:Nat}{x:Str}{e:C5}{te:TE}{a:Pos}(g:X.N.Nodup)(m:X.N[i]?=some x)(u:Loc X.env.scope x)(he:PE X e te)(p:W7 e (some (.Name x a)) pos.line X.env=W1 false:=by rfl)(w:X.fn x=true∨X.env.scope.names.lookup x=some .local:=by first|exact .inl rfl|exact .inr rfl|assumption):
  PS X (.Assign [.Name x a] e pos) (uX te (ko i)):=by
 intro o s t H D I h;refine wpAny_Assign_Name (thn (he o s t H _ I h) λv z b=>b.el λy l j q f=>?_) p;exact fi j g m u q (λA n=>⟨_,l,n,f⟩) w
end
structure It where
 go:Nat->Hp->Prop
 yld:Nat->Hp->V->Hp->Prop
 stop:Nat->Hp->Prop
def fR(X:Cx)(a:List (A1×Obj))(H:Hp)(b:A1):Prop :=
 H b=none/\b≠X.env.locals/\b∉X.fs/\(b∈X.ex∨X.s₀.heap.objs.size<=b)/\(∀x c,X.env.cells.lookup x=some c->c≠b)/\∀p∈X.pn++a,p.1≠b
theorem Inv.fpOk{X:Cx}{f:List (A1×Obj)}{σ:St}{H g:Hp}{s:z4}{b:A1}(I:Inv X f σ H s)(a:s.heap.objs.size<=b)(h:g b=none):fR X f g b:=by
 refine⟨h,X9 (A8 I.lt a),I.nofs a,.inr (E7 I.sz a),λx c e z=>?_,λp i z=>?_⟩
 ·obtain⟨v,q⟩:=I.cell x c e;exact absurd (A8 q.lt (by rw[z];exact a)) (O7 _)
 ·exact absurd (A8 (A7 (I.pin p i).1) (by rw[z];exact a)) (O7 _)
structure j7(P:C1) (w:F8) (K:s0) (tg:C5) (J:It) (fp:List A1) (it:A1) (tn:Nat->C9->Prop):Prop where
 mem:it∈fp
 obj:∀i h,tn i h->∀b∈fp,∃o,h.get? b=some o/\∀v,o.data≠.cell v
 keep:∀i h h',tn i h->(∀b∈fp,∀o,h.get? b=some o->h'.get? b=some o)->tn i h'
 item:∀(X:Cx),X.prog=P->X.w=w->X.K=K->X.calm=true->∀(i:Nat) (aa:List (A1×Obj)) (s:z4) (σ:St) (H:Hp) (E:o0->z4->Prop),Inv X aa σ H s->(∀b∈fp,fR X aa H b)->tn i s.heap->J.go i H ->
  B3 (D3 P w) X.A (pyNext (.ref it)) (λr s1=>∃u,r=some u /\
   B3 (D3 P w) X.A (T9 tg (.ref it) u) (λ_ s2=>∃x H',Inv X aa σ H' s2/\aF x u/\J.yld i H x H'/\tn (i+1) s2.heap/\∀b∈fp,H' b=none) E s1) E s
 done:∀(X:Cx),X.prog=P->X.w=w->X.K=K->X.calm=true->∀(i:Nat) (aa:List (A1×Obj)) (s:z4) (σ:St) (H:Hp) (E:o0->z4->Prop),Inv X aa σ H s->(∀b∈fp,fR X aa H b)->tn i s.heap->J.stop i H ->
  B3 (D3 P w) X.A (pyNext (.ref it)) (λr s1=>r=none/\Inv X aa σ H s1) E s
 self:∀(A:D4) (i:Nat) (s:z4) (Q:o0->z4->Prop) (E:o0->z4->Prop),tn i s.heap->Q (.ref it) s->B3 (D3 P w) A (pyIter (.ref it)) Q E s
abbrev TI:=St->Hp->(It->Hp->Prop)->Prop
def PIE(X:Cx)(f:List (A1×Obj))(σ:St)(l:C5)(R:It->Hp->Prop)(e:o0)(j:z4):Prop :=
 ∃(g:A1) (i:List A1) (h:Nat->C9->Prop) (J:It) (a:Hp),e=.ref g/\Inv X f σ a j/\j7 X.prog X.w X.K l J i g h/\h 0 j.heap/\(∀b∈i,fR X f a b)/\R J a
def PI(X:Cx)(f iter:C5)(g:TI):Prop :=
 ∀(b:List (A1×Obj)) (s:z4) (a:St) (H:Hp) (R:It->Hp->Prop),Inv X b a H s->g a H R ->
  B3 (D3 X.prog X.w) X.A (M6 iter X.env) (λv e=>B3 (D3 X.prog X.w) X.A (pyIter v) (PIE X b a f R) X.xe e) X.xe s
theorem m6{M:ac2}{A:D4}{E:o0->z4->Prop}{s:z4}{e:C5}{it:A1}{u:o0}{o:Obj}{n:String}{b:Array o0}{Q:Unit->z4->Prop}(j:s.heap.get? it=some o)(i:o.cls=.type n)(f:o.data=.fields b)
    (g:["enumerate","zip","dict_itemiterator","dict_reverseitemiterator","odict_iterator","itertools.zip_longest","itertools.pairwise"].contains n=false) (a:Q () s):B3 M A (T9 e (.ref it) u) Q E s:=by
  unfold T9;cases e<;>first
    |exact z7 a
    |(cases u<;>first
        |exact z7 a
        | (refine u8 (wpAny_load j ?_)
           rw[i,f];show B3 M A (if(["enumerate","zip","dict_itemiterator","dict_reverseitemiterator","odict_iterator","itertools.zip_longest","itertools.pairwise"].contains n&&b[0]?==some (ac1 _))=true then _ else _) Q E s;rw[if_neg (by intro h;rw[g,R1]at h;cases h)];exact z7 a))
def Itl(K:s0)(a:A1):It :=
 ⟨λi H=>∃b x,SqL K H a b/\b[i]?=some x,λi H x e=>e=H/\∀b,SqL K H a b->b[i]?=some x,λi H=>∃b,SqL K H a b/\b.length<=i⟩
def Itt(K:s0)(a:A1):It :=
 ⟨λi H=>∃b x,SqT K H a b/\b[i]?=some x,λi H x e=>e=H/\∀b,SqT K H a b->b[i]?=some x,λi H=>∃b,SqT K H a b/\b.length<=i⟩
def Itr(lo:Int)(n:Nat):It:=⟨λi _=>i<n,λi H x a=>a=H/\x=.int (lo+i),λi _=>n<=i⟩
theorem iT{P:C1}{w:F8}{K:s0}{tg:C5}(a it:A1):j7 P w K tg (Itl K a) [it] it (λi h=>h.IsListIter it a i) where
 mem:=by simp
 obj:=λi h st b f=>by
  have e:b=it:=by simpa using f
  subst e;obtain⟨o,e,c,d⟩:=st;exact⟨o,e,λv z=>by rw[d]at z;cases z⟩
 keep:=λi h l st k=>st.at λo e=>k it (by simp) o e
 item:=by
  intro X G C hK Q i R s S H E I m st B;subst G C hK;obtain⟨xs,x,n,A⟩:=B;obtain⟨q,t,p,hz⟩:=I.list n;obtain⟨u,hu,U⟩:=t.get A;obtain⟨J,L,Y,N,M,O⟩:=m it (by simp);refine wpAny_pyNext_list_item st p.isList (x:=u) (by simpa using hu) λl j sb=>?_;have T:Inv X R S H { s with heap:=l }:=I.turned (t':=s.toks) (λb o f e=>(sb.2 b f).trans e) J L N M O;obtain⟨o,e,c,d⟩:=id j;exact⟨u,rfl,m6 (s:={ s with heap:=l }) e c d (by decide) ⟨x,H,T,U,⟨rfl,λys hy=>by rw[I.list_inj hy n];exact A⟩,j,λb f=>(m b f).1⟩⟩
 done:=by
  intro X G C hK Q i R s S H E I m st B;subst G C hK;obtain⟨xs,n,A⟩:=B;obtain⟨q,t,p,hz⟩:=I.list n;obtain⟨J,L,Y,N,M,O⟩:=m it (by simp);have hl:=t.length;exact wpAny_pyNext_list_end (I.ok.hd Q) st p.isList (by simp;lia) λl Z=>⟨rfl,I.turned (t':=s.toks) (λb o f e=>Z b o f e) J L N M O⟩
 self:=λ_ _ _ _ _ st h=>wpAny_pyIter_listiter st h
theorem lP{P:C1}{w:F8}{K:s0}{tg:C5}(a it:A1):j7 P w K tg (Itt K a) [it] it (λi h=>h.IsTupleIter it a i) where
 mem:=by simp
 obj:=λi h st b g=>by
  have e:b=it:=by simpa using g
  subst e;obtain⟨o,e,c,d⟩:=st;exact⟨o,e,λv z=>by rw[d]at z;cases z⟩
 keep:=λi h m st k=>st.at λo e=>k it (by simp) o e
 item:=by
  intro X G C hK Q i R s S H E I n st B;subst G C hK;obtain⟨xs,x,q,A⟩:=B;obtain⟨f,t,p,hz⟩:=I.tuple q;obtain⟨u,hu,U⟩:=t.get A;obtain⟨J,L,Y,N,M,O⟩:=n it (by simp);refine wpAny_pyNext_tuple_item st (show s.heap.IsTuple a f.toArray from p) (x:=u) (by simpa using hu) λm l sb=>?_;have T:Inv X R S H { s with heap:=m }:=I.turned (t':=s.toks) (λb o g e=>(sb.2 b g).trans e) J L N M O;obtain⟨o,e,c,d⟩:=id l;exact⟨u,rfl,m6 (s:={ s with heap:=m }) e c d (by decide) ⟨x,H,T,U,⟨rfl,λys hy=>by rw[I.tuple_inj hy q];exact A⟩,l,λb g=>(n b g).1⟩⟩
 done:=by
  intro X G C hK Q i R s S H E I n st B;subst G C hK;obtain⟨xs,q,A⟩:=B;obtain⟨f,t,p,hz⟩:=I.tuple q;obtain⟨J,L,Y,N,M,O⟩:=n it (by simp);have hl:=t.length;exact wpAny_pyNext_tuple_end (I.ok.hd Q) st (show s.heap.IsTuple a f.toArray from p) (by simp;lia) λm Z=>⟨rfl,I.turned (t':=s.toks) (λb o g e=>Z b o g e) J L N M O⟩
 self:=λ_ _ _ _ _ st h=>wpAny_pyIter_tupleiter st h
theorem l7{P:C1}{w:F8}{K:s0}{U:C5}(it:A1)(lo:Int)(n:Nat):j7 P w K U (Itr lo n) [it] it (λi h=>IsRangeIter h it (lo+(i:Nat)*1) ((n:Int)-(i:Nat)) 1) where
 mem:=by simp
 obj:=λi h st b a=>by
  have e:b=it:=by simpa using a
  subst e;exact⟨_,st,λv z=>by
   have S:T1 _=ad0.cell v:=z;cases S⟩
 keep:=λi h j st k=>k it (by simp) _ st
 item:=by
  intro X u p hK q i L s M H E I l st m;subst u p hK;obtain⟨x,A,Q,C,B,G⟩:=l it (by simp);have W:=Walks.range (prog:=X.prog) (w:=X.w) (I.ok.hd q) it lo 1 n;refine W.item i s _ _ m st λv j J T g N=>?_;obtain⟨t,rfl⟩:=T;have O:Inv X L M H { s with heap:=j,toks:=J }:=I.turned (λb o a e=>N b o (by simpa using a) e) x A C B G;refine⟨_,rfl,m6 (s:={ s with heap:=j,toks:=J }) (n:="range_iterator") g rfl rfl (by decide) ⟨.int (lo+i),H,O,⟨t,?_⟩,⟨rfl,rfl⟩,g,λb a=>(l b a).1⟩⟩;rw[Int.mul_one]
 done:=by
  intro X u p hK q i L s M H E I l st m;subst u p hK;obtain⟨x,A,Q,C,B,G⟩:=l it (by simp);exact wpAny_pyNext_range_end (I.ok.hd q) st (by have:n<=i:=m;lia) λj R=>⟨rfl,I.turned (t':=s.toks) (λb o a e=>R b o a e) x A C B G⟩
 self:=λ_ _ _ _ _ st h=>wpAny_pyIter_rangeiter st h
section
variable{X:Cx}{B:C5}
theorem pF{g:List (A1×Obj)}{σ:St}{H:Hp}{s:z4}{R:It->Hp->Prop}{E:o0->z4->Prop}{lo a:Int}{t u v:Tok}{h:Nat}(I:Inv X g σ H s)(i:-(2 ^ 62)<=lo)(w:lo<2 ^ 62)(j:-(2 ^ 62)<=a)(n:a<2 ^ 62)
  (q:R (Itr lo (a-lo).toNat) H):B3 (D3 X.prog X.w) X.A (pyIter (.ref s.heap.objs.size)) (PIE X g σ B R) E { s with heap:=s.heap.push { cls:=.type "range",data:=.fields #[.int lo t,.int a u,.int 1 v] },toks:=h }:=by
 refine wpAny_pyIter_range (IsRange.new ..) (small_one i w j n) ?_;have f:Inv X g σ H { s with heap:=s.heap.push { cls:=.type "range",data:=.fields #[.int lo t,.int a u,.int 1 v] },toks:=h }:=I.kept λb o e=>z6 _ e;refine⟨(s.heap.push { cls:=.type "range",data:=.fields #[.int lo t,.int a u,.int 1 v] }).objs.size,[(s.heap.push { cls:=.type "range",data:=.fields #[.int lo t,.int a u,.int 1 v] }).objs.size],_,_,H,rfl,
  f.kept (t':=h) λb o e=>z6 _ e,l7 _ lo (a-lo).toNat,?_,λb l=>?_,q⟩
 ·have m:lo+((0:Nat):Int)*1=lo:=by simp
  have p:(((a-lo).toNat:Nat):Int)-((0:Nat):Int)=E4.Range.rangeSize lo a 1:=by rw[rangeSize_one];split<;>lia
  show IsRangeIter _ _ (lo+((0:Nat):Int)*1) ((((a-lo).toNat:Nat):Int)-((0:Nat):Int)) 1;rw[m,p];exact C8 _ rfl
 ·have e:b=(s.heap.push { cls:=.type "range",data:=.fields #[.int lo t,.int a u,.int 1 v] }).objs.size:=by simpa using l
  subst e;exact f.fpOk (B8 _) (f.hok.fresh (B8 _))
def wG(e:TA):TI:=λa H R=>e a H λb f=>∃j:Int,b=[.int j]/\-(2 ^ 62)<=j/\j<2 ^ 62/\R (Itr 0 j.toNat) f
theorem nL{a:C5}{g:TA}{p pos:Pos}(hg:Gl X "range")(w:X.mg "range"=none)(ha:PA X [a] g)(l:z9 [a] X.env=[(false,M6 a X.env)]:=by rfl):PI X B (.Call (.Name "range" p) [a] [] pos) (wG g):=by
 intro i s u H R I h;refine Call_ (jZ I hg w boot_range (PyProof.Rows.callWith_type1 (thn (ha pos i s u H _ I h) λE C f=>f.el λz A n m b=>?_) l rfl));obtain⟨j,e,b,x,q⟩:=b;subst e;cases m with
 |cons r o =>
  cases o;obtain⟨t,rfl⟩:=r;exact call_range_1 (pF n (by lia) (by lia) b x (by simpa using q))
def xT(o:TI)(g:TG)(l:TS):TS:=λD a H=>o a H λJ j=>∃W:Nat->Nat->St->Hp->Prop,(∃m,W 0 m a j)/\∀i m a H,W i m a H ->
 (J.stop i H/\D.nx a H)∨(J.go i H/\∃N:St->Hp->Prop,(∀ e b,N e b->∃h,h<m/\W (i+1) h e b)/\∀x b,J.yld i H x b->g x a b λf n=>l { D with nx:=N,ct:=N,bk:=D.nx } f n)
def eV(a:List A1)(h:C9):List (A1×Obj):=a.filterMap λb=>(h.get? b).map λo=>(b,o)
theorem cX{a:List A1}{h:C9}{b:A1}{o:Obj}(f:b∈a)(e:h.get? b=some o):(b,o)∈eV a h:=O9.mpr ⟨b,f,by rw[e];rfl⟩
theorem iY{a:List A1}{h:C9}{p:A1×Obj}(i:p∈eV a h):p.1∈a/\h.get? p.1=some p.2:=by
 obtain⟨b,f,e⟩:=O9.mp i;cases q:h.get? b with
 |none=>rw[q]at e;cases e
 |some o =>
  rw[q]at e;have g:(b,o)=p:=K4 e;subst g;exact⟨f,q⟩
theorem Inv.pinned{a:List (A1×Obj)}{σ:St}{H:Hp}{s:z4}{f:List A1}(I:Inv X a σ H s)(n:∀b∈f,fR X a H b)(q:∀b∈f,∃o,s.heap.get? b=some o/\∀v,o.data≠.cell v):Inv X (a++eV f s.heap) σ H s :=
 I.pins_of λp m=>(D9.mp m).elim (λz=>I.pin p (A4 _ z)) λz=>by
  obtain⟨h,e⟩:=iY z;obtain⟨i,j,l,_⟩:=n p.1 h;obtain⟨o,g,d⟩:=q p.1 h;rw[e]at g;cases g;exact⟨e,i,j,l,d⟩
theorem Inv.unpinned{a pl:List (A1×Obj)}{σ:St}{H:Hp}{s:z4}(I:Inv X (a++pl) σ H s):Inv X a σ H s:=I.pins_of λp b=>I.pin p (A4 _ (D0 _ b))
theorem ve{iter:C5}{C:List P9}{wi:TI}{g:TG}{tb:TS}{pos:Pos}(Q:W8 (D3 X.prog X.w) X.A X.env X.xe)(hc:X.calm=true)(hi:PI X B iter wi)(hg:PG X B g)(w:PSs X C tb)
  (hs:∀x,P7 iter X.env x=W1 x:=by intro _;rfl):PS X (.For B iter C [] pos) (xT wi g tb):=by
 intro G s σ H D I h;refine wpAny_For (thn (hi G s σ H _ I h) λv s1 h1=>thn h1 λa1 s2 h2=>?_) hs;obtain⟨it,O,tn,J,H2,e,I2,T,Z,f2,W,⟨m0,w0⟩,P⟩:=h2;subst e
 -- what stays true of the iterator's objects through the loop
 have q:∀{z:Hp},(∀b∈O,z b=none)->∀b∈O,fR X G z b:=λhn b w=>⟨hn b w,(f2 b w).2⟩;refine codeAny_forLoop_any (λn s'=>∃i t z,Inv X G t z s'/\tn i s'.heap/\(∀b∈O,z b=none)/\W i n t z) ?_ m0 ⟨0,σ,H2,I2,Z,λb w=>(f2 b w).1,w0⟩;rintro n s3 ⟨i,l,S,I3,R,L,w3⟩;rcases P i n l S w3 with⟨stop,qn⟩|⟨go,N,hN,step⟩
 ·refine U0 Q (thn (T.done X rfl rfl rfl hc i G s3 l S X.xe I3 (q L) R stop) λr s4 ⟨hr,I4⟩=>?_);subst hr;exact T8 ⟨l,S,I4,qn⟩
 ·refine U0 Q (thn (T.item X rfl rfl rfl hc i G s3 l S X.xe I3 (q L) R go) λr s4 ⟨u,hr,h4⟩=>?_);subst hr;refine U0 Q (thn h4 λ_ s5 ⟨x,H5,I5,r5,y5,E,Y⟩=>?_);have U:=I5.pinned (q Y) (T.obj _ _ E);refine U0 Q (thn (hg _ s5 l H5 x u _ U r5 (step x H5 y5)) λ_ s6 ⟨a0,H6,I6,q6⟩=>?_);refine U0 Q (thn (w _ s6 a0 H6 _ I6 q6) λf s7 A=>?_);have again:∀{a:St} {p:Hp},Inv X (G++eV O s5.heap) a p s7->N a p->∃m,m<n/\∃i t z,Inv X G t z s7/\tn i s7.heap/\(∀b∈O,z b=none)/\W i m t z:=λ{a p} j M=>by
   obtain⟨m',hm,w7⟩:=hN a p M;refine⟨m',hm,i+1,a,p,j.unpinned,T.keep _ _ _ E λb w o e=>(j.pin (b,o) (A4 _ (A4 _ (cX w e)))).1,λb w=>?_,w7⟩;obtain⟨o,e,d⟩:=T.obj _ _ E b w;exact(j.pin (b,o) (A4 _ (A4 _ (cX w e)))).2.1
  cases f with
  |next=>obtain⟨a,p,j,M⟩:=A;exact again j M
  |cont=>obtain⟨a,p,j,M⟩:=A;exact again j M
  |brk=>obtain⟨a,p,j,A⟩:=A;exact⟨a,p,j.unpinned,A⟩
  |ret v=>obtain⟨x7,a,p,j,r7,A⟩:=A;exact⟨x7,a,p,j.unpinned,r7,A⟩
end
abbrev R2:=V->V->Hp->VK->Prop
def OpR(X:Cx)(f:o0->o0->Sem o0)(r:R2):Prop :=
 ∀(a:List (A1×Obj)) (s:z4) (b:St) (H:Hp) (x y:V) (v u:o0) (Q:VK),Inv X a b H s->aF x v->aF y u->r x y H Q ->
  B3 (D3 X.prog X.w) X.A (f v u) (EP X a b Q) X.xe s
def UnR(X:Cx)(f:o0->Sem o0)(r:V->Hp->VK->Prop):Prop :=
 ∀(a:List (A1×Obj)) (s:z4) (b:St) (H:Hp) (x:V) (v:o0) (Q:VK),Inv X a b H s->aF x v->r x H Q ->
  B3 (D3 X.prog X.w) X.A (f v) (EP X a b Q) X.xe s
def cc(X:Cx)(f:o0)(r:List V->Hp->VK->Prop):Prop :=
 ∀(a:List (A1×Obj)) (s:z4) (b:St) (H:Hp) (e:List V) (g:List o0) (Q:VK),Inv X a b H s->au e g->r e H Q ->
  B3 (D3 X.prog X.w) X.A (call f g) (EP X a b Q) X.xe s
def tOp(r:R2)(b e:TE):TE:=λa H Q=>b a H λx g=>e a g λy f=>r x y f Q
def tUn(r:V->Hp->VK->Prop)(b:TE):TE:=λa H Q=>b a H λx e=>r x e Q
def rI(C:Int->Int->Prop)(g:Int->Int->V):R2:=λx y H Q=>∃i j,x=.int i/\y=.int j/\C i j/\Q (g i j) H
def rI0(g:Int->Int->V):R2:=λx y H Q=>∃i j,x=.int i/\y=.int j/\Q (g i j) H
def rU(g:Int->V):V->Hp->VK->Prop:=λx H Q=>∃i,x=.int i/\Q (g i) H
section
variable{X:Cx}{a b c:C5}{z B tc:TE}{pos:Pos}
theorem rF(ha:PE X a z)(A:PE X b B){l:List (A1×Obj)}{s:z4}{σ:St}{H:Hp}{R:V->V->Hp->Prop}(I:Inv X l σ H s)
  (h:z σ H λx n=>B σ n λy g=>R x y g) {Q:o0->z4->Prop} {f:o0->o0->Sem o0}
  (G:∀v u m x y g,Inv X l σ g m->aF x v->aF y u->R x y g->B3 (D3 X.prog X.w) X.A (f v u) Q X.xe m) :
  B3 (D3 X.prog X.w) X.A (M6 a X.env) (λv i=>B3 (D3 X.prog X.w) X.A (M6 b X.env) (λu j=>B3 (D3 X.prog X.w) X.A (f v u) Q X.xe j) X.xe i) X.xe s:=by
 refine thn (ha l s σ H _ I h) λv t e=>e.el λx n p C o=>?_;refine thn (A l t σ n _ p o) λu m e=>e.el λy g q E w=>?_;exact G v u m x y g q C E w
theorem tM{e:Operator}{r:R2}(o:OpR X (M7 e) r)(ha:PE X a z)(g:PE X b B):PE X (.BinOp a e b pos) (tOp r z B):=by
 intro f s m H Q I h;exact wpAny_BinOp (rF ha g I h λv u l x y p j n i q=>o f l m p x y v u Q j n i q)
theorem wF{e:UnaryOp}{r:V->Hp->VK->Prop}(o:UnR X (unaryOp e) r)(ha:PE X a z):PE X (.UnaryOp e a pos) (tUn r z):=by
 intro f s g H Q I h;exact UnaryOp_ (thn (ha f s g H _ I h) λv m b=>b.el λx l j n i=>o f m g l x v Q j n i)
theorem opI{f:o0->o0->Sem o0}{C:Int->Int->Prop}{g:Int->Int->Int}
  (rule:∀(i j:Int) (t u:Tok) (s:z4) (Q:o0->z4->Prop) (E:o0->z4->Prop),C i j->Q (.int (g i j) s.toks) { s with toks:=s.toks+1 }->B3 (D3 X.prog X.w) X.A (f (.int i t) (.int j u)) Q E s) :
  OpR X f (rI C λi j=>.int (g i j)):=by
 intro e s l H x y v u Q I rx ry h;obtain⟨i,j,rfl,rfl,a,q⟩:=h;obtain⟨t,rfl⟩:=rx;obtain⟨b,rfl⟩:=ry;exact rule i j t b s _ _ a ⟨.int (g i j),H,I.tok _,⟨_,rfl⟩,q⟩
theorem xm{f:o0->o0->Sem o0}{g:Int->Int->Int}
  (rule:∀(i j:Int) (t u:Tok) (s:z4) (Q:o0->z4->Prop) (E:o0->z4->Prop),Q (.int (g i j) s.toks) { s with toks:=s.toks+1 }->B3 (D3 X.prog X.w) X.A (f (.int i t) (.int j u)) Q E s) :
  OpR X f (rI0 λi j=>.int (g i j)):=by
 intro b s e H x y v u Q I rx ry h;obtain⟨i,j,rfl,rfl,q⟩:=h;obtain⟨t,rfl⟩:=rx;obtain⟨a,rfl⟩:=ry;exact rule i j t a s _ _ ⟨.int (g i j),H,I.tok _,⟨_,rfl⟩,q⟩
theorem qJ{f:o0->o0->Sem o0}{g:Int->Int->Bool}
  (rule:∀(i j:Int) (t u:Tok) (s:z4) (Q:o0->z4->Prop) (E:o0->z4->Prop),Q (.bool (g i j)) s->B3 (D3 X.prog X.w) X.A (f (.int i t) (.int j u)) Q E s) :
  OpR X f (rI0 λi j=>.bl (g i j)):=by
 intro b s e H x y v u Q I rx ry h;obtain⟨i,j,rfl,rfl,q⟩:=h;obtain⟨t,rfl⟩:=rx;obtain⟨a,rfl⟩:=ry;exact rule i j t a s _ _ ⟨.bl (g i j),H,I,rfl,q⟩
def jJ(i j:Int):Prop:=0<j/\j<1073741824
def kc(i j:Int):Prop:=0<=j/\j<=1000000/\i.natAbs<2 ^ 64
def fG(i j:Int):Prop:=(-(2 ^ 64)<i/\i<2 ^ 64)∨(-(2 ^ 64)<j/\j<2 ^ 64)
theorem fG.ok{i j:Int}(h:fG i j):IntMulOk i j:=by
 rcases h with⟨a,b⟩|⟨a,b⟩
 ·exact .of_left (intBits_le_64 a b)
 ·exact .of_right (intBits_le_64 a b)
theorem uE:OpR X (M7 .Add) (rI0 λi j=>.int (i+j)):=xm λ_ _ _ _ _ _ _ q=>add_int q
theorem vG:OpR X (M7 .Sub) (rI0 λi j=>.int (i-j)):=xm λ_ _ _ _ _ _ _ q=>sub_int q
theorem vq:OpR X (M7 .Mult) (rI fG λi j=>.int (i*j)):=opI λ_ _ _ _ _ _ _ a q=>mul_int q a.ok
theorem se:OpR X (M7 .FloorDiv) (rI jJ λi j=>.int (i / j)):=opI λi j _ _ _ _ _ a q=>by
 have b:(0:Int)<j:=a.1;have e:j<1073741824:=a.2;exact floordiv_int (by lia) (by rw[Int.fdiv_eq_ediv_of_nonneg i (by lia)];exact q) (.inl (PyProof.noPylong_small (by lia)))
theorem uQ:OpR X (M7 .Mod) (rI (λ_ j=>0<j) λi j=>.int (i % j)):=opI λi j _ _ _ _ _ a q=>by
 have b:(0:Int)<j:=a;exact mod_int' (by lia) (by rw[Int.fmod_eq_emod_of_nonneg i (by lia)];exact q)
theorem vz:OpR X (M7 .Pow) (rI kc λi j=>.int (i ^ j.toNat)):=opI λ_ _ _ _ _ _ _ a q=>pow_int_small a.1 a.2.1 a.2.2 q
theorem unI{f:o0->Sem o0}{g:Int->Int}
  (rule:∀(i:Int) (t:Tok) (s:z4) (Q:o0->z4->Prop) (E:o0->z4->Prop),Q (.int (g i) s.toks) { s with toks:=s.toks+1 }->B3 (D3 X.prog X.w) X.A (f (.int i t)) Q E s) :
  UnR X f (rU λi=>.int (g i)):=by
 intro a s b H x v Q I rx h;obtain⟨i,rfl,q⟩:=h;obtain⟨t,rfl⟩:=rx;exact rule i t s _ _ ⟨.int (g i),H,I.tok _,⟨_,rfl⟩,q⟩
theorem uB:UnR X (unaryOp .USub) (rU λi=>.int (-i)):=unI λ_ _ _ _ _ q=>neg_int q
end
section
variable{X:Cx}{a b c:C5}{g B tc:TE}{pos:Pos}
theorem jt{a:List (A1×Obj)}{σ:St}{H:Hp}{s:z4}{Q:VK}{k k':Bool}(I:Inv X a σ H s)(q:Q (.bl k) H)(e:k=k'):EP X a σ Q (.bool k') s:=by
 subst e;exact⟨.bl k,H,I,rfl,q⟩
theorem vJ:OpR X (E3 .Lt) (rI0 λi j=>.bl (decide (i<j))):=qJ λ_ _ _ _ _ _ _ q=>lt_int q
theorem wJ:OpR X (E3 .LtE) (rI0 λi j=>.bl (decide (i<=j))):=qJ λ_ _ _ _ _ _ _ q=>le_int q
theorem xg:OpR X (E3 .Gt) (rI0 λi j=>.bl (decide (j<i))):=qJ λ_ _ _ _ _ _ _ q=>gt_int q
theorem wX:OpR X (E3 .GtE) (rI0 λi j=>.bl (decide (j<=i))):=qJ λ_ _ _ _ _ _ _ q=>ge_int q
theorem nt:OpR X (E3 .In) (λx y H Q=>∃i j,x=.str i/\y=.str j/\Q (.bl (!(Q5 j i 0 j.length 1).isEmpty)) H):=by
 intro a s b H x y v u Q I rx ry h;obtain⟨i,j,rfl,rfl,q⟩:=h;obtain⟨t,rfl⟩:=rx;obtain⟨e,rfl⟩:=ry;exact in_str (jt I q rfl)
theorem uU:OpR X (E3 .Is) (λx y H Q=>y=.non/\Q (.bl (decide (x=.non))) H):=by
 intro a s b H x y v u Q I rx ry h;obtain⟨rfl,q⟩:=h;cases ry;refine is_none_gen (jt I q ?_);cases x<;>first
  |(cases rx;rfl)
  |(obtain⟨t,rfl⟩:=rx;rfl)
theorem so:OpR X (E3 .IsNot) (λx y H Q=>y=.non/\Q (.bl (!decide (x=.non))) H):=by
 intro a s b H x y v u Q I rx ry h;obtain⟨rfl,q⟩:=h;cases ry;refine isnot_none_gen (jt I q ?_);cases x<;>first
  |(cases rx;rfl)
  |(obtain⟨t,rfl⟩:=rx;rfl)
theorem jD:OpR X (E3 .NotIn) (λx y H Q=>∃i j,x=.str i/\y=.str j/\Q (.bl (!(!(Q5 j i 0 j.length 1).isEmpty))) H):=by
 intro a s b H x y v u Q I rx ry h;obtain⟨i,j,rfl,rfl,q⟩:=h;obtain⟨t,rfl⟩:=rx;obtain⟨e,rfl⟩:=ry;exact notIn_str (jt I q rfl)
theorem qS{e:CmpOp}{r:R2}(t:OpR X (E3 e) r)(ha:PE X a g)(i:PE X b B)(p:S1 e b=false):PE X (.Compare a [e] [b] pos) (tOp r g B):=by
 intro f s n H Q I h;exact wpAny_Compare1 (rF ha i I h λv u m x y w l o j q=>t f m n w x y v u Q l o j q) p
def tJ(t:TE):TT:=λa H Q=>t a H λx b=>∃k,x=.bl k/\Q k b
theorem qV{l:CmpOp}{r:R2}(N:OpR X (E3 l) r)(ha:PE X a g)(m:PE X b B)(E:S1 l b=false):PT X (.Compare a [l] [b] pos) (tJ (tOp r g B)):=by
 intro i s j H Q I h;refine wpAny_isTrue_Compare1 (thn (ha i s j H _ I h) λv J f=>f.el λx w p o n=>thn (m i J j w _ p n) λu C f=>f.el λy O A t P =>
  thn (N i C j O x y v u _ A o t P) λc R ⟨z,G,q,L,k,e,M⟩=>?_) E
 subst e;cases L;exact P6 ⟨G,q,M⟩
def ux(r i:R2)(g B tc:TE):TE:=λa H Q=>g a H λx f=>B a f λy j=>r x y j λz b=>∃k,z=.bl k /\
 (if k=true then tc a b λh e=>i y h e Q else Q (.bl false) b)
theorem pP{m f:CmpOp}{r q:R2}(ho:OpR X (E3 m) r)(n:OpR X (E3 f) q)(ha:PE X a g)(R:PE X b B)(C:PE X c tc)
  (hm:lastMarks [m,f] [b,c]=false:=by with_unfolding_all rfl):PE X (.Compare a [m,f] [b,c] pos) (ux r q g B tc):=by
 intro j s l H Q I h;refine Compare_chain (thn (ha j s l H _ I h) λv M i=>i.el λx G E T A=>chain_link (thn (R j M l G _ E A) λu s2 i=>i.el λy O J w P =>
  thn (ho j s2 l O x y v u _ J T w P) λd U ⟨z,p,o,N,k,e,t⟩=>?_)) hm
 subst e;cases N;refine P6 ?_;cases k with
 |false=>exact ite_ff ⟨.bl false,p,o,rfl,t⟩
 |true=>exact ite_tt (chain_last (thn (C j U l p _ o t) λw' s4 ⟨z',Y,Z,S,L⟩=>n j s4 l Y y z' u w' Q Z w S L))
theorem fO:(A0:Nat)<2 ^ 63:=by rw[sizeLine_eq];decide
theorem gU:OpR X (M7 .Add) (λx y H Q=>∃i j,x=.str i/\y=.str j/\i.length+j.length<=A0/\Q (.str (i++j)) H):=by
 intro e s f H x y v u Q I rx ry h;obtain⟨i,j,rfl,rfl,b,q⟩:=h;obtain⟨t,rfl⟩:=rx;obtain⟨a,rfl⟩:=ry;exact add_str (λa g=>⟨.str (i++j),H,I.tok _,⟨_,rfl⟩,q⟩) b
theorem mi{x:V}{a:List o0}(r:au [x] a):∃u,a=[u]/\aF x u:=by
 cases r with
 |cons b e=>cases e;exact⟨_,rfl,b⟩
theorem qq:cc X (.builtin "abs") (λa H Q=>∃i,a=[.int i]/\Q (.int (if i<0 then -i else i)) H):=by
 intro b s e H a g Q I r h;obtain⟨i,rfl,q⟩:=h;obtain⟨u,rfl,t,rfl⟩:=mi r;exact call_abs_int λu f=>⟨.int (if i<0 then -i else i),H,I.tok _,⟨_,rfl⟩,q⟩
end
theorem nv{v:V}{u:o0}(r:aF v u):PySem.W.handedIn u=true:=by
 cases v with
 |non=>cases(show u=C4 from r);rfl
 |bl b=>cases(show u=U8 b from r);rfl
 |int i=>obtain⟨t,e⟩:=(show ∃t,u=o0.int i t from r);cases e;rfl
 |str x=>obtain⟨t,e⟩:=(show ∃t,u=aa0 x t from r);cases e;rfl
 |byt b=>obtain⟨t,e⟩:=(show ∃t,u=o0.bytes b t from r);cases e;rfl
 |flt b=>obtain⟨t,e⟩:=(show ∃t,u=o0.float b t from r);cases e;rfl
 |ref a=>cases(show u=A9 a from r);rfl
 |ty n=>cases(show u=D5 n from r);rfl
section
variable{X:Cx}{g:List (A1×Obj)}{σ:St}{H:Hp}{s:z4}{a C t:A1}{fs:List (Str×V)}{f:Str}{v:V}{A:D4}{E:o0->z4->Prop}
theorem sM{prog:C1}{w:F8}{env:Env}{e:C5}{f:Str}{pos:Pos}{s:z4}{Q:o0->z4->Prop}(b:F9 e f env (M6 e env)=M6 e env)
  (h:B3 (D3 prog w) A (M6 e env) (λo a=>B3 (D3 prog w) A (getAttr o f true) Q E a) E s):B3 (D3 prog w) A (M6 (.Attribute e f pos) env) Q E s :=
 Attribute_any_ h (by rw[arm_eval_Attribute,b])
end
structure bA(k:Nat) (A:D4):Prop where
 hd:A.handled=none
 dp:A.depth+3*k+5<recursionLimit
 un:A.units+16*k+200<ad2
theorem bA.mono{j k:Nat}{A:D4}(r:bA k A)(h:j<=k):bA j A:=⟨r.hd,by have:=r.dp;lia,by have:=r.un;lia⟩
theorem bA.deeper{k:Nat}{A:D4}(r:bA (k+1) A)(env:Env):bA k (A.deeper env) :=
 ⟨r.hd,by have:=r.dp;show A.depth+1+3*k+5<_;lia,by have:=r.un;show A.units+3+16*k+200<_;lia⟩
theorem bA.in1{k:Nat}{A:D4}(r:bA (k+1) A):bA k A.in1 :=
 ⟨r.hd,by have:=r.dp;show A.depth+3*k+5<_;lia,by have:=r.un;show A.units+1+16*k+200<_;lia⟩
theorem ly{A:D4}{C:A1}{a:List o0}{kw:List (Str×o0)}:(A.under (.builtin "type.__call__" ⟨.ref C::a,kw⟩)).depth=A.depth+1:=by
 first|rfl|simp[D4.under,Code.weight,Code.isCreation,Code.isGuard,Code.isCaller,Code.frames,Code.isFrame,guardIds]
theorem lS{A:D4}{C:A1}{a:List o0}{kw:List (Str×o0)}:(A.under (.builtin "type.__call__" ⟨.ref C::a,kw⟩)).units=A.units+1:=by
 first|rfl|simp[D4.under,Code.cUnits,Code.frames,Code.isFrame]
theorem bA.make{k:Nat}{A:D4}(r:bA (k+1) A)(C:A1)(a:List o0)(kw:List (Str×o0)):bA k (A.under (.builtin "type.__call__" ⟨.ref C::a,kw⟩)) :=
 ⟨r.hd,by have:=r.dp;rw[ly];lia,by have:=r.un;rw[lS];lia⟩
theorem bA.depth{k:Nat}{A:D4}(r:bA k A):A.depth<recursionLimit:=by have:=r.dp;lia
theorem bA.units{k:Nat}{A:D4}(r:bA k A):A.units+64<ad2:=by have:=r.un;lia
def ur:TA:=λ_ H Q=>Q [] H
def jc(b:TE)(g:TA):TA:=λa H Q=>b a H λx h=>g a h λe f=>Q (x::e) f
section
variable{X:Cx}{e:C5}{g:List C5}{te:TE}{t:TA}{pos:Pos}
theorem cK:PA X [] ur:=λ_ _ _ _ H Q I h=>Calls.spliced_nil ⟨[],H,I,.nil,h⟩
theorem bp(ha:PE X e te)(hr:PA X g t)(j:z9 (e::g) X.env=(false,M6 e X.env)::z9 g X.env:=by rfl):PA X (e::g) (jc te t):=by
 intro pos b s f H Q I h;rw[j];show B3 _ _ (spliced ((false,M6 e X.env)::K6 pos (z9 g X.env))) _ _ s;refine L6 (thn (ha b s f H _ I h) λu q a=>a.el λx n m l i=>?_);exact thn (hr pos b q f n _ m i) λC B a=>a.el λp z o w A=>⟨x::p,z,o,.cons l w,A⟩
def xS(t:TA):TE:=λe H Q=>t e H λa b=>a.length<=A0/\∀p,b p=none->Q (.ref p) (upd b p (.tup a))
def yb(t:TA):TE:=λe H Q=>t e H λa b=>a.length<=A0/\∀p,b p=none->Q (.ref p) (upd b p (.lst a))
theorem uN{x1}(h:PA X g t):PE X (.Tuple g x1 pos) (xS t):=by
 intro l s n H Q I m;refine wpAny_Tuple_spliced (thn (h pos l s n H _ I m) λj a ⟨p,i,f,r,z,q⟩=>⟨by rw[<-r.length];exact z,?_⟩);have o:i a.heap.objs.size=none:=f.hok.fresh (B8 _);refine⟨.ref a.heap.objs.size,upd i a.heap.objs.size (.tup p),f.laid (t':=a.toks) (λb u e=>z6 _ e) (B8 _) ?_,rfl,q _ o⟩;exact⟨z,j,r,⟨_,C8 _ rfl,rfl,⟨_,rfl⟩,rfl⟩⟩
theorem p6(h:PA X g t):PE X (.List g pos) (yb t):=by
 intro l s n H Q I m;refine wpAny_List_spliced (thn (h pos l s n H _ I m) λj a ⟨p,i,f,r,z,q⟩=>⟨by rw[<-r.length];exact z,?_⟩);have o:i a.heap.objs.size=none:=f.hok.fresh (B8 _);refine⟨.ref a.heap.objs.size,upd i a.heap.objs.size (.lst p),f.laid (t':=a.toks) (λb u e=>z6 _ e) (B8 _) ?_,rfl,q _ o⟩;exact⟨z,j,0,r,C8 _ rfl⟩
end
abbrev Sp:=List V->Hp->VK->XK->Prop
abbrev CXT:=List Env->Hp->z4->XK->o0->z4->Prop
structure iD(P:C1) (w:F8) (K:s0) (mg:Str->Option o0) (base:C9) (A:D4) (outer:List Env) (s:z4) (H:Hp):Prop where
 frames:A.frames=some outer
 mod:Mod K mg base
 bs:∀b o,base.get? b=some o->s.heap.get? b=some o/\H b=none
 bsz:base.objs.size<=s.heap.objs.size
 funs:s.heap.FunFrames base outer
 frf:∀b∈frs outer,H b=none
 hok:HOk P w H s.heap
 bare:V9 s.gens
def CE(a:List Env)(P:C1)(w:F8)(H:Hp)(s:z4)(Q:VK)(u:o0)(s':z4):Prop :=
 ∃v b,s'.os=s.os/\V9 s'.gens/\Un (frs a) [] H b s.heap s'.heap/\HOk P w b s'.heap/\aF v u/\Q v b
def CR(CX:CXT)(a:List Env)(P:C1)(w:F8)(H:Hp)(s:z4)(Q:VK)(E:XK)(r:Result)(s':z4):Prop :=
 match r with
 |.ok (.ret u)=>CE a P w H s Q u s'
 |.ok _=>False
 |.error e=>CX a H s E e s'
structure aS(P:C1) (w:F8) (K:s0) (mg:Str->Option o0) (base:C9) (CX:CXT) (k:Nat) (f:A1) (fd:B7) (ps:List Str) (sp:Sp):Prop where
 len:∀vs H Q E,sp vs H Q E->vs.length=ps.length
 run:∀(A:D4) (outer:List Env) (s:z4) (H:Hp) (args:Args) (us:List o0) (vs:List V) (Q:VK) (E:XK),bA k A->iD P w K mg base A outer s H->ab8 s fd args (ps.zip us)->au vs us->sp vs H Q E ->
  aa1 (D3 P w) A (.call (.ref f) args) (CR CX outer P w H s Q E) s
theorem iD.make{P:C1}{w:F8}{K:s0}{b:Str->Option o0}{base:C9}{A:D4}{a:List Env}{s:z4}{H:Hp}(e:iD P w K b base A a s H)(C:A1)(f:List o0)(kw:List (Str×o0)):
  iD P w K b base (A.under (.builtin "type.__call__" ⟨.ref C::f,kw⟩)) a s H:=⟨by first|exact e.frames|(simpa[D4.under,Code.envs,Code.isFrame,pushEnvs]using e.frames),e.mod,e.bs,e.bsz,e.funs,e.frf,e.hok,e.bare⟩
theorem iD.in1{P:C1}{w:F8}{K:s0}{b:Str->Option o0}{base:C9}{A:D4}{a:List Env}{s:z4}{H:Hp}(e:iD P w K b base A a s H):
  iD P w K b base A.in1 a s H:=⟨e.frames,e.mod,e.bs,e.bsz,e.funs,e.frf,e.hok,e.bare⟩
section
variable{X:Cx}{B:List (A1×Obj)}{σ:St}{H:Hp}{s s':z4}
theorem Inv.env0(I:Inv X B σ H s):iD X.prog X.w X.K X.mg X.base X.A X.stack s H :=
 ⟨I.ok.frames,I.ok.mod,I.bs,E7 I.ok.bsz I.sz,I.stack,I.stkFree,I.hok,I.bare⟩
theorem Inv.after{Q:VK}{u:o0}(I:Inv X B σ H s)(h:CE X.stack X.prog X.w H s Q u s'):EP X B σ Q u s':=by
 obtain⟨v,j,os,a,un,e,r,q⟩:=h;obtain⟨i,g,d,t,f⟩:=s';obtain rfl:f=s.os:=os;exact⟨v,j,I.call (h':=i) (g':=g) (d':=d) (t':=t) (ch:=[]) un e a (λb z=>absurd z (by simp)),r,q⟩
end
def vK(sp:Sp)(a:List V)(E:XK)(t:TA):TE:=λb H Q=>t b H λe f=>sp (e++a) f Q E
def cg(K:s0)(b:B7)(ps:List Str)(ds:List o0):Prop :=
 ∀(s:z4) (a:List o0),K.In s.heap->(a++ds).length=ps.length->ab8 s b ⟨a,[]⟩ (ps.zip (a++ds))
theorem cg.all{K:s0}{b:B7}{ps:List Str}(h:∀a:List o0,a.length=ps.length->bindArgs b ⟨a,[]⟩=W1 (ps.zip a)):cg K b ps []:=λs a _ e=>by
 rw[R6]at e ⊢;exact .of_eq (h a e)
def lZ(CX:CXT)(X:Cx)(E:XK):Prop:=∀(b:List (A1×Obj)) (f:St) (H:Hp) (s:z4) (e:o0) (a:z4),Inv X b f H s->CX X.stack H s E e a->X.xe e a
section
variable{X:Cx}{CX:CXT}{k:Nat}{f C:A1}{B:B7}{ps:List Str}{sp:Sp}{g:List V}{ds:List o0}{E:XK}{x m:Str}{p pos G:Pos}{e o:C5}{z:List C5}{J:TE}{t:TA}
theorem tT{j:List (A1×Obj)}{σ:St}{H:Hp}{s:z4}{Q:VK}{a:List o0}{i:List V}(F:aS X.prog X.w X.K X.mg X.base CX k f B ps sp)(hr:bA k X.A)(o:cg X.K B ps ds)(m:au g ds)(q:lZ CX X E)
  (I:Inv X j σ H s) (r:au i a) (h:sp (i++g) H Q E):B3 (D3 X.prog X.w) X.A (call (.ref f) a) (EP X j σ Q) X.xe s:=by
 have l:au (i++g) (a++ds):=r.append m;have t:(a++ds).length=ps.length:=by rw[<-l.length];exact F.len _ _ _ _ h
 refine T6 (Y6 (F.run X.A X.stack s H ⟨a,[]⟩ (a++ds) (i++g) Q E hr I.env0 (o s a I.kIn t) l h) λr n b=>?_);cases r with
 |error e=>exact q j σ H s e n I b
 |ok p =>
  cases p with
  |ret u=>exact I.after b
  |next=>exact I0 b
  |brk=>exact I0 b
  |cont=>exact I0 b
theorem rX(F:aS X.prog X.w X.K X.mg X.base CX k f B ps sp)(hr:bA k X.A)(hg:Gl X x)(o:X.mg x=some (.ref f))(j:M8 X.K (.ref f)=true)(m:cg X.K B ps ds)(i:au g ds)(u:lZ CX X E)
  (ha:PA X (e::z) t) (hdb:(x==("__debug__":Str))=false:=by decide) (he:z9 (e::z) X.env=(false,M6 e X.env)::z9 z X.env:=by rfl) (hpl:(K6 pos (z9 z X.env)).any (·.1)=false:=by rfl) :
  PE X (.Call (.Name x p) (e::z) [] pos) (vK sp g E t):=by
 intro l s n H Q I h;refine R5 (ft I hg o ?_ hdb);refine PySem.W.callWith_K (h₀:=X.base) I.ok.mod.kin j (thn (ha pos l s n H _ I h) λC A a=>a.el λG w b r q=>⟨b.kIn,?_⟩) he hpl;exact tT F hr m i u b r q
end
structure ax(N P:List Str) (sc:T0):Prop where
 kind:sc.kind=.function
 co:sc.isCoroutine=false
 gen:sc.isGenerator=false
 nd:N.Nodup
 pre:N.take P.length=P
 par:∀x∈P,sc.names.lookup x=some .local∨sc.names.lookup x=some .cell
 nofree:∀y∈sc.names,y.2≠.free
theorem iN{Y7:Str->Option J1}{x:Str}:∀{binds:List (Str×o0)}{m:Str->Option o0},(∀v,(x,v)∉binds)->bindL Y7 binds m x=m x
 |[],_,_=>rfl
 |(n,v)::r,m,h=>by
  unfold bindL;rw[iN λw a=>h w (B4 _ a)]
  split
  ·have:x≠n:=by rintro rfl;exact h v F1
   simp[this]
  ·rfl
theorem iU{Y7:Str->Option J1}{x:Str}:∀{binds:List (Str×o0)}{m:Str->Option o0},(∀v,(x,v)∉binds)->bindC Y7 binds m x=m x
 |[],_,_=>rfl
 |(n,v)::r,m,h=>by
  unfold bindC;rw[iU λw a=>h w (B4 _ a)]
  split
  ·rfl
  ·have:x≠n:=by rintro rfl;exact h v F1
   simp[this]
theorem iX{Y7:Str->Option J1}{x:Str}{v:o0}:∀{P:List Str}{a:List o0}{i:Nat}{m:Str->Option o0},P.Nodup->P[i]?=some x->a[i]?=some v->Y7 x=some .local ->
  bindL Y7 (P.zip a) m x=some v
 |[],_,_,_,_,h,_,_=>by simp at h
 |_::_,[],_,_,_,_,h,_=>by simp at h
 |p::P,w::a,0,m,f,b,e,g=>by
  simp at b e;subst b;subst e;show bindL Y7 ((p,w)::P.zip a) m p=_;unfold bindL;rw[iN λv j=>(U1.mp f).1 (List.of_mem_zip j).1,if_pos g];simp
 |p::P,w::a,i+1,m,f,b,e,g=>by
  show bindL Y7 ((p,w)::P.zip a) m x=_;unfold bindL;exact iX (i:=i) (U1.mp f).2 (by simpa using b) (by simpa using e) g
theorem iQ{Y7:Str->Option J1}{x:Str}{v:o0}:∀{P:List Str}{a:List o0}{i:Nat}{m:Str->Option o0},P.Nodup->P[i]?=some x->a[i]?=some v->Y7 x≠some .local ->
  bindC Y7 (P.zip a) m x=some v
 |[],_,_,_,_,h,_,_=>by simp at h
 |_::_,[],_,_,_,_,h,_=>by simp at h
 |p::P,w::a,0,m,f,b,e,g=>by
  simp at b e;subst b;subst e;show bindC Y7 ((p,w)::P.zip a) m p=_;unfold bindC;rw[iU λv j=>(U1.mp f).1 (List.of_mem_zip j).1,if_neg g];simp
 |p::P,w::a,i+1,m,f,b,e,g=>by
  show bindC Y7 ((p,w)::P.zip a) m x=_;unfold bindC;exact iQ (i:=i) (U1.mp f).2 (by simpa using b) (by simpa using e) g
def di(N:List Str)(a:List V):St:=a.map some++z5 (N.length-a.length) none
noncomputable def hJ(CX:CXT)(P:C1)(w:F8)(K:s0)(i:Str->Option o0)(base:C9)(N:List Str)(g:Str)(a:T0)(f:A1)(cd:o0)(A:D4)(b:List Env)(s:z4)(H:Hp)(E:XK):Cx where
 prog:=P
 w:=w
 K:=K
 mg:=i
 base:=base
 A:=A.deeper (U2 g a s.heap.objs.size f cd)
 N:=N
 s₀:=s
 H₀:=H
 env:=U2 g a s.heap.objs.size f cd
 outer:=b
 stack:=U2 g a s.heap.objs.size f cd::b
 ex:=[]
 calm:=true
 fn:=λ_=>true
 pn:=[]
 xe:=λe l=>B3 (D3 P w) (A.deeper (U2 g a s.heap.objs.size f cd)) (leaving (U2 g a s.heap.objs.size f cd) e) (λ_ h=>CX b H s E e h) (λj h=>CX b H s E j h) l
theorem lg{a:T0}{n:Nat}{x:Str}(h:a.names.lookup x=some .cell):∃c,(ac5 n a.names []).lookup x=some c:=by
 have q:=PySem.W.cellsFrom_some a.names n [] (.inl h);exact E8.mp q
theorem nN{CX:CXT}{P:C1}{w:F8}{K:s0}{M:Str->Option o0}{base:C9}{N ps:List Str}{l:Str}{g:T0}{f:A1}{cd:o0}{A:D4}{j:List Env}{s Q:z4}{H:Hp}{E:XK}{O:List o0}{B:List V}
  (S:ax N ps g) (U:A.handled=none) (o:iD P w K M base A j s H) (hl:B.length=ps.length) (r:au B O)
  (x:InCallC s s.heap.objs.size (bindL (U2 l g s.heap.objs.size f cd).kindOf (ps.zip O) λ_=>none) (ac5 (s.heap.objs.size+1) g.names []) (bindC (U2 l g s.heap.objs.size f cd).kindOf (ps.zip O) λ_=>none) Q) :
  Inv (hJ CX P w K M base N l g f cd A j s H E) [] (di N B) H Q:=by
 have Y:ps.length<=N.length:=by have:=congrArg Z3 S.pre;rw[Q9]at this;lia
 obtain⟨L,tk,rfl,R⟩:=x.done;have t:∀b:A1,b∉(hJ CX P w K M base N l g f cd A j s H E).ex:=λb z=>absurd (show b∈([]:List A1)from z) (by simp);refine⟨⟨o.mod,S.kind,rfl,rfl,B8 _,λy z c L m=>?_,λy C=>?_,λy c _ h=>?_,λ_=>U,D4.frames_deeper o.frames,.inr ⟨rfl,rfl⟩,λb z=>absurd z (t b),o.bs,o.bsz,λb _ _=>t b,λb z=>absurd z (t b),o.funs,o.frf⟩,
  rfl,o.bare,Un.kept R,⟨_,x.toInCall.ns,λi y v L m h3=>?_⟩,λy c h=>⟨_,x.cell y c h⟩,o.hok.fresh (B8 _),λy c h=>?_,λp G=>absurd (show p∈([]:List (A1×Obj))from G) (by simp),o.hok.kept R,?_⟩
 ·exact name_of_addr x.apart (J3 L) (J3 m)
 ·have C:g.names.lookup y=some .cell∨g.names.lookup y=some .free:=C;rcases C with C|C
  ·exact lg C
  ·exact absurd rfl (S.nofree _ (J3 C))
 ·exact X8 (x.above y c (J3 h))
 ·have J:i<B.length:=by
   unfold di at m
   by_cases J:i<B.length
   ·exact J
   ·rw[O4 (by simpa using J)]at m;rw[Q6]at m
    split at m<;>cases m
  have Z:B[i]?=some v:=by
   unfold di at m;rw[F7 (by simpa using J),N7]at m;cases e:B[i]? with
   |none=>rw[e]at m;cases m
   |some a=>rw[e]at m;cases m;rfl
  obtain⟨u,T,X⟩:=r.get Z;have G:ps[i]?=some y:=by
   rw[<-S.pre,List.getElem?_take_of_lt (by lia)];exact L
  have I:ps.Nodup:=by rw[<-S.pre];exact S.nd.sublist (List.take_sublist _ _)
  refine⟨u,X,?_⟩;rcases S.par y (N5 G)with k|k
  ·exact .inl ⟨k,iX I G T k⟩
  ·obtain⟨c,e⟩:=lg (n:=s.heap.objs.size+1) k;refine .inr ⟨.inl k,c,e,?_⟩;have q:=x.cell y c e;rw[iQ I G T (by show g.names.lookup y≠_;rw[k];decide)]at q;exact q
 ·exact o.hok.fresh (X8 (x.above y c (J3 h)))
 ·unfold di;show _=N.length;rw[C6,J4,E5]
  lia
theorem tD{CX:CXT}{P:C1}{w:F8}{K:s0}{T:Str->Option o0}{base:C9}{k:Nat}{f:A1}{name h:Str}{j:Arguments}{l:List P9}{a:T0}{dV kV M pm i ct oc:o0}{an od:Option A1}
  {Z:Array (Option o0)} {N ps:List Str} {sp:Sp} (lk:K.lookup f=some ⟨oc,od,.func (P0 name h j l a dV kV M pm an i ct),Z⟩) (a0:V2 K i h=true) (S:ax N ps a)
  (len:∀m H Q E,sp m H Q E->m.length=ps.length)
  (C:∀ (A:D4) (g:List Env) (s:z4) (H:Hp) (m:List V) (Q:VK) (E:XK),bA k (A.deeper (U2 h a s.heap.objs.size f i)) → sp m H Q E →
   ∃t,PSs (hJ CX P w K T base N h a f i A g s H E) l t/\t { nx:=λ_ z=>Q .non z,rt:=Q } (di N m) H) :
  aS P w K T base CX (k+1) f (P0 name h j l a dV kV M pm an i ct) ps sp:=by
 refine⟨len,λA g s H a1 us m Q E hr L hb r O=>?_⟩;have hl:=len _ _ _ _ O;have KX:K.In s.heap:=L.mod.kin.keeps λb o e=>(L.bs b o e).1;have U:s.heap.NoLimit:=L.mod.nolimit.keeps λb o e=>(L.bs b o e).1;have B:∀y∈ps.zip us,a.names.lookup y.1=some .local∨(a.names.lookup y.1=some .cell/\((ac5 (s.heap.objs.size+1) a.names []).lookup y.1).isSome=true):=λ⟨n,v⟩ hy=>by
  rcases S.par n (List.of_mem_zip hy).1 with q|q
  ·exact .inl q
  ·exact .inr ⟨q,PySem.W.cellsFrom_some _ _ _ (.inl q)⟩
 refine codeAny_call_function hr.depth (KX _ _ lk) rfl S.co S.gen rfl (PySem.W.codeRec_of KX a0) (hb _ _ _ _ ?_);refine wpAny_newFunctionEnv_cells S.kind B λa2 he s1 x=>?_;subst he;refine⟨U.keeps x.toInCall.keep,codeAny_func ?_⟩;obtain⟨t,ht,hq⟩:=C A g s H m Q E (hr.deeper _) O;have I:Inv (hJ CX P w K T base N h a f i A g s H E) [] (di N m) H s1:=nN S hr.hd L hl r x;refine F3 (ht [] s1 (di N m) H _ I hq) (λfl Y G=>?_) λe Y G=>G;have R:∀{p:St} {z:Hp} {v:V} {u:o0},Inv (hJ CX P w K T base N h a f i A g s H E) [] p z Y->aF v u->Q v z->CE g P w H s Q u Y :=
  λ{p z v u} J X q=>⟨v,z,J.os,J.bare,J.base,J.hok,X,q⟩
 cases fl with
 |ret u =>
  obtain⟨v,p,z,J,X,q⟩:=G;exact R J X q
 |next =>
  obtain⟨p,z,J,q⟩:=G;exact R (v:=V.non) (u:=C4) J rfl q
 |brk =>
  obtain⟨_,_,_,q⟩:=G;exact I0 q
 |cont =>
  obtain⟨_,_,_,q⟩:=G;exact I0 q
section
variable{X:Cx}{x:Str}{p pos:Pos}{e:C5}{g:List C5}{t:TA}{id T:String}{r:List V->Hp->VK->Prop}
def tCB(r:List V->Hp->VK->Prop)(t:TA):TE:=λa H Q=>t a H λb e=>r b e Q
theorem eX(j:cc X (.builtin id) r)(hg:Gl X x)(A:X.mg x=none)(n:O8 x=some (.builtin id))(ha:PA X (e::g) t)(z:x≠"__name__":=by decide)(hdb:(x==("__debug__":Str))=false:=by decide)
  (he:z9 (e::g) X.env=(false,M6 e X.env)::z9 g X.env:=by rfl) (hpl:(K6 pos (z9 g X.env)).any (·.1)=false:=by rfl):PE X (.Call (.Name x p) (e::g) [] pos) (tCB r t):=by
 intro b s f H Q I h;refine R5 (jZ I hg A n ?_ z hdb);exact PyProof.Rows.callWith_builtin1 (thn (ha pos b s f H _ I h) λq o a=>a.el λu m l w i=>j b o f m u q Q l w i) he hpl
theorem nI(j:cc X (.type T) r)(hg:Gl X x)(A:X.mg x=none)(n:O8 x=some (.type T))(ha:PA X (e::g) t)(z:x≠"__name__":=by decide)(hdb:(x==("__debug__":Str))=false:=by decide)
  (he:z9 (e::g) X.env=(false,M6 e X.env)::z9 g X.env:=by rfl) (hpl:(K6 pos (z9 g X.env)).any (·.1)=false:=by rfl):PE X (.Call (.Name x p) (e::g) [] pos) (tCB r t):=by
 intro b s f H Q I h;refine R5 (jZ I hg A n ?_ z hdb);exact PyProof.Rows.callWith_type1 (thn (ha pos b s f H _ I h) λq o a=>a.el λu m l w i=>j b o f m u q Q l w i) he hpl
end
end L2
namespace HT
open PySem PyProof.Rows
section
open PySem.SeqAt
open PySem.AutoSeq1 (wpAny_loadPart')
open PySem.MeetsSeq PySem.MeetsSeq2 PySem.MeetsSeq3
end
section
variable{prog:C1}{w:F8}{A:D4}{E:o0->z4->Prop}{s:z4}
theorem cat_tup{t b:A1}{f ws:List o0}{Q:o0->z4->Prop}(C:ad1 s.heap t f.toArray)(H:ad1 s.heap b ws.toArray)(q:f≠[])
  (G:ws=[]->Q (.ref t) s) (I:ws≠[]->Q (.ref s.heap.objs.size) { s with heap:=s.heap.push { cls:=.type "tuple",data:=.seq (f++ws).toArray } })
  (hsz:f.length+ws.length<=A0):B3 (D3 prog w) A (M7 .Add (.ref t) (.ref b)) Q E s:=by
 obtain⟨⟨cls,x,data,B⟩,m,p,n,o⟩:=id C;obtain⟨⟨z,h,data2,g⟩,a,j,u,i⟩:=id H;simp only at p o j i;subst p o j i;have e:f.toArray++ws.toArray=(f++ws).toArray:=by simp
 by_cases l:ws=[]
 ·exact concat_meets ⟨_,m,rfl⟩ ⟨_,a,rfl⟩ noFill_tuple_add seq_tuple_add PySem.F.slot_tuple_add PySem.F.entry_tuple_add (PySem.F.args_tuple_add_2 _ _)
   (tuple_addW1 t b f.toArray ws.toArray n u x h B g (by simpa using q) (by simp[l])) ⟨m,a,G l⟩
 ·refine concat_meets ⟨_,m,rfl⟩ ⟨_,a,rfl⟩ noFill_tuple_add seq_tuple_add PySem.F.slot_tuple_add PySem.F.entry_tuple_add (PySem.F.args_tuple_add_2 _ _)
   (tuple_addW2 t b f.toArray ws.toArray n u x h B g (by simpa using q) (by simpa using l) (by rw[A3,A3];exact hsz)) ⟨m,a,?_⟩
  rw[e];exact I l
noncomputable def sIx(n d:Nat):Option Int->Nat
 |none=>d
 |some v=>if v<0 then(v+(n:Int)).toNat else min v.toNat n
theorem sIx_none(n d:Nat):sIx n d none=d:=rfl
theorem sIx_nat(n d k:Nat):sIx n d (some (k:Int))=min k n:=by
 show(if(k:Int)<0 then((k:Int)+(n:Int)).toNat else min (k:Int).toNat n)=min k n;rw[if_neg (by lia),Int.toNat_natCast]
theorem uV(n d:Nat)(b:d<=n)(o:Option Int):sIx n d o<=n:=by
 cases o with
 |none=>exact b
 |some v =>
  show(if v<0 then(v+(n:Int)).toNat else min v.toNat n)<=n
  by_cases a:v<0
  ·rw[if_pos a];lia
  ·rw[if_neg a];exact Nat.min_le_right _ _
theorem mL(v:Int)(n d:Nat):(if v<0 then max (v+(n:Int)) 0 else min v (n:Int))=((sIx n d (some v):Nat):Int):=by
 show(if v<0 then max (v+(n:Int)) 0 else min v (n:Int))=(((if v<0 then(v+(n:Int)).toNat else min v.toNat n):Nat):Int)
 by_cases a:v<0
 ·simp only[if_pos a];lia
 ·simp only[if_neg a];lia
theorem lK(lo a:Option Int)(n:Nat):E4.Slice.sliceAdjust lo a 1 (n:Int)=(((sIx n 0 lo:Nat):Int),((sIx n n a:Nat):Int)):=by
 have b:¬ ((1:Int)<0):=by lia
 unfold E4.Slice.sliceAdjust;simp only[b,if_false];refine Prod.ext ?_ ?_
 ·cases lo with
  |none=>rfl
  |some v=>exact mL v n 0
 ·cases a with
  |none=>rfl
  |some v=>exact mL v n n
theorem lN(i j:Nat):P3 (i:Int) (j:Int) 1=j-i:=by
 unfold P3;have a:(1:Int) > 0:=by lia
 simp only[a,if_true,Int.ediv_one]
 split<;>lia
theorem g7{v:o0}{o:Option Int}{Q:Option Int->z4->Prop}(p:ab6 v o)(h:Q o s):B3 (D3 prog w) A (E4.Slice.slicePartIndex v) Q E s:=by
 cases p with
 |none=>exact slicePart_none h
 |int i t=>exact slicePart_int h
theorem cU{i:A1}{f g:o0}{lo e:Option Int}{n:Nat}{Q:Int×Int×Nat->z4->Prop}(j:s.heap.IsSliceOf i f g .none)(pl:ab6 f lo)(m:ab6 g e)
  (h:Q (((sIx n 0 lo:Nat):Int),1,sIx n n e-sIx n 0 lo) s):B3 (D3 prog w) A (E4.Slice.sliceApplied (.ref i) (W1 (n:Int))) Q E s:=by
 obtain⟨os,b,l,a⟩:=id j;unfold E4.Slice.sliceApplied E4.Slice.sliceFields;refine u8 (u8 (W9 b a (x:=f) rfl (u8 (W9 b a (x:=g) rfl (u8 (W9 b a (x:=.none) rfl (z7 ?_)))))));refine u8 (slicePart_none ?_);show B3 _ _ (if((1:Int)==0)=true then _ else _) _ _ s;rw[if_neg (by decide)];refine u8 (g7 pl (u8 (g7 m (u8 (z7 ?_)))));show B3 _ _ (match E4.Slice.sliceAdjust lo e 1 (n:Int)with|(lo,e)=>W1 (lo,(1:Int),P3 lo e 1)) _ _ s;rw[lK lo e n];show B3 _ _ (W1 (((sIx n 0 lo:Nat):Int),(1:Int),P3 ((sIx n 0 lo:Nat):Int) ((sIx n n e:Nat):Int) 1)) _ _ s;rw[lN];exact z7 h
theorem pU(a:Array o0)(i k:Nat):((O5 k).filterMap λ(m:Nat)=>a[((i:Int)+(m:Int)*1).toNat]?).toArray=((a.toList.drop i).take k).toArray:=by
 have e:(λ(m:Nat)=>a[((i:Int)+(m:Int)*1).toNat]?)=λm=>a[i+m]?:=by
  funext m;have:((i:Int)+(m:Int)*1).toNat=i+m:=by lia
  rw[this]
 rw[e];have:=pick_run a i k;rw[List.filterMap_map]at this;have b:((λx=>a[x]?)∘λx=>i+x)=λm=>a[i+m]?:=rfl;rw[b]at this;rw[this]
theorem getItem_tuple_cut{t n:A1}{a:Array o0}{o u:o0}{lo e:Option Int}{Q:o0->z4->Prop}(f:ad1 s.heap t a)(p:s.heap.IsSliceOf n o u .none)(pl:ab6 o lo)(z:ab6 u e)
  (x:¬ (sIx a.size 0 lo=0/\sIx a.size a.size e=a.size))
  (h:Q (.ref s.heap.objs.size) { s with heap:=s.heap.push { cls:=.type "tuple",data:=.seq ((a.toList.drop (sIx a.size 0 lo)).take (sIx a.size a.size e-sIx a.size 0 lo)).toArray } })
  (hsz:a.size<=A0):B3 (D3 prog w) A (ab9 (.ref t) (.ref n)) Q E s:=by
 have b:sizeOk (.seq ((a.toList.drop (sIx a.size 0 lo)).take (sIx a.size a.size e-sIx a.size 0 lo)).toArray):=by
  show((a.toList.drop (sIx a.size 0 lo)).take (sIx a.size a.size e-sIx a.size 0 lo)).toArray.size<=A0;rw[A3,Q9,S7,Q4]
  lia
 have G:sIx a.size a.size e<=a.size:=uV _ _ (B8 _) e;obtain⟨os,l,j,B⟩:=id p;have i:s.TypeIs (.ref n) "slice":=⟨os,l,j⟩;unfold ab9
 try with_reducible refine K0 ?_
 first|refine u8 (z7 ?_)|skip
 refine u8 (wpAny_sequenceKey f.typeIs (by decide) ?_);refine u8 (wpAny_callSpecial?_slot (name:=z8 "__getitem__") f.typeIs E9
  (wpAny_call_entry E9 f.typeIs entry_tuple_getitem ?_ (args_tuple_getitem _ _)))
 show B3 _ _ (E4.Tuple.tupleItemsOf (.ref t) >>= _) _ _ s;refine u8 (tupleItemsOf_ f ?_);refine u8 (aa2 i ?_);rw[if_pos (by decide)];refine u8 (cU p pl z ?_);have g:¬ ((((sIx a.size 0 lo:Nat):Int)==0&&(1:Int)==1&&(sIx a.size a.size e-sIx a.size 0 lo)==a.size)=true):=by
  intro q;rw[B2,B2]at q;have C:((sIx a.size 0 lo:Nat):Int)=0:=eq_of_beq q.1.1;have H:sIx a.size a.size e-sIx a.size 0 lo=a.size:=eq_of_beq q.2;exact x ⟨by lia,by lia⟩
 show B3 _ _ (if(((sIx a.size 0 lo:Nat):Int)==0&&(1:Int)==1&&(sIx a.size a.size e-sIx a.size 0 lo)==a.size)=true then _ else _) _ _ s;rw[if_neg g,pU]
 first
  |exact u8 (m:=J0 _) (N8 (z7 ⟨_,rfl,z7 h⟩) b)
  |exact u8 (m:=J0 _) (N8 (u8 (z7 (z7 ⟨_,rfl,z7 h⟩))) b)
  |exact u8 (u8 (m:=J0 _) (N8 (z7 (z7 ⟨_,rfl,z7 h⟩)) b))
  |exact u8 (u8 (m:=J0 _) (N8 (z7 ⟨_,rfl,z7 h⟩) b))
end
end HT
namespace L2
open PySem PySem.Spec PyProof.Rows
abbrev TO:=St->Hp->(Option Int->Hp->Prop)->Prop
def PO(X:Cx)(e:Option C5)(t:TO):Prop :=
 ∀(b:List (A1×Obj)) (s:z4) (a:St) (H:Hp) (Q:Option Int->Hp->Prop),Inv X b a H s->t a H Q ->
  B3 (D3 X.prog X.w) X.A (evalPart e X.env) (λu g=>∃o f,Inv X b a f g/\ab6 u o/\Q o f) X.xe s
def qX:TO:=λ_ H Q=>Q none H
def xu(t:TE):TO:=λa H Q=>t a H λx b=>∃i,x=.int i/\Q (some i) b
section
variable{X:Cx}{e:C5}{te:TE}{g B:Option C5}{E G:TO}{pos J:Pos}
theorem r8:PO X none qX:=by
 intro a s b H Q I h;rw[evalPart_none];exact z7 ⟨none,H,I,.none,h⟩
theorem qG(h:PE X e te):PO X (some e) (xu te):=by
 intro l s n H Q I b;rw[evalPart_some];refine thn (h l s n H _ I b) λu o a=>a.el λx j g m f=>?_;obtain⟨i,rfl,q⟩:=f;obtain⟨t,rfl⟩:=m;exact⟨some i,j,g,.int i t,q⟩
def SlR(X:Cx)(r:V->Option Int->Option Int->Hp->VK->Prop):Prop :=
 ∀(a:List (A1×Obj)) (s:z4) (b:St) (H:Hp) (x:V) (v vl vu:o0) (g B:Option Int) (e:A1) (Q:VK),Inv X a b H s->aF x v->s.heap.IsSliceOf e vl vu .none->ab6 vl g->ab6 vu B->r x g B H Q ->
  ∃T id,typeLookup (.type T) "__getitem__"=W1 (some (.builtin id))/\s.TypeIs v T/\B3 (D3 X.prog X.w) X.A (ab9 v (.ref e)) (EP X a b Q) X.xe s
theorem SlR.or{r e:V->Option Int->Option Int->Hp->VK->Prop}(h:SlR X r)(h':SlR X e):SlR X (λx g B H Q=>r x g B H Q∨e x g B H Q):=by
 intro a s b H x v vl vu g B sl Q I rx hs pl pu q;rcases q with q|q
 ·exact h a s b H x v vl vu g B sl Q I rx hs pl pu q
 ·exact h' a s b H x v vl vu g B sl Q I rx hs pl pu q
def tSl(r:V->Option Int->Option Int->Hp->VK->Prop)(te:TE)(E G:TO):TE:=λa H Q=>te a H λx f=>E a f λl e=>G a e λu b=>r x l u b Q
theorem o7{r:V->Option Int->Option Int->Hp->VK->Prop}(hr:SlR X r)(he:PE X e te)(hl:PO X g E)(S:PO X B G):PE X (.Subscript e (.Slice g B none J) pos) (tSl r te E G):=by
 intro i s j H Q I h;refine Subscript_ (thn (he i s j H _ I h) λv C o=>o.el λx U w r1 t=>?_);refine wpAny_Slice (thn (hl i C j U _ w t) λn s2 ⟨l,Z,Y,O,q2⟩=>thn (S i s2 j Z _ Y q2) λm a ⟨u,p,A,z,L⟩=>?_);rw[evalPart_none];refine z7 ?_;have M:Inv X i j p { a with heap:=a.heap.push { cls:=.type "slice",data:=.fields #[n,m,.none] } }:=A.kept (t':=a.toks) λb ob q=>z6 _ q;obtain⟨T,id,R,P,N⟩:=hr i { a with heap:=a.heap.push { cls:=.type "slice",data:=.fields #[n,m,.none] } } j p x v n m l u a.heap.objs.size Q M r1 (C9.IsSliceOf.new ..) O z L;show B3 (D3 X.prog X.w) X.A (subscriptTail e (.Slice g B none J) v (.ref a.heap.objs.size)) (EP X i j Q) X.xe { a with heap:=a.heap.push { cls:=.type "slice",data:=.fields #[n,m,.none] } };exact tail_any (ops:=[.ref a.heap.objs.size,v]) P R N (by with_unfolding_all rfl)
def jU(a:List V)(g B:Option Int):List V:=(a.drop (HT.sIx a.length 0 g)).take (HT.sIx a.length a.length B-HT.sIx a.length 0 g)
theorem fU(a:List V)(g B:Option Int):(jU a g B).length<=a.length:=by
 unfold jU;rw[Q9,S7]
 lia
def xN(K:s0):V->Option Int->Option Int->Hp->VK->Prop:=λx g B H Q=>∃a b,x=.ref a/\SqT K H a b /\
 ¬ (HT.sIx b.length 0 g=0/\HT.sIx b.length b.length B=b.length)/\∀p,H p=none->Q (.ref p) (upd H p (.tup (jU b g B)))
theorem uL:SlR X (xN X.K):=by
 intro p s t H x v vl vu g B sl Q I rx hs pl pu h;obtain⟨a,e,rfl,n,m,q⟩:=h;cases rx;obtain⟨i,r,j,l⟩:=I.tuple n;have f:i.toArray.size=e.length:=by rw[A3];exact r.length.symm
 refine⟨"tuple",_,E9.lookup,j.typeIs,?_⟩;refine HT.getItem_tuple_cut j hs pl pu (by rw[f];exact m) ?_ (by rw[f];exact l);rw[f];refine⟨.ref s.heap.objs.size,_,I.laid (t':=s.toks) (o:=.tup (jU e g B)) (λb u q=>z6 _ q) (B8 _) ?_,rfl,q _ (I.hok.fresh (B8 _))⟩;exact⟨E7 (fU e g B) l,_,(r.drop (HT.sIx e.length 0 g)).take (HT.sIx e.length e.length B-HT.sIx e.length 0 g),ia.new _ _⟩
def v8(K:s0):R2:=λx y H Q=>∃a b f e,x=.ref a/\y=.ref b/\SqT K H a f/\SqT K H b e/\f≠[]/\f.length+e.length<=A0 /\
 (e=[]->Q (.ref a) H)/\(e≠[]->∀p,H p=none->Q (.ref p) (upd H p (.tup (f++e))))
theorem au.nil_iff{a:List V}{b:List o0}(r:au a b):b=[]↔a=[]:=by
 cases r with
 |nil=>simp
 |cons _ _=>simp
theorem rf:OpR X (M7 .Add) (v8 X.K):=by
 intro G s L H x y v u Q I rx ry h;obtain⟨a,b,C,t,rfl,rfl,A,p,B,i,j,n⟩:=h;cases rx;cases ry;obtain⟨m,f,l,_⟩:=I.tuple A;obtain⟨g,e,J,_⟩:=I.tuple p;refine HT.cat_tup l J (λz=>B (f.nil_iff.mp z)) (λz=>⟨.ref a,H,I,rfl,j (e.nil_iff.mp z)⟩) (λz=>?_) (by rw[<-f.length,<-e.length];exact i);refine⟨.ref s.heap.objs.size,_,I.laid (t':=s.toks) (o:=.tup (C++t)) (λb E q=>z6 _ q) (B8 _) ?_,rfl,n (λw=>z (e.nil_iff.mpr w)) _ (I.hok.fresh (B8 _))⟩;exact⟨by rw[C6];exact i,_,f.append e,ia.new _ _⟩
end
noncomputable def ixN(n:Nat)(i:Int):Option Nat:=if 0<=i then(if i<n then some i.toNat else none)else if -(n:Int)<=i then some (i+n).toNat else none
def atI{b:Type}(a:List b)(i:Int):Option b:=(ixN a.length i).bind λj=>a[j]?
theorem mM{n:Nat}{i:Int}{j:Nat}(h:ixN n i=some j):seqIndex? i n=some j/\j<n/\-(n:Int)<=i/\i<n:=by
 unfold ixN at h
 by_cases b:0<=i
 ·rw[if_pos b]at h
  by_cases a:i<n
  ·rw[if_pos a]at h;have e:i.toNat=j:=K4 h;exact⟨by rw[seqIndex_of b a,e],by lia,by lia,a⟩
  ·rw[if_neg a]at h;cases h
 ·rw[if_neg b]at h
  by_cases a:-(n:Int)<=i
  ·rw[if_pos a]at h;have e:(i+n).toNat=j:=K4 h;exact⟨by rw[seqIndex_neg (by lia) a,e],by lia,a,by lia⟩
  ·rw[if_neg a]at h;cases h
theorem jN{b:Type}{a:List b}{i:Int}{v:b}(h:atI a i=some v):∃j,seqIndex? i a.length=some j/\a[j]?=some v/\j<a.length/\-(a.length:Int)<=i/\i<a.length:=by
 unfold atI at h;cases e:ixN a.length i with
 |none=>rw[e]at h;cases h
 |some j =>
  rw[e]at h;obtain⟨f,m,l,g⟩:=mM e;exact⟨j,f,h,m,l,g⟩
theorem fo{b:Type}{a:List b}{j:Nat}{v:b}(h:a[j]?=some v):atI a (j:Int)=some v:=by
 have f:j<a.length:=(D8.mp h).1;have e:ixN a.length (j:Int)=some j:=by
  unfold ixN;rw[if_pos (by lia),if_pos (by lia)];simp
 unfold atI;rw[e];exact h
def mq(b:C5):Prop:=∀o i,subscripted b false o i=operate [o,i] (ab9 o i)
def IxR(X:Cx)(r:R2):Prop :=
 ∀(a slice:C5) (b:List (A1×Obj)) (s:z4) (e:St) (H:Hp) (x y:V) (v u:o0) (Q:VK),Inv X b e H s->aF x v->aF y u->r x y H Q ->
  subscripted slice false v u=operate [v,u] (ab9 v u)->B3 (D3 X.prog X.w) X.A (subscriptTail a slice v u) (EP X b e Q) X.xe s
def MtR(X:Cx)(id:String)(r:V->List V->Hp->VK->Prop):Prop :=
 ∀(a:List (A1×Obj)) (s:z4) (b:St) (H:Hp) (x:V) (e:List V) (v:o0) (f:List o0) (Q:VK),Inv X a b H s->aF x v->au e f->r x e H Q ->
  B3 (D3 X.prog X.w) X.A (call (.builtin id) (v::f)) (EP X a b Q) X.xe s
section
variable{X:Cx}{a b:C5}{J O:TE}{pos:Pos}
theorem xv{r:R2}(hr:IxR X r)(ha:PE X a J)(f:PE X b O)(i:mq b):PE X (.Subscript a b pos) (tOp r J O):=by
 intro e s l H Q I h;exact Subscript_ (rF ha f I h λv u n x y o j m g q=>hr a b e n l o x y v u Q j m g q (i _ _))
def xR(K:s0):R2:=λx y H Q=>∃p a i v,x=.ref p/\y=.int i/\SqL K H p a/\atI a i=some v/\Q v H
def yh(K:s0):R2:=λx y H Q=>∃p a i v,x=.ref p/\y=.int i/\SqT K H p a/\atI a i=some v/\Q v H
def yo:R2:=λx y H Q=>∃z i c,x=.str z/\y=.int i/\z.length<=A0/\atI z.cps.toList i=some c/\Q (.str ⟨#[c]⟩) H
theorem mR:IxR X (xR X.K):=by
 intro m slice o s B H x y v u Q I rx ry h hs;obtain⟨p,S,i,z,rfl,rfl,J,C,q⟩:=h;cases rx;obtain⟨t,rfl⟩:=ry;obtain⟨g,r,e,P⟩:=I.list J;obtain⟨j,b,M,O,L,G⟩:=jN C;obtain⟨w,A,f⟩:=r.get M;have N:=r.length;have R:=fO;have a:EP X o B Q w s:=⟨z,H,I,f,q⟩
 by_cases n:0<=i
 ·have l:i.toNat=j:=by
   rw[seqIndex_of n G]at b;exact K4 b
  exact item_listR e.isList n (by lia) (by rw[l];simpa using A) a hs
 ·have l:(i+(g.toArray.size:Int)).toNat=j:=by
   rw[seqIndex_neg (by lia) L]at b;rw[A3,<-N];exact K4 b
  exact subscriptTail_builtinR (x:=w) e.isList.typeIs slot_list_getitem.lookup
   (wpAny_getItem_list_neg (Q:=λr E=>r=w/\EP X o B Q r E) e.isList (by lia) (by rw[A3]<;>lia) (by lia) (by rw[l];simpa using A) ⟨rfl,a⟩) hs
theorem vF:IxR X (yh X.K):=by
 intro b slice g s l H x y v u Q I rx ry h hs;obtain⟨p,P,i,z,rfl,rfl,B,n,q⟩:=h;cases rx;obtain⟨t,rfl⟩:=ry;obtain⟨o,r,f,N⟩:=I.tuple B;obtain⟨j,m,E,J,M,L⟩:=jN n;obtain⟨w,C,a⟩:=r.get E;have G:=r.length;have O:=fO;have e:EP X g l Q w s:=⟨z,H,I,a,q⟩;exact subscriptTail_builtinR (x:=w) f.typeIs slot_tuple_getitem.lookup
  (getItem_tuple (j:=j) (Q:=λr A=>r=w/\EP X g l Q r A) f (by lia) (by lia) (by rw[A3,<-G];exact m) (by simpa using C) ⟨rfl,e⟩) hs
theorem ic:IxR X yo:=by
 intro a slice w s C H x y v u Q I rx ry h hs;obtain⟨z,i,c,rfl,rfl,B,e,q⟩:=h;obtain⟨t,rfl⟩:=rx;obtain⟨A,rfl⟩:=ry;obtain⟨j,b,n,p,l,f⟩:=jN e;have o:z.cps.toList.length=z.length:=by simp[aa3]
 rw[o]at b l f;have E:=fO;exact tail_any (T7 s z t) slot_str_getitem.lookup (getItem_str (c:=c) (by
  have g:decide (i < -(2 ^ 63:Int))=false:=decide_eq_false (by lia);have m:decide (i>=2 ^ 63)=false:=decide_eq_false (by lia);rw[g,m,Bool.or_false]) (by rw[b];simpa using n) ⟨.str ⟨#[c]⟩,H,I.tok _,⟨_,rfl⟩,q⟩) hs
theorem lT(a:List o0)(n j:Nat)(u:o0):aa4 (·.setIfInBounds j u) { cls:=.type "list",data:=.seq a.toArray n }={ cls:=.type "list",data:=.seq (a.set j u).toArray n }:=by
 simp[aa4]
theorem Inv.lst{f:List (A1×Obj)}{σ:St}{H:Hp}{s:z4}{p:A1}{b:List V}(I:Inv X f σ H s)(h:H p=some (.lst b)):
  ∃(a:List o0) (n:Nat),au b a/\s.heap.get? p=some { cls:=.type "list",data:=.seq a.toArray n }/\b.length<=A0:=by
 obtain⟨z,a,n,r,e⟩:=I.hok p _ h;exact⟨a,n,r,e,z⟩
theorem Inv.lstUpd{i:List (A1×Obj)}{σ:St}{H:Hp}{s:z4}{p:A1}{o ys:List V}{a its':List o0}{n g:Nat}{f:Obj->Obj}(I:Inv X i σ H s)(h:H p=some (.lst o))
  (w:s.heap.get? p=some { cls:=.type "list",data:=.seq a.toArray n }) (j:f { cls:=.type "list",data:=.seq a.toArray n }={ cls:=.type "list",data:=.seq its'.toArray g }) (r:au ys its') (m:ys.length<=A0) (t:Nat) :
  Inv X i σ (upd H p (.lst ys)) { s with heap:=s.heap.update p f,toks:=t }:=by
 have e:(s.heap.update p f).get? p=some { cls:=.type "list",data:=.seq its'.toArray g }:=by
  rw[J5 f w (by rw[j]<;>rfl),j]
 refine I.write (x:=p) (e:=p) (by rw[h];trivial) (.inl rfl) (λb u l q=>(B9 _ _ (N6 l)).trans q) ⟨_,e⟩ ?_;exact⟨m,its',g,r,e⟩
def wI:V->V->V->Hp->(Hp->Prop)->Prop:=λo i v H Q=>∃p a k j,o=.ref p/\i=.int k/\H p=some (.lst a)/\ixN a.length k=some j/\Q (upd H p (.lst (a.set j v)))
theorem o9:we X wI:=by
 intro E s J H o i v ov iv u Q I ro ri rv h;obtain⟨p,C,k,j,rfl,rfl,A,B,q⟩:=h;cases ro;obtain⟨t,rfl⟩:=ri;obtain⟨a,n,r,f,G⟩:=I.lst A;obtain⟨b,M,m,z⟩:=mM B;have g:=r.length;have L:=fO;have l:Inv X E J (upd H p (.lst (C.set j v))) { s with heap:=s.heap.update p (aa4 (·.setIfInBounds j u)) } :=
  I.lstUpd A f (lT a n j u) (r.set rv j) (by rw[List.length_set];exact G) s.toks
 by_cases w:0<=k
 ·have e:k.toNat=j:=by
   rw[seqIndex_of w z]at b;exact K4 b
  exact PySem.W.ki_setAt f w (by lia) (by rw[A3,<-g];exact z) (by rw[e];exact⟨_,l,q⟩)
 ·have e:(k+(a.toArray.size:Int)).toNat=j:=by
   rw[seqIndex_neg (by lia) m]at b;rw[A3,<-g];exact K4 b
  exact PySem.W.ki_setBack f (by lia) (by rw[A3,<-g];exact m) (by lia) (by rw[e];exact⟨_,l,q⟩)
theorem jM(lo a:Option Int)(n:Nat):(U9 lo a none n).1=((HT.sIx n 0 lo:Nat):Int)/\(U9 lo a none n).2.1=((HT.sIx n n a:Nat):Int)/\(U9 lo a none n).2.2=1:=by
 refine⟨?_,?_,rfl⟩
 ·cases lo with
  |none=>simp[U9,HT.sIx]
  |some i =>
   simp only[U9,HT.sIx,Option.getD_none,show(1:Int) > 0 by decide,if_true]
   by_cases h:i<0
   ·simp only[h,if_true]<;>lia
   ·simp only[h,if_false]<;>lia
 ·cases a with
  |none=>simp[U9,HT.sIx]
  |some i =>
   simp only[U9,HT.sIx,Option.getD_none,show(1:Int) > 0 by decide,if_true]
   by_cases h:i<0
   ·simp only[h,if_true]<;>lia
   ·simp only[h,if_false]<;>lia
theorem iw(a:List o0)(lo b:Option Int):slicePick a.toArray lo b none=((a.drop (HT.sIx a.length 0 lo)).take (HT.sIx a.length a.length b-HT.sIx a.length 0 lo)).toArray:=by
 obtain⟨e,g,f⟩:=jM lo b a.toArray.size;unfold slicePick;rw[e,g,f];simp only[sliceRange_one,pick_run,A3]<;>rfl
def yr(K:s0):V->Option Int->Option Int->Hp->VK->Prop:=λx lo e H Q=>∃a b,x=.ref a/\SqL K H a b/\∀p,H p=none->Q (.ref p) (upd H p (.lst (jU b lo e)))
theorem qA:SlR X (yr X.K):=by
 intro m s n H x v vl vu lo hi sl Q I rx hs pl pu h;obtain⟨a,e,rfl,l,q⟩:=h;cases rx;obtain⟨i,r,f,j⟩:=I.list l;have g:=r.length;refine⟨"list",_,slot_list_getitem.lookup,f.isList.typeIs,?_⟩;refine wpAny_getItem_list_slice f.isList hs pl pu .none (by simp) ?_ (by rw[A3]<;>lia);rw[iw,<-g];refine⟨.ref s.heap.objs.size,_,I.laid (t':=s.toks) (o:=.lst (jU e lo hi)) (λb p q=>z6 _ q) (B8 _) ?_,rfl,q _ (I.hok.fresh (B8 _))⟩;exact⟨E7 (fU e lo hi) j,_,0,(r.drop (HT.sIx e.length 0 lo)).take (HT.sIx e.length e.length hi-HT.sIx e.length 0 lo),C8 _ rfl⟩
def dG:V->Bool
 |.non=>true
 |.bl _=>true
 |.int _=>true
 |.str _=>true
 |_=>false
noncomputable def eqV:V->V->Bool
 |.non,.non=>true
 |.bl a,.bl b=>a==b
 |.bl a,.int b=>(if a then 1 else 0)==b
 |.int a,.bl b=>a==(if b then 1 else 0)
 |.int a,.int b=>a==b
 |.str a,.str b=>a==b
 |_,_=>false
theorem ub{A:D4}{s:z4}{y x:V}{u v:o0}(g:aF y u)(e:aF x v)(i:dG y=true)(h:dG x=true):J9 A s u v (eqV y x):=by
 cases y with
 |non =>
  cases g;cases x with
  |non=>cases e;exact J9.same _
  |bl b=>cases e;exact J9.none_bool b
  |int b=>obtain⟨t,rfl⟩:=e;exact J9.none_int b t
  |str b=>obtain⟨t,rfl⟩:=e;exact J9.none_str b t
  |_=>exact absurd (show false=true from h) L7
 |bl a =>
  cases g;cases x with
  |non=>cases e;exact J9.bool_none a
  |bl b=>cases e;exact J9.bool_bool a b
  |int b=>obtain⟨t,rfl⟩:=e;exact J9.bool_int a b t
  |str b=>obtain⟨t,rfl⟩:=e;exact J9.bool_str a b t
  |_=>exact absurd (show false=true from h) L7
 |int a =>
  obtain⟨f,rfl⟩:=g;cases x with
  |non=>cases e;exact J9.int_none a f
  |bl b=>cases e;exact J9.int_bool a f b
  |int b=>obtain⟨t,rfl⟩:=e;exact J9.int_int a f b t
  |str b=>obtain⟨t,rfl⟩:=e;exact J9.int_str a f b t
  |_=>exact absurd (show false=true from h) L7
 |str a =>
  obtain⟨f,rfl⟩:=g;cases x with
  |non=>cases e;exact J9.str_none a f
  |bl b=>cases e;exact J9.str_bool a f b
  |int b=>obtain⟨t,rfl⟩:=e;exact J9.str_int a f b t
  |str b=>obtain⟨t,rfl⟩:=e;exact J9.str_str a f b t
  |_=>exact absurd (show false=true from h) L7
 |_=>exact absurd (show false=true from i) L7
def eqU(x:V)(u:o0):Bool:=match u with
 |.none=>eqV .non x
 |.bool b=>eqV (.bl b) x
 |.int i _=>eqV (.int i) x
 |.str z _=>eqV (.str z) x
 |_=>false
theorem pZ{x y:V}{u:o0}(r:aF y u)(f:dG y=true):eqU x u=eqV y x:=by
 cases y with
 |non=>cases r;rfl
 |bl b=>cases r;rfl
 |int i=>obtain⟨t,rfl⟩:=r;rfl
 |str z=>obtain⟨t,rfl⟩:=r;rfl
 |_=>exact absurd (show false=true from f) L7
theorem eZ{x:V}:∀{a:List V}{b:List o0},au a b->a.all dG=true->b.any (eqU x)=a.any λy=>eqV y x
 |_,_,.nil,_=>rfl
 |y::a,u::b,.cons r t,f=>by
  rw[P1,B2]at f;rw[P2,P2,pZ r f.1,eZ t f.2]
theorem dm{A:D4}{s:z4}{x:V}{v:o0}(h:aF x v)(g:dG x=true):∀{b:List V}{e:List o0},au b e->b.all dG=true->∀u∈e,J9 A s u v (eqU x u)
 |_,_,.nil,_=>λu a=>by cases a
 |y::b,u::e,.cons r t,f=>λi a=>by
  rw[P1,B2]at f;rcases A5.mp a with rfl|a
  ·rw[pZ r f.1];exact ub r h f.1 g
  ·exact dm h g t f.2 i a
def inV(x:V)(a:List V):Bool:=a.any λy=>eqV y x
def rIn(K:s0)(b:Bool):R2:=λx y H Q=>∃p a,y=.ref p/\(SqL K H p a∨SqT K H p a)/\dG x=true/\a.all dG=true/\Q (.bl (if b then !inV x a else inV x a)) H
theorem ny:OpR X (E3 .In) (rIn X.K false):=by
 intro j s l H x y v u Q I rx ry h;obtain⟨p,m,rfl,b,g,fs,q⟩:=h;cases ry;rcases b with b|b
 ·obtain⟨a,r,f,i⟩:=I.list b;refine SeqAt.in_listAt (eqU x) f.isList (λw e=>dm rx g r fs w (by simpa using e)) ⟨.bl _,H,I,rfl,?_⟩;rw[show a.toArray.any (eqU x)=a.any (eqU x)by simp,eZ r fs];exact q
 ·obtain⟨a,r,f,i⟩:=I.tuple b;refine SeqAt.in_tupleAt (eqU x) f (λw e=>dm rx g r fs w (by simpa using e)) ⟨.bl _,H,I,rfl,?_⟩;rw[show a.toArray.any (eqU x)=a.any (eqU x)by simp,eZ r fs];exact q
theorem jx:OpR X (E3 .NotIn) (rIn X.K true):=by
 intro j s l H x y v u Q I rx ry h;obtain⟨p,m,rfl,b,g,fs,q⟩:=h;cases ry;rcases b with b|b
 ·obtain⟨a,r,f,i⟩:=I.list b;refine SeqAt.notIn_listAt (eqU x) f.isList (λw e=>dm rx g r fs w (by simpa using e)) ⟨.bl _,H,I,rfl,?_⟩;rw[show a.toArray.any (eqU x)=a.any (eqU x)by simp,eZ r fs];exact q
 ·obtain⟨a,r,f,i⟩:=I.tuple b;refine SeqAt.notIn_tupleAt (eqU x) f (λw e=>dm rx g r fs w (by simpa using e)) ⟨.bl _,H,I,rfl,?_⟩;rw[show a.toArray.any (eqU x)=a.any (eqU x)by simp,eZ r fs];exact q
theorem jo:cc X (.builtin "len") (λi H Q=>∃p ys,i=[.ref p]/\(SqL X.K H p ys∨SqT X.K H p ys)/\Q (.int ys.length) H):=by
 intro n s o H i m Q I r h;obtain⟨p,ys,rfl,a,q⟩:=h;obtain⟨u,rfl,j⟩:=mi r;cases j;have t:=fO;rcases a with a|a
 ·obtain⟨e,f,g,l⟩:=I.list a;have b:=f.length;exact Calls.call_len_list g.isList (by simp only[A3]<;>lia) ⟨.int ys.length,H,I.tok _,⟨s.toks+1,by rw[A3,b]⟩,q⟩
 ·obtain⟨e,f,g,l⟩:=I.tuple a;have b:=f.length;exact len_tuple g (by simp only[A3]<;>lia) ⟨.int ys.length,H,I.tok _,⟨s.toks+1,by rw[A3,b]⟩,q⟩
theorem jz:cc X (.builtin "len") (λa H Q=>∃z,a=[.str z]/\z.length<=A0/\Q (.int z.length) H):=by
 intro b s e H a i Q I r h;obtain⟨z,rfl,f,q⟩:=h;obtain⟨u,rfl,t,rfl⟩:=mi r;have g:=fO;exact len_str (by lia) ⟨.int z.length,H,I.tok _,⟨_,rfl⟩,q⟩
theorem cc.or{f:o0}{r g:List V->Hp->VK->Prop}(h:cc X f r)(h':cc X f g):cc X f (λa H Q=>r a H Q∨g a H Q):=by
 intro b s e H a i Q I rs q;rcases q with q|q
 ·exact h b s e H a i Q I rs q
 ·exact h' b s e H a i Q I rs q
theorem iA:cc X (.type "tuple") (λz H Q=>∃p ys,z=[.ref p]/\((SqL X.K H p ys/\∀l,H l=none->Q (.ref l) (upd H l (.tup ys)))∨(SqT X.K H p ys/\Q (.ref p) H))):=by
 intro t s x H z E Q I r h;obtain⟨p,ys,rfl,h⟩:=h;obtain⟨u,rfl,B⟩:=mi r;cases B;rcases h with⟨j,q⟩|⟨j,q⟩
 ·obtain⟨a,i,m,w⟩:=I.list j;have C:=i.length;refine call_tuple_list m.isList (λg kp=>?_) (by simp only[A3]<;>lia);have n:Inv X t x H { s with heap:=g }:=I.kept (t':=s.toks) kp;have A:Inv X t x (upd H g.objs.size (.tup ys)) { s with heap:=g.push { cls:=.type "tuple",data:=.seq a.toArray } } :=
   n.laid (t':=s.toks) (λb o e=>z6 _ e) (B8 _) (show bK X.prog X.w _ _ _ (.tup ys)from⟨w,a,i,ia.new _ _⟩)
  exact⟨.ref g.objs.size,_,A,rfl,q _ (n.hok.fresh (B8 _))⟩
 ·obtain⟨a,i,m,w⟩:=I.tuple j;exact call_tuple_same m ⟨.ref p,H,I,rfl,q⟩
def tyV(K:s0)(T:String)(x:V)(H:Hp):Prop:=match x with
 |.str _=>T="str"
 |.int _=>T="int"
 | .ref p => (T = "list" ∧ ∃ b,SqL K H p b) ∨ (T = "tuple" ∧ ∃ o,K.lookup p = some o ∧ o.cls = .type "tuple" ∧ o.dict = none) ∨
   (T="dict"/\((∃a,H p=some (.dK a))∨∃a,H p=some (.dT a)))∨(T="set"/\∃S n,H p=some (.set S n))
 |_=>False
theorem qv{w:List (A1×Obj)}{σ:St}{H:Hp}{s:z4}{T:String}{x:V}{v:o0}(I:Inv X w σ H s)(r:aF x v)(ty:tyV X.K T x H):
  s.TypeIs v T/\∀a,v=.ref a->∃l,s.heap.get? a=some l/\l.dict=none:=by
 cases x with
 |str z =>
  obtain⟨t,rfl⟩:=r;cases(show T="str" from ty);exact⟨T7 s z t,λ_ e=>nomatch e⟩
 |int i =>
  obtain⟨t,rfl⟩:=r;cases(show T="int" from ty);exact⟨aa5 s i t,λ_ e=>nomatch e⟩
 |ref p =>
  cases r;rcases ty with⟨rfl,B,A⟩|⟨rfl,o,b,q,g⟩|⟨rfl,b⟩|⟨rfl,S,n,b⟩
  ·obtain⟨u,_,m,_⟩:=I.list A;refine⟨m.isList.typeIs,λa e=>?_⟩;cases e;obtain⟨o,n,e,c,g,_⟩:=m;exact⟨o,e,g⟩
  ·refine⟨⟨o,I.kIn p o b,q⟩,λa e=>?_⟩;cases e;exact⟨o,I.kIn _ o b,g⟩
  ·have z:∃o,s.heap.get? p=some o/\o.ExactDict:=by
    rcases b with⟨h,b⟩|⟨h,b⟩
    ·obtain⟨_,_,_,_,o,_,_,e,f,_⟩:=I.hok p _ b;exact⟨o,e,f⟩
    ·obtain⟨_,_,_,_,o,_,_,e,f,_⟩:=I.hok p _ b;exact⟨o,e,f⟩
   obtain⟨o,e,f⟩:=z;refine⟨⟨o,e,f.1⟩,λa j=>?_⟩;cases j;exact⟨o,e,f.2.1⟩
  ·obtain⟨o,_,_,_,e,f,_⟩:=I.hok p _ b;refine⟨⟨o,e,f.1⟩,λa j=>?_⟩;cases j;exact⟨o,e,f.2.1⟩
 |_=>exact I0 ty
def yp(K:s0)(T:String)(r:V->List V->Hp->VK->Prop)(E:TE):TE:=λb H Q=>E b H λx a=>tyV K T x a/\r x [] a Q
def tBM(K:s0)(T:String)(r:V->List V->Hp->VK->Prop)(E:TE)(t:TA):TE:=λb H Q=>E b H λx a=>tyV K T x a/\t b a λe f=>r x e f Q
variable{o e:C5}{B:List C5}{E:TE}{t:TA}{name:Str}{G g:Pos}{T id:String}{r:V->List V->Hp->VK->Prop}
theorem ug(t:PlainAttrs T)(slot:Slot T name id)(a:typeOf (.builtin id)=W1 (.type "method_descriptor"))(q:MtR X id r)(w:PE X o E)
  (j:F9 o name X.env (M6 o X.env)=M6 o X.env:=by rfl) (n:(G.endLine==g.line)=true:=by rfl):PE X (.Call (.Attribute o name G) [] [] g) (yp X.K T r E):=by
 intro b s i H Q I h;refine wpAny_Call_method0_late j n (thn (w b s i H _ I h) λv u ⟨x,p,f,e,ty,l⟩=>?_);obtain⟨m,z⟩:=qv f e ty;exact⟨T,id,t,slot,a,m,z,R3 rfl (PySem.evalArgs_none (q b u i p x [] v [] Q f e .nil l))⟩
theorem mf(w:PlainAttrs T)(slot:Slot T name id)(i:typeOf (.builtin id)=W1 (.type "method_descriptor"))(S:MtR X id r)(Z:PE X o E)(ha:PA X (e::B) t)
  (L:F9 o name X.env (M6 o X.env)=M6 o X.env:=by rfl)
  (J:((K6 g (z9 (e :: B) X.env)).all (λx => !x.1) && (U3 g (O2 [] X.env)).all (λx => x.1.isSome)
  &&decide ((e::B).length+([]:List P4).length+(if([]:List P4).isEmpty then 0 else 1)<30))=true:=by rfl)
  (P:(G.endLine==g.line)=true:=by rfl) (O:z9 (e::B) X.env=(false,M6 e X.env)::z9 B X.env:=by rfl) (U:(K6 g (z9 B X.env)).any (·.1)=false:=by rfl) :
  PE X (.Call (.Attribute o name G) (e::B) [] g) (tBM X.K T r E t):=by
 intro a s f H Q I h;refine wpAny_Call_method_late L J P rfl (thn (Z a s f H _ I h) λv z ⟨x,q,j,m,ty,n⟩=>?_);obtain⟨p,h2⟩:=qv j m ty;refine⟨T,id,w,slot,i,p,h2,?_⟩;have l:=ha g a z f q _ j n;rw[O]at l ⊢;refine R3 (by show(false || (K6 g (z9 B X.env)).any (·.1))=false;rw[U]<;>rfl) (Calls.evalArgs_plain ?_);exact thn l λC R b=>b.el λN A u Y M=>S a R f A x N v C Q u m Y M
end
def MtM(X:Cx)(id:String)(r:V->List V->Hp->VK->Prop):Prop :=
 ∀(a:List (A1×Obj)) (s:z4) (b:St) (H:Hp) (x:V) (e:List V) (v:o0) (f:List o0) (Q:VK),Inv X a b H s->aF x v->au e f->r x e H Q ->
  B3 (D3 X.prog X.w) X.A (call (.builtin id) (v::f)) (EP X a b Q) X.xe s
theorem au.un{x:V}{b:List V}{e:List o0}(h:au (x::b) e):∃u a,e=u::a/\aF x u/\au b a:=by
 cases h with
 |cons r t=>exact⟨_,_,rfl,r,t⟩
theorem au.one{x:V}{a:List o0}(h:au [x] a):∃u,a=[u]/\aF x u:=by
 obtain⟨u,b,rfl,r,t⟩:=h.un;cases t;exact⟨u,rfl,r⟩
theorem au.two{x y:V}{a:List o0}(h:au [x,y] a):∃u v,a=[u,v]/\aF x u/\aF y v:=by
 obtain⟨u,b,rfl,r,t⟩:=h.un;obtain⟨v,rfl,q⟩:=t.one;exact⟨u,v,rfl,r,q⟩
theorem au.dropLast{a:List V}{b:List o0}(h:au a b):au a.dropLast b.dropLast:=by
 induction h with
 |nil=>exact .nil
 |cons r t ih =>
  cases t with
  |nil=>exact .nil
  |cons q e=>exact .cons r ih
theorem au.rep{a:List V}{b:List o0}(h:au a b):∀k:Nat,au (z5 k a).flatten (z5 k b).flatten
 |0=>.nil
 |k+1=>by
  rw[E6,E6,N9,N9];exact au.append h (au.rep h k)
theorem fP(a:List o0):∀(k:Nat) (b:List o0),
  ac0 (λg h=>g++h) b.toArray (z5 k a.toArray)=(b++(z5 k a).flatten).toArray
 |0,b=>by simp
 |k+1,b=>by
  have e:b.toArray++a.toArray=(b++a).toArray:=by simp
  have f:(b++a)++(z5 k a).flatten=b++(z5 (k+1) a).flatten:=by
   rw[E6,N9,O0]
  rw[<-f,<-fP a k (b++a),<-e,E6,List.foldl_cons]
section
variable{X:Cx}{g:List (A1×Obj)}{σ:St}{H:Hp}{s:z4}{l b:A1}{t ys B:List V}
theorem Inv.lset{a its':List o0}{n:Nat}{f:Array o0->Array o0}{t':Nat}(I:Inv X g σ H s)(h:H l=some (.lst t))
  (e:s.heap.get? l=some { cls:=.type "list",data:=.seq a.toArray n }) (i:f a.toArray=its'.toArray) (j:au ys its') (m:ys.length<=A0) :
  Inv X g σ (upd H l (.lst ys)) { s with heap:=s.heap.update l (aa4 f),toks:=t' }:=by
 have q:=PySem.IsL.update e f;rw[i]at q;refine I.write (x:=l) (e:=l) (by rw[h];exact trivial) (.inl rfl) (λp u b o=>(B9 s.heap (aa4 f) (N6 b)).trans o) ⟨_,q⟩ ?_;exact⟨m,its',_,j,q⟩
theorem Inv.lnew{a:List o0}{t':Nat}(I:Inv X g σ H s)(b:au ys a)(e:ys.length<=A0):
  Inv X g σ (upd H s.heap.objs.size (.lst ys)) { s with heap:=s.heap.push { cls:=.type "list",data:=.seq a.toArray },toks:=t' } :=
 I.laid (λ_ _ q=>z6 _ q) (B8 _) ⟨e,a,0,b,C8 _ rfl⟩
theorem Inv.fresh(I:Inv X g σ H s):H s.heap.objs.size=none:=I.hok.fresh (B8 _)
theorem Inv.lstM(I:Inv X g σ H s)(b:H l=some (.lst t)):t.length<=A0/\∃(a:List o0) (n:Nat),au t a/\t.length=a.length/\s.heap.get? l=some { cls:=.type "list",data:=.seq a.toArray n }:=by
 obtain⟨z,a,n,r,e⟩:=I.hok l _ b;exact⟨z,a,n,r,r.length,e⟩
theorem pf{n:Nat}(h:n<=A0):E4.List.listTooLong n=false:=by
 unfold E4.List.listTooLong;exact decide_eq_false (by lia)
end
section
variable{X:Cx}
def mj:V->List V->Hp->VK->Prop:=λx b H Q=>∃l a y,x=.ref l/\b=[y]/\H l=some (.lst a)/\a.length<A0/\Q .non (upd H l (.lst (a++[y])))
theorem nq:MtM X "list.append" mj:=by
 intro g s m H x i v us Q I rx rv h;obtain⟨l,o,y,rfl,rfl,b,j,q⟩:=h;cases rx;obtain⟨u,rfl,f⟩:=rv.one;obtain⟨z,a,n,r,p,e⟩:=I.lstM b;refine V0 F.slot_list_append ⟨_,e,rfl⟩ F.entry_list_append (F.args_list_append_2 _ _) (PySem.list_append l a.toArray n u (by rw[A3];lia)) ⟨e,?_⟩;refine⟨.non,_,I.lset (its':=a++[u]) b e (by simp) (r.append (.cons f .nil)) ?_,rfl,q⟩;rw[C6,List.length_singleton]
 lia
def yi:R2:=λx y H Q=>∃l b e a,x=.ref l/\y=.ref b/\H l=some (.lst e)/\H b=some (.lst a)/\e.length+a.length<=A0/\∀p,H p=none->Q (.ref p) (upd H p (.lst (e++a)))
theorem n9:OpR X (M7 .Add) yi:=by
 intro A s C H x y v u Q I rx ry h;obtain⟨l,b,G,E,rfl,rfl,g,j,B,q⟩:=h;cases rx;cases ry;obtain⟨z,f,n,r,J,e⟩:=I.lstM g;obtain⟨w,a,t,o,i,p⟩:=I.lstM j;refine PySem.P.add_list e p ?_ (by rw[A3,A3];lia);have m:f.toArray++a.toArray=(f++a).toArray:=by simp
 rw[m];exact⟨.ref _,_,I.lnew (t':=s.toks) (r.append o) (by rw[C6];lia),rfl,q _ I.fresh⟩
def xY:R2:=λx y H Q=>∃l k a,x=.ref l/\y=.int k/\H l=some (.lst a)/\-(2 ^ 63)<=k/\k<2 ^ 63/\a.length*k.toNat<=A0 /\
 ∀p,H p=none->Q (.ref p) (upd H p (.lst (z5 k.toNat a).flatten))
theorem js{b:Type}(a:List b)(k:Nat):(z5 k a).flatten.length=k*a.length:=by
 induction k with
 |zero=>simp
 |succ k ih=>rw[E6,N9,C6,ih,Nat.succ_mul,Nat.add_comm]
theorem tQ:OpR X (M7 .Mult) xY:=by
 intro N s O H x y v u Q I rx ry h;obtain⟨l,k,P,rfl,rfl,C,B,J,w,q⟩:=h;cases rx;obtain⟨t,rfl⟩:=ry;obtain⟨z,b,n,r,L,e⟩:=I.lstM C;have A:b.toArray.size*k.toNat<=A0:=by rw[A3,<-L];exact w
 have j:¬ b.toArray.size*k.toNat > (2 ^ 63-1) / 8:=by
  have:(A0:Nat)<=(2 ^ 63-1) / 8:=by decide
  lia
 have g:¬ (!Builtin.List.listFitsIndex k)=true:=by
  rw[fitsIndex_both B J];exact L7
 have f:¬ E4.List.listTooLong (b.toArray.size*k.toNat)=true:=by
  rw[pf A];exact L7
 have i:ac0 (λp o=>p++o) #[] (z5 (if b.toArray.isEmpty=true then 0 else k.toNat) b.toArray)=(z5 k.toNat b).flatten.toArray:=by
  have E:∀m:Nat,ac0 (λp o=>p++o) #[] (z5 m b.toArray)=(z5 m b).flatten.toArray:=λm=>by
   have:=fP b m [];rw[E1]at this;exact this
  rw[E];cases b with
  |nil=>simp
  |cons a M=>rw[if_neg (by simp)]
 refine wpAny_binaryOp_repeat_ref (T:="list") (U:="int") (by decide) ⟨_,e,rfl⟩ (λG=>aa5 G k t) noFill_list_mul F.fills_int_mul X0 repeat_list F.slot_int_index.lookup
  (V0 X0 (aa5 s k t) F.entry_int_rmul (F.args_int_rmul_2 _ _) (int___rmul___int_list k t l b.toArray n)
   ⟨e,rfl,⟨_,e,rfl⟩,V0 F.slot_list_mul ⟨_,e,rfl⟩ F.entry_list_mul (F.args_list_mul_2 _ _) (AutoListH.list___mul___list_int_3 l b.toArray n k t g j f) ⟨e,?_⟩⟩)
 rw[i];exact⟨.ref _,_,I.lnew (t':=s.toks) (r.rep k.toNat) (by rw[js,Nat.mul_comm];exact w),rfl,q _ I.fresh⟩
end
end L2
namespace Att
open PySem PySem.W PySem.Calls PyProof.Rows
theorem gp{P:Params}{h:C9}:∀(ns:List Int) (e:List o0),WellAll P h e (ns.map WData.int)->IntsAre e ns:=by
 intro ns
 induction ns with
 |nil =>
  intro e w;rw[List.map_nil]at w;cases w;exact .nil
 |cons n ns ih =>
  intro e w;rw[B5]at w;cases w with
  |cons a b =>
   cases a;exact .cons _ _ (ih _ b)
theorem nU{l:OpenLaw}{n:Nat}(A:l.most=some n){P:Params}{h:C9}{args:List WData}{b:List o0}
  (e:l.row.toRowW.claim.pre args=true) (j:WellAll P h b args) :
  ∃a p ns,b=[A9 a]/\args=[WData.list (ns.map WData.int)]/\h.get? a=some { cls:=.type "list",data:=.seq p.toArray }/\IntsAre p ns/\ns.length<=n:=by
 have m:WShape.hasAll [] args [.list .int]=true:=(pre_splitW e).1;have o:l.pre.holds [] { args:=args }=true:=(pre_splitW e).2;obtain⟨d,r,rfl,t,C⟩:=hasAllW_cons m;obtain rfl:=hasAllW_nil C;obtain⟨E,rfl,u⟩:=hasW_list t;obtain⟨ns,rfl⟩:=items_int u;have s:ns.length<=n:=by
  unfold OpenLaw.pre at o;have i:(WTm.not (.lt (.lit (.int (n:Int))) (.len (.arg 0)))).holds [] { args:=[.list (ns.map .int)] }=true:=by
   have i:=(holds_andW o).1;rw[A]at i;exact i
  have g:=condW_of i (w_not (w_lt w_lit (w_len_list (w_arg rfl))));rw[J4]at g;refine Nat.le_of_not_lt λq=>?_;have z:(n:Int)<((ns.length:Nat):Int):=by lia
  first
   |(rw[decide_eq_true z]at g;exact absurd g (by decide))
   |(simp at g;lia)
 cases j with
 |cons B x =>
  cases x;cases B with
  |list w f=>exact⟨_,_,ns,rfl,rfl,w,gp ns _ f,s⟩
theorem nk(l:OpenLaw)(args:List WData):l.row.toRowW.claim.post args (.bool true) args=true :=
 postW_of (r:=l.row.toRowW) (X:=(true==true))
  (show WShape.has [] (.bool true) .bool=true by first|rfl|decide|simp[WShape.has,WShape.arms,WShape.armsAll])
  (show(WTm.eq .res (.lit (.bool true))).value [] { args:=args,res:=some (.bool true),after:=args }=some (.bool (true==true))from w_eq_bool (w_res rfl) w_lit) rfl
theorem attach_call{l:OpenLaw}{n:Nat}{q:C1}{g:List Str}{H:(Str->Option o0)->C9->Prop}{L:F8->C9->Prop}{d:DefRec}
  (hn:l.most=some n) (A:d.params.defaults=[])
  (call:∀ (w:F8) (e b:z4) (t C:Str → Option o0) (m:A1) (o:Obj) (z cd i:o0) (a:A1) (j:List o0) (ns:List Int),
   Ground q g [] H w e t C b.heap->L w b.heap ->
   b.heap.get? m=some o->o.data=.func (docDef d.name d.params d.body d.scope z cd i)->b.heap.CodeRec cd d.name->t d.name=some (.ref m) ->
   b.heap.get? a=some { cls:=.type "list",data:=.seq j.toArray }->IntsAre j ns->ns.length<=n->b.gens=#[] ->
   aa1 (D3 l.prog w) ab0 (.call (.ref m) ⟨[.ref a],[]⟩) (λr s'=>r=.ok (.ret (.bool true))/\OldK b.heap s'.heap/\s'.os=b.os/\V9 s'.gens) b) :
  WalkO q g H L l.row.toRowW d [] (λf j=>PySem.call f j):=by
 intro w e b t C G Y m o z cd i Q kV U O x I B T M J as p E a0 u Z;obtain rfl:Q=.none:=Dflts.none I A;obtain rfl:kV=.none:=Dflts.noKw I;obtain⟨a,j,ns,rfl,rfl,s,h,N⟩:=nU hn p u;refine enter_call (Y6 (call w e b t C m o z cd i a j ns G Y U (fd_plain O) x B s h N T) λr s' hq=>?_);obtain⟨rfl,X,P,R⟩:=hq;exact⟨.inl ⟨.bool true,.bool true,[],rfl,λ_=>rfl,.bool true,nk l _,λ_=>⟨List.Pairwise.nil,λ_ S=>(nomatch S)⟩⟩,X,P,R⟩
section
variable{prog:C1}{w:F8}{A:D4}{E:o0->z4->Prop}{s:z4}{K:Frag}
end
end Att
namespace L2
open PySem PySem.Spec PyProof.Rows
theorem ji:∀{a:List o0}{ns:List Int},IntsAre a ns->au (ns.map V.int) a
 |_,_,.nil=>.nil
 |_,_,.cons n t h=>.cons ⟨t,rfl⟩ (ji h)
def sD(H:Hp):Prop:=∀b,H b=none∨∃o a,H b=some (.frz o (.lst a))
theorem oh{P:C1}{w:F8}{K:s0}{G Z:Str->Option o0}{CX:CXT}{k:Nat}{S a:A1}{fd:B7}{x:Str}{sp:Sp}{f:z4}{t:List o0}{ns:List Int}
  (KX:K.In f.heap) (L:f.heap.Ns B1 G) (i:f.heap.Ns builtinsNs Z) (Q:∀x:Str,x≠"__name__"->Z x=O8 x) (N:f.heap.NoLimit) (hg:f.gens=#[])
  (ha:f.heap.get? a=some { cls:=.type "list",data:=.seq t.toArray }) (hi:IntsAre t ns) (hl:ns.length<=A0) (hr:bA k ab0)
  (F:∀base:C9,K.In base->base.Ns B1 G->aS P w K G base CX k S fd [x] sp) (p:∀(s:z4) (u:o0),ab8 s fd ⟨[u],[]⟩ [(x,u)])
  (Y:∀H:Hp,sD H->SqL K H a (ns.map V.int)->sp [.ref a] H (λv _=>v=.bl true) λ_ _ _=>False)
  (U:∀H e s',CX [] H f (λ_ _ _=>False) e s'->False) :
  aa1 (D3 P w) ab0 (.call (.ref S) ⟨[.ref a],[]⟩) (λr s'=>r=.ok (.ret (.bool true))/\OldK f.heap s'.heap/\s'.os=f.os/\V9 s'.gens) f:=by
 have rv:=ji hi;have A:=hi.length
 -- from an abstract heap in which nothing but the script may be tracked
 have l:∀H:Hp,sD H->SqL K H a (ns.map V.int)->HOk P w H f.heap->(∀b,H b≠none->b=a)->(H a≠none->K.lookup a=none) ->
   aa1 (D3 P w) ab0 (.call (.ref S) ⟨[.ref a],[]⟩) (λr s'=>r=.ok (.ret (.bool true))/\OldK f.heap s'.heap/\s'.os=f.os/\V9 s'.gens) f:=by
  intro H hO hS J hA hK;have g:∀{b:A1} {o:Obj},f.heap.get? b=some o->H b=none->(jS f.heap H).get? b=some o:=λe n=>pV e n;have T:∀{b:A1} {o:Obj} {B:Array ac6} {M:Nat},f.heap.get? b=some o->o.data=.dict B M->H b=none:=λ{b o B M} e d=>by
   cases q:H b with
   |none=>rfl
   |some u =>
    have X:b=a:=hA b (by rw[q];simp);subst X;rw[ha]at e;cases e;have d':aa6 t.toArray _=Z0 B M:=d;cases d'
  have j:∀{b:A1} {m:Str->Option o0},f.heap.Ns b m->(jS f.heap H).Ns b m:=λ{b m} ⟨o,B,M,e,d,r⟩=>⟨o,B,M,g e (T e d),d,r⟩;have C:K.In (jS f.heap H):=λb o e=>g (KX b o e) (by
   cases q:H b with
   |none=>rfl
   |some u =>
    have X:b=a:=hA b (by rw[q];simp);subst X;rw[hK (by rw[q];simp)]at e;cases e)
  have hM:Mod K G (jS f.heap H):=⟨C,j L,⟨Z,j i,Q⟩,let⟨mc,h1,h2⟩:=N;⟨mc,j h1,h2⟩⟩;have e0:iD P w K G (jS f.heap H) ab0 [] f H:=⟨rfl,hM,λb o e=>qQ e,Nat.le_of_eq (nr _ _),trivial,λb i=>absurd (show b∈([]:List A1)from i) (by simp),J,.of_eq hg⟩;refine Y6 ((F _ C (j L)).run ab0 [] f H ⟨[.ref a],[]⟩ [.ref a] [.ref a] _ _ hr e0 (p f (.ref a)) (.cons rfl .nil) (Y H hO hS)) λr s' h=>?_;cases r with
  |error e=>exact(U H e s' h).elim
  |ok fl =>
   cases fl with
   |next=>exact I0 h
   |brk=>exact I0 h
   |cont=>exact I0 h
   |ret u =>
    obtain⟨v,H',os,O,un,I,r',q⟩:=h;have q':v=.bl true:=q;subst q';obtain rfl:u=U8 true:=r';refine⟨rfl,OldK.of_keep λb o e=>?_,os,O⟩;cases q:H b with
    |none=>exact un.keep b o e q (by intro z;exact absurd (show b∈([]:List A1)from z) (by simp)) (by simp)
    |some u =>
     rcases hO b with z|⟨ob,xs,z⟩
     ·rw[q]at z;cases z
     ·have z2:=un.frzs b ob _ z;obtain⟨e1,_⟩:=J b _ z;obtain⟨e2,_⟩:=I b _ z2;rw[e]at e1;cases e1;exact e2
 cases R:K.lookup a with
 |some o =>
  -- the script is one of the module's own objects
  have e:=KX a o R;rw[ha]at e;cases e;refine l (λ_=>none) (λ_=>.inl rfl) (.inr ⟨_,t.toArray,_,R,rfl,rfl,rfl,by rw[A3,A];exact hl,by simpa using rv⟩) (λb u z=>by have E:(none:Option HO)=some u:=z;cases E) (λb z=>absurd rfl z) λz=>absurd rfl z
 |none =>
  refine l (λb=>if b=a then some (.frz { cls:=.type "list",data:=.seq t.toArray } (.lst (ns.map V.int)))else none) (λb=>?_) (.inl (.inr ⟨{ cls:=.type "list",data:=.seq t.toArray },if_pos rfl⟩)) (λb u z=>?_) (λb z=>?_) λ_=>R
  ·by_cases i:b=a
   ·exact .inr ⟨_,_,if_pos i⟩
   ·exact .inl (if_neg i)
  ·by_cases i:b=a
   ·have E:=(if_pos i).symm.trans z;cases E;subst i;exact⟨ha,by rw[J4];exact hl,t,_,rv,ha⟩
   ·have E:=(if_neg i).symm.trans z;cases E
  ·by_cases i:b=a
   ·exact i
   ·exact absurd (if_neg i) z
theorem m9{l:PySem.W.OpenLaw}{n k:Nat}{q:C1}{g:List Str}{T:(Str->Option o0)->C9->Prop}{N:F8->C9->Prop}{d:DefRec}{K:Params->s0}{CX:F8->CXT}{sp:F8->Sp}{x:Str}
  (hn:l.most=some n) (A:n<=A0) (C:d.params.defaults=[]) (hr:bA k ab0)
  (P:∀(w:F8) (h:C9),N w h->(K w.params).In h)
  (F:∀ (w:F8) (i:Str → Option o0) (p:A1) (h:C9),(K w.params).In h → h.Ns B1 i → i d.name = some (.ref p) →
   ∃z:B7,(∀(s:z4) (u:o0),ab8 s z ⟨[u],[]⟩ [(x,u)]) /\
    ∀base:C9,(K w.params).In base->base.Ns B1 i->aS l.prog w (K w.params) i base (CX w) k p z [x] (sp w))
  (B:∀(w:F8) (H:Hp) (a:A1) (ns:List Int),ns.length<=n->sD H->SqL (K w.params) H a (ns.map V.int)->sp w [.ref a] H (λv _=>v=.bl true) λ_ _ _=>False)
  (t:∀(w:F8) (H:Hp) (s:z4) (e:o0) (s':z4),CX w [] H s (λ_ _ _=>False) e s'->False) :
  PySem.W.WalkO q g T N l.row.toRowW d [] (λf M=>PySem.call f M):=by
 refine Att.attach_call hn C λw L j i mb p o pm cd S a M ns G Y ho hd U E m b I R=>?_;have J:=P w _ Y;obtain⟨z,Z,Q⟩:=F w i p _ J G.T.g E;exact oh J G.T.g G.T.b G.T.builtins G.T.nolimit R m b (E7 I A) hr Q Z (λH O X=>B w H a ns I O X) λH e s'=>t w H j e s'
end L2
/- THE LAST THEOREM (shape; LID,My.* are yours):
   My.Adr: a structure of the addresses that your layer names (classes,functions);My.Txt K t: a structure (Prop) of the equations over K;
   My.txt_mk:{K} {implicit addresses ..} (e1:nsIn K B1 "law"=some (some (.ref f))) (e2:K.lookup f=some ⟨oc,od,.func (fnOf "law" "law" params body scope dV kV doc pm an cdv ct),sl⟩) (e3:codeIn K cdv "law"=true) ..:∃t,My.Txt K t
set_option maxRecDepth 100000 in
set_option maxHeartbeats 0 in
theorem PySem.Challenge.cw_LID_holds : PySem.Challenge.rw_LID.Holds := by
 w_on;o_law;k_head;(case hw=>w_witness2)
 k_fill
 refine L2.m9 (l:=PySem.Challenge.rw_LID) (n:=63) (k:=40) (x:="script") (CX:=λw=>..) (sp:=λ_=>My.sp_law) rfl (by decide) rfl ⟨rfl,by decide,by decide⟩ (λw h Y=>PySem.W.kIn_of Y) ?F ?S ?C
 case F =>
  intro w A o h j G i;have T:∃t,My.Txt (L2.KOf j) t:=by
   dsimp only[L2.KOf]                          -- K must stand as «<heap const> w.params» for k_is
   refine' My.txt_mk ?e1 ?e2 ?e3 ..
   (case e1=>PySem.W.k_is)                    -- in the order: a name->its address->its object->its parts
   (case e2=>PySem.W.k_is)
   ..
  obtain⟨t,T⟩:=T;have m:=i.symm.trans (D7 j G T.law);cases m                                       -- o is the law's own address;exact⟨_,λs u=>.of_eq rfl,λe f g=>My.law_fn T f g⟩     -- if «.of_eq rfl» comes too early: refine' ⟨_,?b,λe f g=>My.law_fn T f g⟩;exact λs u=>.of_eq rfl
 case S=>exact λw H a z B p q=>..
 case C=>exact ..
(the tactic k_is has no namespace: write k_is) -/
namespace L2
open PySem PySem.Spec PyProof.Rows
def cF(s:P9):Arguments:=match s with
 |.FunctionDef _ a _ _ _ _ _ _ _ _=>a
 |_=>{ posonlyargs:=[],args:=[],vararg:=none,kwonlyargs:=[],kw_defaults:=[],kwarg:=none,defaults:=[] }
def bI(s:P9):List P9:=match s with
 |.FunctionDef _ _ b _ _ _ _ _ _ _=>b
 |_=>[]
def ag(s:P9):T0:=match s with
 |.FunctionDef _ _ _ _ _ _ a _ _ _=>a
 |_=>{ kind:=.function,names:=[],isGenerator:=false,isCoroutine:=false }
abbrev CX0:CXT:=λ_ _ _ _ _ _=>False
abbrev E0:XK:=λ_ _ _=>False
theorem wf{X:Cx}:lZ CX0 X E0:=λ_ _ _ _ _ _ _ h=>h.elim
structure Fun(K:s0) (x qual:Str) (st:P9) (f:A1) (fd:B7):Prop where
 ex:∃(oc:o0) (od:Option A1) (kV doc pm:o0) (an:Option A1) (cdv ct:o0) (osl:Array (Option o0)),
  fd=P0 x qual (cF st) (bI st) (ag st) .none kV doc pm an cdv ct/\K.lookup f=some ⟨oc,od,.func fd,osl⟩/\V2 K cdv qual=true
 kp:M8 K (.ref f)=true
section
variable{P:C1}{w:F8}{K:s0}{z:Str->Option o0}{base:C9}{f:A1}{g:B7}
theorem Fun.ok{x b:Str}{st:P9}{f:A1}{g:B7}{N ps:List Str}{k:Nat}{sp:Sp}(F:Fun K x b st f g)(S:ax N ps (ag st))(len:∀j H Q E,sp j H Q E->j.length=ps.length)
  (i:∀ (e:o0) (A:D4) (a:List Env) (s:z4) (H:Hp) (j:List V) (Q:VK) (E:XK),bA k (A.deeper (U2 b (ag st) s.heap.objs.size f e)) → sp j H Q E →
   ∃t,PSs (hJ CX0 P w K z base N b (ag st) f e A a s H E).nox (bI st) t/\t { nx:=λ_ u=>Q .non u,rt:=Q } (di N j) H):aS P w K z base CX0 (k+1) f g ps sp:=by
 obtain⟨J,L,kV,p,G,I,e,C,o,rfl,n,l⟩:=F.ex;refine tD n l S len λA a s H j Q E B m=>?_;obtain⟨t,h,q⟩:=i e A a s H j Q E B m;exact⟨t,h.nox,q⟩
theorem Fun.binds{x a:Str}{st:P9}{f:A1}{g:B7}{ps:List Str}(F:Fun K x a st f g)
  (h:∀(kV b i:o0) (l:Option A1) (e ct:o0) (j:List o0),j.length=ps.length->bindArgs (P0 x a (cF st) (bI st) (ag st) .none kV b i l e ct) ⟨j,[]⟩=W1 (ps.zip j)):cg K g ps []:=by
 obtain⟨p,q,kV,b,i,l,e,ct,n,rfl,o,m⟩:=F.ex;exact .all (h kV b i l e ct)
theorem lG{x a:Str}{st:P9}{f:A1}{j:o0}{m h:Option A1}{g:Array (Option o0)}{kV e i b ct:o0}(l:K.lookup f=some ⟨j,m,.func (P0 x a (cF st) (bI st) (ag st) .none kV e i h b ct),g⟩)
  (c:V2 K b a=true) (k:M8 K (.ref f)=true):Fun K x a st f (P0 x a (cF st) (bI st) (ag st) .none kV e i h b ct):=⟨⟨j,m,kV,e,i,h,b,ct,g,rfl,l,c⟩,k⟩
end
theorem i3{n:Nat}(h:n<=1000):n<A0:=Nat.lt_of_le_of_lt h (by decide)
section
variable{X:Cx}
theorem pv(i:Nat){x:Str}{pos:Pos}(f:X.N[i]?=some x:=by rfl)(e:Vis X.env.scope x:=by first|exact J6 rfl|exact Z9 (J6 rfl)|exact Z9 (Z9 rfl))(b:(x==("__debug__":Str))=false:=by decide)
  (a:(x==("__classdict__":Str))=false:=by decide):PE X (.Name x pos) (lY i):=oD f e b a
end
theorem bC{c A B:Prop}[Decidable c](a:c->A)(b:¬ c->B):if c then A else B:=by
 by_cases h:c
 ·rw[if_pos h];exact a h
 ·rw[if_neg h];exact b h
section
variable{g:Type} [DecidableEq g]
noncomputable def kf(a:List (g×V))(k:g):Option V:=(a.find? λb=>decide (b.1=k)).map (·.2)
def yw(a:List (g×V))(k:g):List (g×V):=a.filter λb=>decide (b.1≠k)
theorem kT{p:g×V}{r:List (g×V)}{k:g}(e:p.1=k):kf (p::r) k=some p.2:=by simp[kf,O3,e]
theorem kR{p:g×V}{r:List (g×V)}{k:g}(e:¬ p.1=k):kf (p::r) k=kf r k:=by simp[kf,O3,e]
theorem p8.getD{o:Option V}{u:Option o0}{d:V}{d':o0}(r:p8 o u)(rd:aF d d'):aF (o.getD d) (u.getD d'):=by
 cases o with
 |none=>cases u with
  |none=>exact rd
  |some _=>exact(show False from r).elim
 |some _=>cases u with
  |none=>exact(show False from r).elim
  |some _=>exact r
theorem KV.val{a:List (g×V)}{j:List (g×o0)}(r:KV a j)(k:g):p8 (kf a k) (ac7 j k):=by
 unfold KV at r
 induction r with
 |nil=>exact True.intro
 |@cons p q n i h t ih =>
  obtain⟨l,m⟩:=h
  by_cases e:p.1=k
  ·have f:q.1=k:=l.symm.trans e;have b:ac7 (q::i) k=some q.2:=by simp[ac7,O3,f]
   rw[kT e,b];exact m
  ·have f:¬ q.1=k:=λz=>e (l.trans z);have b:ac7 (q::i) k=ac7 i k:=by simp[ac7,O3,f]
   rw[kR e,b];exact ih
theorem KV.any{a:List (g×V)}{e:List (g×o0)}(r:KV a e)(k:g):(a.any λb=>decide (b.1=k))=e.any λb=>decide (b.1=k):=by
 unfold KV at r
 induction r with
 |nil=>rfl
 |cons h t ih=>rw[P2,P2,ih,h.1]
theorem KV.length{a:List (g×V)}{b:List (g×o0)}(r:KV a b):a.length=b.length:=S2.length r
end
structure M1(X:Cx) (o:C5) (m:Str) (bf:Pos) (e:C5) (aC:Pos):Prop where
 base:F9 o m X.env (M6 o X.env)=M6 o X.env
 few:((K6 aC (z9 [e] X.env)).all (λx=>!x.1)&&(U3 aC (O2 [] X.env)).all (λx=>x.1.isSome)
 &&decide (([e]:List C5).length+([]:List P4).length+(if([]:List P4).isEmpty then 0 else 1)<30))=true
 line:(bf.endLine==aC.line)=true
 trees:K6 aC (z9 [e] X.env)=[(false,M6 e X.env)]
structure M2(X:Cx) (o:C5) (m:Str) (bf:Pos) (e f:C5) (aC:Pos):Prop where
 base:F9 o m X.env (M6 o X.env)=M6 o X.env
 few:((K6 aC (z9 [e,f] X.env)).all (λx=>!x.1)&&(U3 aC (O2 [] X.env)).all (λx=>x.1.isSome)
 &&decide (([e,f]:List C5).length+([]:List P4).length+(if([]:List P4).isEmpty then 0 else 1)<30))=true
 line:(bf.endLine==aC.line)=true
 trees:K6 aC (z9 [e,f] X.env)=[(false,M6 e X.env),(false,M6 f X.env)]
noncomputable def aP(X:Cx)(a:T0)(e:List (Str×A1))(N:List Str)(C:A1)(s:z4)(H:Hp)(b:List A1):Cx where
 prog:=X.prog
 w:=X.w
 K:=X.K
 mg:=X.mg
 base:=X.base
 A:=X.A
 N:=N
 s₀:=s
 H₀:=H
 env:=compEnvC a e C X.env
 outer:=X.stack
 stack:=X.stack
 ex:=b
 calm:=X.calm
 fn:=λ_=>false
 pn:=[]
 xe:=λ_ _=>False
noncomputable def a6:List Bool->St->St
 |true::b,v::a=>v::a6 b a
 |false::b,_::a=>none::a6 b a
 |[],_::a=>none::a6 [] a
 |_,[]=>[]
theorem ba:∀(ms:List Bool) (σ:St),(a6 ms σ).length=σ.length
 |true::ms,v::σ=>by simp[a6,ba ms σ]
 |false::ms,_::σ=>by simp[a6,ba ms σ]
 |[],_::σ=>by simp[a6,ba [] σ]
 |[],[]=>by simp[a6]
 |true::_,[]=>by simp[a6]
 |false::_,[]=>by simp[a6]
theorem eE:∀{ms:List Bool}{σ:St}{i:Nat}{v:V},(a6 ms σ)[i]?=some (some v)->ms[i]?=some true/\σ[i]?=some (some v)
 |true::ms,v::σ,0,x,h=>by simpa[a6]using h
 |true::ms,v::σ,i+1,x,h=>by
  have:=eE (ms:=ms) (σ:=σ) (i:=i) (v:=x) (by simpa[a6]using h);simpa using this
 |false::ms,_::σ,0,x,h=>by simp[a6]at h
 |false::ms,_::σ,i+1,x,h=>by
  have:=eE (ms:=ms) (σ:=σ) (i:=i) (v:=x) (by simpa[a6]using h);simpa using this
 |[],_::σ,0,x,h=>by simp[a6]at h
 |[],_::σ,i+1,x,h=>by
  have:=eE (ms:=[]) (σ:=σ) (i:=i) (v:=x) (by simpa[a6]using h);simpa using this
 |[],[],_,_,h=>by simp[a6]at h
 |true::_,[],_,_,h=>by simp[a6]at h
 |false::_,[],_,_,h=>by simp[a6]at h
def eJ(ms:List Bool)(k:Nat)(σ:St):St:=a6 ms σ++z5 k none
theorem nj{ms:List Bool}{k:Nat}{σ:St}{i:Nat}{v:V}(h:(eJ ms k σ)[i]?=some (some v)):i<σ.length/\ms[i]?=some true/\σ[i]?=some (some v):=by
 unfold eJ at h
 by_cases a:i<(a6 ms σ).length
 ·rw[F7 a]at h;exact⟨by rwa [ba]at a,eE h⟩
 ·rw[O4 (by lia),Q6]at h
  split at h<;>cases h
structure dX(X:Cx) (scope:T0) (cl:List (Str×A1)) (ms:List Bool) (aq:List Str):Prop where
 kind:scope.kind=.function
 ncell:∀y∈scope.names,y.2≠.cell
 names:∀y∈scope.names,y.2=.local->scope.names.lookup y.1=some .local
 clos:closureFor scope X.env=W1 cl
 sub:∀x c,cl.lookup x=some c->X.env.cells.lookup x=some c
 has:∀x,scope.names.lookup x=some .free->∃c,cl.lookup x=some c
 fr:∀x,scope.names.lookup x=some .free->X.env.scope.names.lookup x=some .cell∨X.env.scope.names.lookup x=some .free
 mask:∀(i:Nat) (x:Str),ms[i]?=some true->X.N[i]?=some x->scope.names.lookup x=some .free
 mlen:ms.length<=X.N.length
theorem fw{env:Env}:∀{names:List (Str×J1)}{x:Str}{k:J1},
  (names.map λ(n,k)=>if(k==M9&&env.scope.kind==.function&&env.kindOf n==some .cell)then(n,U4)else(n,k)).lookup x=some k->(∀y∈names,y.2≠.cell)->k=.cell∨k=.free->names.lookup x=some .free
 |[],_,_,h,_,_=>by simp at h
 |(n,b)::r,x,k,h,f,g=>by
  have ih:=@fw env r x k;have h:ab1 x ((if(b==M9&&env.scope.kind==.function&&env.kindOf n==some .cell)=true then(n,U4)else(n,b))::_)=some k:=h;cases e:x==n with
  |true =>
   by_cases a:(b==M9&&env.scope.kind==.function&&env.kindOf n==some .cell)=true
   ·have:b=.free:=by
     simp at a;exact a.1.1
    subst this;simp[F4,e]
   ·rw[if_neg a]at h;simp only[F4,e]at h;cases h;rcases g with rfl|rfl
    ·exact absurd rfl (f (n,.cell) F1)
    ·simp[F4,e]
  |false =>
   by_cases a:(b==M9&&env.scope.kind==.function&&env.kindOf n==some .cell)=true
   ·rw[if_pos a]at h;simp only[F4,e]at h ⊢;exact ih h (λy i=>f y (B4 _ i)) g
   ·rw[if_neg a]at h;simp only[F4,e]at h ⊢;exact ih h (λy i=>f y (B4 _ i)) g
theorem fm{env:Env}:∀{names:List (Str×J1)}{x:Str},names.lookup x=some .free ->
  (names.map λ(n,k)=>if(k==M9&&env.scope.kind==.function&&env.kindOf n==some .cell)then(n,U4)else(n,k)).lookup x=some .cell ∨
  (names.map λ(n,k)=>if(k==M9&&env.scope.kind==.function&&env.kindOf n==some .cell)then(n,U4)else(n,k)).lookup x=some .free
 |[],_,h=>by simp at h
 |(n,b)::r,x,h=>by
  have ih:=@fm env r x;show ab1 x ((if(b==M9&&env.scope.kind==.function&&env.kindOf n==some .cell)=true then(n,U4)else(n,b))::_)=_∨ab1 x ((if(b==M9&&env.scope.kind==.function&&env.kindOf n==some .cell)=true then(n,U4)else(n,b))::_)=_;cases a:x==n with
  |true =>
   simp only[F4,a]at h;cases h
   split
   ·left;simp[F4,a]
   ·right;simp[F4,a]
  |false =>
   simp only[F4,a]at h
   split<;>(simp only[F4,a];exact ih h)
section
variable{X:Cx}{E:List (A1×Obj)}{σ:St}{H G:Hp}{s t:z4}{g:T0}{B:List (Str×A1)}{ms:List Bool}{aq:List Str}
theorem pN(I:Inv X E σ H s)(S:dX X g B ms aq){j:List A1}(a:∀b∈j,fR X E H b)(l:∀b∈j,b<s.heap.objs.size){C:A1}(m:s.heap.objs.size<=C):
  (aP X g B (X.N++aq) C s H j).Ok where
 mod:=I.ok.mod
 kind:=S.kind
 glob:=I.ok.glob
 blt:=I.ok.blt
 above:=m
 inj:=λx y c n p=>I.ok.inj x y c (S.sub x c n) (S.sub y c p)
 has:=λx i=>S.has x (fw (env:=X.env) (k:=if(aP X g B (X.N++aq) C s H j).env.kindOf x=some .cell then .cell else .free) (by
  rcases i with i|i
  ·rw[if_pos i];exact i
  ·rw[if_neg (by rw[i];decide)];exact i) S.ncell (by split<;>simp))
 cab:=λx c h=>by cases h
 hd:=I.ok.hd
 frames:=I.ok.frames
 stk:=.inl rfl
 exf:=λb f=>⟨D1 (A8 (l b f) m),λx c e=>(a b f).2.2.2.2.1 x c (S.sub x c e)⟩
 bs:=I.bs
 bsz:=E7 I.ok.bsz I.sz
 noex:=λb o e f=>by
  rcases(a b f).2.2.2.1 with z|z
  ·exact I.ok.noex b o e z
  ·exact absurd (A8 (A7 e) (E7 I.ok.bsz z)) (O7 _)
 exfs:=λb f z=>by
  rcases A5.mp (I.stkSub b z)with e|e
  ·exact(a b f).2.1 e
  ·exact(a b f).2.2.1 e
 funs:=I.stack
 frf:=I.stkFree
theorem rP(I:Inv X E σ H s)(S:dX X g B ms aq){J:List A1}(n:∀b∈J,fR X E H b)(G:∀b∈J,b<s.heap.objs.size){C:A1}(M:s.heap.objs.size<=C)
  (os:t.os=s.os) (a:V9 t.gens) (keep:∀b o,s.heap.get? b=some o->t.heap.get? b=some o) {m:Str->Option o0} (Z:t.heap.Ns C m) :
  Inv (aP X g B (X.N++aq) C s H J) [] (eJ ms aq.length σ) H t where
 ok:=pN I S n G M
 os:=os
 bare:=a
 base:=Un.kept keep
 loc:=⟨m,Z,λi x v P h2 h3=>by
  obtain⟨Q,hm,T⟩:=nj h2;have q:i<X.N.length:=by rw[<-I.len];exact Q
  have O:X.N[i]?=some x:=by
   have j:(X.N++aq)[i]?=some x:=P
   rwa [F7 q]at j
  have f:=S.mask i x hm O;obtain⟨m0,R,U⟩:=I.loc;obtain⟨u,r,l⟩:=U i x v O T (by rcases S.fr x f with z|z<;>simp[Vis,z]);refine⟨u,r,.inr ⟨?_,?_⟩⟩
  ·exact fm (env:=X.env) f
  ·obtain⟨c,L⟩:=S.has x f;have A:=S.sub x c L;rcases l with⟨k,_⟩|⟨_,c',e,z⟩
   ·rcases S.fr x f with z|z<;>(have N:X.env.scope.names.lookup x=some .local:=k;rw[z]at N;cases N)
   ·rw[A]at e;cases e;obtain⟨o,w,h⟩:=z;exact⟨c,L,o,keep _ _ w,h⟩⟩
 cell:=λx c e=>by
  obtain⟨v,o,w,h⟩:=I.cell x c (S.sub x c e);exact⟨v,o,keep _ _ w,h⟩
 free:=I.hok.fresh M
 freeC:=λx c e=>I.freeC x c (S.sub x c e)
 pin:=λp Y=>absurd (show p∈([]:List (A1×Obj))from Y) (by simp)
 hok:=I.hok.kept keep
 len:=by
  unfold eJ;rw[C6,ba,E5,I.len];show _=(X.N++aq).length;rw[C6]
end
def PIf(X:Cx)(a:List C5)(t:TT):Prop :=
 ∀(e:List (A1×Obj)) (s:z4) (b:St) (H:Hp) (Q:Bool->Hp->Prop),Inv X e b H s->t b H Q ->
  B3 (D3 X.prog X.w) X.A (forIn a true λc r=>if r=true then do let ok <-isTrue c X.env (M6 c X.env);W1 (L8 ok)else W1 (L8 r)) (TP X e b Q) X.xe s
def yc:TT:=λ_ H Q=>Q true H
theorem qI{X:Cx}:PIf X [] yc:=λ_ _ _ H _ I h=>wpAny_tests_nil ⟨H,I,h⟩
theorem rq{X:Cx}{c:C5}{t:TT}(h:PT X c t):PIf X [c] t:=λa s b H Q I q=>wpAny_tests_one (h a s b H Q I q)
abbrev c8(a:List o0)(n:Nat):Obj:={ cls:=.type "list",data:=.seq a.toArray n }
theorem thF{b:Type}{t:Sem b}{Q f:b->z4->Prop}{M:ac2}{A:D4}{E:o0->z4->Prop}{s:z4}(i:E=λ_ _=>False)(h:B3 M A t Q E s)(g:∀a s,Q a s->f a s):B3 M A t f (λ_ _=>False) s:=F3 h g λe s x=>by rw[i]at x;exact x
abbrev lcE(el:C5)(b:List W4)(a:T0)(ps:Pos):C5:=.ListComp el b a ps
section
variable{prog:C1}{w:F8}{A:D4}{R:Result->z4->Prop}{s:z4}{el G t i:C5}{fs:List C5}{k:Nat}{p:Pos}{it g:o0}{env:Env}{z:List W4}{B:T0}{ps:Pos}
abbrev AWt:=(z4->Prop)->z4->Prop
def mx(prog:C1)(w:F8)(A:D4)(t:C5)(g:o0)(env:Env):AWt:=λOk s=>B3 (D3 prog w) A (M6 t env) (λx a=>B3 (D3 prog w) A (call (.builtin "list.append") [g,x]) (λ_ b=>Ok b) (λ_ _=>False) a) (λ_ _=>False) s
def uP(a:C5)(k:Nat)(p:Pos)(G:C5)(fs:List C5)(b:o0->o0->Env->Sem Fin):Prop:=∀it g env,compTurn a k it g env=(do
  ac4 p
  let r <-pyNext it
  match r with
   |none=>W1 (Fin.done Flow.next)
   |some v=>do
    T9 G it v
    aa7 G env v
    let ok <-forIn fs true λc r=>if r=true then do let ok <-PySem.isTrue c env (M6 c env);W1 (L8 ok)else W1 (L8 r)
    if ok=true then b it g env else again (Z4 a k it g env))
def tN(prog:C1)(w:F8)(A:D4)(h:C5)(k:Nat)(j:o0->o0->Env->Sem Fin)(it g:o0)(env:Env)(i:AWt):Prop :=
 ∀Ok s (R:Result->z4->Prop) (E:o0->z4->Prop),i Ok s->B3 (D3 prog w) A (j it g env) (λa b=>match a with|.done f=>R (.ok f) b|.again e=>e=Z4 h k it g env/\Ok b) E s
theorem iz{u:o0->o0->Env->Sem Fin}{t:AWt}(H:uP (lcE el z B ps) k p G fs u)(E:(Z4 (lcE el z B ps) k it g env).quiet=true:=by rfl)(C:tN prog w A (lcE el z B ps) k u it g env t)(I:Nat->z4->Prop)
  (q:∀ n s,I n s → B3 (D3 prog w) A (pyNext it) (λr a => match r with
   |none=>R (.ok .next) a
   | some v => B3 (D3 prog w) A (T9 G it v) (λ_ a => B3 (D3 prog w) A (aa7 G env v) (λ_ i =>
     B3 (D3 prog w) A (forIn fs true λc r=>if r=true then do let ok <-isTrue c env (M6 c env);W1 (L8 ok)else W1 (L8 r)) (λok e =>
      if ok=true then t (λo=>∃m,m<n/\I m o) e
      else ∃m,m<n/\I m e) (λ_ _=>False) i) (λ_ _=>False) a) (λ_ _=>False) a) (λ_ _=>False) s)
  (n:Nat) (h:I n s) :
  aa1 (D3 prog w) A (.compLoop (lcE el z B ps) k it g env) R s:=by
 refine codeAny_loop E I (λn s J=>?_) n h;show B3 _ A ((compTurn (lcE el z B ps) k it g env).onRaise (λx=>do ab7 x env;theTreesLotGoes x)) _ _ s;refine wpAny_noted ?_;rw[H];refine u8 (W3 (u8 (F3 (q n s J) (λr a b=>?_) λ_ _ j=>j.elim)));cases r with
 |none=>exact z7 b
 |some v =>
  refine u8 (F3 b (λ_ L b=>?_) λ_ _ j=>j.elim);refine u8 (F3 b (λ_ i l=>u8 (F3 l (λok e f=>?_) λ_ _ j=>j.elim)) λ_ _ j=>j.elim);cases ok with
  |false=>exact z7 ⟨rfl,f⟩
  |true=>exact C _ _ _ _ f
noncomputable def tL(a:C5)(k:Nat)(t:C5):o0->o0->Env->Sem Fin:=λit g env=>bind (bind (M6 t env) λx=>bind (call (U5 "list.append") [g,x]) λ_=>W1 ()) λ(_:Unit)=>again (Z4 a k it g env)
theorem qz:tN prog w A (lcE el z B ps) k (tL (lcE el z B ps) k t) it g env (mx prog w A t g env):=λOk s R E h =>
 u8 (u8 (F3 h (λx f a=>u8 (F3 a (λ_ i b=>z7 (z7 ⟨rfl,b⟩)) λ_ _ e=>e.elim)) λ_ _ e=>e.elim))
end
abbrev BK:=List V->St->Hp->(List V->St->Hp->Prop)->Prop
def jT(J:It)(g:TG)(tc:TT)(B:BK)(W:Nat->Nat->List V->St->Hp->Prop)(Z:List V->St->Hp->Prop):Prop :=
 ∀i m e j H,W i m e j H->e.length<=A0/\((J.stop i H/\Z e j H) ∨
  (J.go i H/\∀x h,J.yld i H x h->g x j h λa p=>tc a p λb o=>if b=true then B e a o (λl n h=>∃f,f<m/\W (i+1) f l n h)else ∃f,f<m/\W (i+1) f e a o))
def kM(te:TE):BK:=λb a H Z=>te a H λy e=>Z (b++[y]) a e
section
variable{Y:Cx}{D:A1}{el E t O:C5}{fs:List C5}{g:TG}{tc:TT}{te:TE}{W:TI}{B:BK}{k:Nat}{p:Pos}{G:List W4}{J:T0}{ps:Pos}
def sZ(Y:Cx)(D:A1)(n:AWt)(B:BK):Prop:=∀(P:List (A1×Obj)) (b:List o0) (l:Nat) (g:List V) (i:St) (H:Hp) (s:z4) (Z:List V->St->Hp->Prop),Inv Y ([(D,c8 b l)]++P) i H s->au g b->g.length<=A0->(∀p∈P,p.1≠D)->B g i H Z ->
 n (λm=>∃f a j e h,Inv Y ([(D,c8 a j)]++P) e h m/\au f a/\Z f e h) s
structure jf(Y:Cx) (D:A1):Prop where
 pn:Y.pn=[]
 calm:Y.calm=true
 xe:Y.xe=λ_ _=>False
 ex:D∈Y.ex∨Y.s₀.heap.objs.size<=D
 cell:∀x c,Y.env.cells.lookup x=some c->c≠D
theorem AWt.mono_leaf{prog:C1}{w:F8}{A:D4}{b:o0}{env:Env}{Ok a:z4->Prop}{s:z4}(h:mx prog w A t b env Ok s)(k:∀s,Ok s->a s):mx prog w A t b env a s :=
 F3 h (λ_ _ e=>F3 e (λ_ _ f=>k _ f) λ_ _ x=>x) λ_ _ x=>x
theorem pq(c:jf Y D)(he:PE Y t te):sZ Y D (mx Y.prog Y.w Y.A t (.ref D) Y.env) (kM te):=by
 intro P f A R u H s Z I B S j q;refine thF c.xe (he _ s u H _ I q) λv E m=>m.el λy G w X N=>?_;have a:=w.pin (D,c8 f A) (A4 _ (D0 _ F1));have n:f.toArray.size<=A0:=by rw[A3,<-B.length];exact S
 refine PySem.wpAny_list_append_plain (hsz:=n) ⟨A,a.1⟩ λQ g i=>?_;obtain⟨x,g⟩:=g;have l:Inv Y [] u G { E with heap:=Q } :=
  Inv.turned (t':=E.toks) (it:=D) (w.pins_of λp h=>absurd h (by simp)) (λb o O e=>(i.2 b O).trans e) a.2.1 a.2.2.1 c.ex c.cell (λp h=>absurd (show p∈([]:List (A1×Obj))from by rw[c.pn]at h;exact h) (by simp))
 refine⟨R++[y],f++[v],x,u,G,l.pins_of λp h=>?_,B.append (.cons X .nil),N⟩;rcases D9.mp h with z|z
 ·have e:p=(D,c8 (f++[v]) x):=D6.mp z;subst e;refine⟨?_,a.2.1,a.2.2.1,a.2.2.2.1,λv z=>by cases z⟩;rw[g];simp[c8]
 ·obtain⟨J,T,U,L,M⟩:=w.pin p (A4 _ (A4 _ z));exact⟨(i.2 _ (j p z)).trans J,T,U,L,M⟩
structure Lv(Y:Cx) (D:A1) (ce:C5) (k:Nat) (p:Pos) (E:C5) (fs:List C5) (B:BK):Prop where
 ex:∃bd AW,uP ce k p E fs bd/\(∀it,tN Y.prog Y.w Y.A ce k bd it (.ref D) Y.env AW)/\sZ Y D AW B/\∀{Ok Ok':z4->Prop} {s:z4},AW Ok s->(∀s,Ok s->Ok' s)->AW Ok' s
theorem qE(c:jf Y D)(he:PE Y t te)(a:uP (lcE el G J ps) k p E fs (tL (lcE el G J ps) k t)):Lv Y D (lcE el G J ps) k p E fs (kM te):=⟨_,_,a,λ_=>qz,pq c he,AWt.mono_leaf⟩
theorem nQ(c:jf Y D)(L:Lv Y D (lcE el G J ps) k p E fs B){S:A1}
  (hg:PG Y E g) (b0:PIf Y fs tc) {P:List (A1×Obj)} (b5:∀p∈P,p.1≠D)
  {its0:List o0} {nn0:Nat} {M:List V} {σ:St} {H:Hp} {s:z4} (I:Inv Y ([(D,c8 its0 nn0)]++P) σ H s) (b':au M its0) {l:List A1} {w:Nat->C9->Prop} {J2:It} (T:j7 Y.prog Y.w Y.K E J2 l S w) (st:w 0 s.heap)
  (f:∀b∈l,fR Y ([(D,c8 its0 nn0)]++P) H b) {W2:Nat->Nat->List V->St->Hp->Prop} {Z2:List V->St->Hp->Prop} {m0:Nat} (w0:W2 0 m0 M σ H) (Z:jT J2 g tc B W2 Z2) {R:Result->z4->Prop}
  (hR:∀(s':z4) (ys:List V) (a:List o0) (n:Nat) (j:St) (q:Hp),Inv Y ([(D,c8 a n)]++P) j q s'->au ys a->ys.length<=A0->Z2 ys j q->R (.ok .next) s') :
  aa1 (D3 Y.prog Y.w) Y.A (.compLoop (lcE el G J ps) k (.ref S) (.ref D) Y.env) R s:=by
 obtain⟨bd,AW,hT,t,hB,b1⟩:=L.ex;have N:∀{H:Hp} {n:Nat} {a:List o0},(∀b∈l,H b=none)->∀b∈l,fR Y ([(D,c8 a n)]++P) H b:=λhn b t=>by
  obtain⟨_,a1,a2,a3,a4,a5⟩:=f b t;refine⟨hn b t,a1,a2,a3,a4,λp hp=>?_⟩;rw[c.pn,E1]at hp;rcases D9.mp hp with z|z
  ·obtain rfl:=D6.mp z;exact a5 (D,c8 its0 nn0) (by rw[c.pn];simp)
  ·exact a5 p (by rw[c.pn];simp[z])
 refine iz hT rfl (t _) (λn s'=>∃i ys a A j q,Inv Y ([(D,c8 a A)]++P) j q s'/\au ys a/\w i s'.heap/\(∀b∈l,q b=none)/\W2 i n ys j q) ?_ m0
  ⟨0,M,its0,nn0,σ,H,I,b',st,λb t=>(f b t).1,w0⟩
 rintro n s' ⟨i,ys,a,A,j,q,I4,rv,Q,U,w4⟩;obtain⟨hz,h⟩:=Z i n ys j q w4;rcases h with⟨stop,hZ⟩|⟨go,step⟩
 ·refine thn (T.done Y rfl rfl rfl c.calm i _ s' _ q (λ_ _=>False) I4 (N U) Q stop) λr s4 ⟨hr,I5⟩=>?_;subst hr;exact hR s4 ys a A j q I5 rv hz hZ
 ·refine thn (T.item Y rfl rfl rfl c.calm i _ s' _ q (λ_ _=>False) I4 (N U) Q go) λr s5 ⟨u,hr,h5⟩=>?_;subst hr;refine thn h5 λ_ s6 ⟨x,H6,I6,r6,y6,O,c0⟩=>?_;have b3:=I6.pinned (N c0) (T.obj _ _ O);refine thF c.xe (hg _ s6 _ H6 x u _ b3 r6 (step x H6 y6)) λ_ s7 ⟨C,H7,I7,q7⟩=>?_;refine thF c.xe (b0 _ s7 C H7 _ I7 q7) λok s8 b2=>b2.el λH8 I8 q8=>?_;have m:∀{a:List o0} {A:Nat} {X:St} {H9:Hp} {s9:z4},Inv Y (([(D,c8 a A)]++P)++eV l s6.heap) X H9 s9->w (i+1) s9.heap/\∀b∈l,H9 b=none:=λ{a A X H9 s9} I9 =>
   ⟨T.keep _ _ _ O λb t o e=>(I9.pin (b,o) (A4 _ (A4 _ (cX t e)))).1,λb t=>by
    obtain⟨o,e,d⟩:=T.obj _ _ O b t;exact(I9.pin (b,o) (A4 _ (A4 _ (cX t e)))).2.1⟩
  cases ok with
  |false =>
   obtain⟨m',hm,w8⟩:=q8;obtain⟨a8,b8⟩:=m I8;exact⟨m',hm,i+1,ys,a,A,C,H8,I8.unpinned,rv,a8,b8,w8⟩
  |true =>
   have a':∀p∈P++eV l s6.heap,p.1≠D:=λp hp=>by
    rcases D9.mp hp with z|z
    ·exact b5 p z
    ·have t:=(iY z).1;intro e;exact(f _ t).2.2.2.2.2 (D,c8 its0 nn0) (by rw[c.pn];simp) e.symm
   refine b1 (hB (P++eV l s6.heap) a A ys C H8 s8 _ (by rw[<-O0];exact I8) rv hz a' q8) ?_;rintro s9 ⟨c1,a0,n',j,q,I',b4,m',hm,w'⟩;rw[<-O0]at I';obtain⟨a9,b9⟩:=m I';exact⟨m',hm,i+1,c1,a0,n',j,q,I'.unpinned,b4,a9,b9,w'⟩
end
section
variable{X:Cx}{aa:List (A1×Obj)}{σ G:St}{O H':Hp}{t s':z4}{g:T0}{I:List (Str×A1)}{ms:List Bool}{aq:List Str}{R Y i0:C5}{f0:List C5}{gs:List W4}{g0:TG}{tc0:TT}{B:BK}{p pos:Pos}
theorem iW(S:dX X g I ms aq)(eY:X.calm=true)
  (b0:∀C s H N,PG (aP X g I (X.N++aq) C s H N) Y g0) (a2:∀C s H N,PIf (aP X g I (X.N++aq) C s H N) f0 tc0)
  (hL:∀C s H N D,jf (aP X g I (X.N++aq) C s H N) D->Lv (aP X g I (X.N++aq) C s H N) D (lcE R (⟨Y,i0,f0,0⟩::gs) g pos) 0 p Y f0 B)
  (q:Inv X aa σ O t) {it:A1} {M:List A1} {tn:Nat->C9->Prop} {J:It} (T:j7 X.prog X.w X.K Y J M it tn) (L:tn 0 t.heap) (fz:∀b∈M,fR X aa O b)
  {W:Nat->Nat->List V->St->Hp->Prop} {Z:List V->St->Hp->Prop} {m0:Nat} (w0:W 0 m0 [] (eJ ms aq.length σ) O) (a1:jT J g0 tc0 B W Z)
  {RR:o0->A1->Result->z4->Prop} {E:o0->z4->Prop}
  (a':∀ (s':z4) (ys:List V) (l:List o0) (n:Nat) (G:St) (H':Hp),Inv (aP X g I (X.N ++ aq) (t.heap.objs.size + 1) t O M) [(t.heap.objs.size,c8 l n)] G H' s' → au ys l → ys.length ≤ A0 → Z ys G H' →
   RR (.ref t.heap.objs.size) (t.heap.objs.size+1) (.ok .next) s') :
  B3 (D3 X.prog X.w) X.A (newList []) (λQ h=>B3 (D3 X.prog X.w) X.A (newFunctionEnv g X.env.globals I [] X.env.qual none .none (some X.env)) (λu a3 =>
   aa1 (D3 X.prog X.w) X.A (.compStart (lcE R (⟨Y,i0,f0,0⟩::gs) g pos) 0 (.ref it) Q { u with scope:=relabel g X.env }) (RR Q u.locals) a3) E h) E t:=by
 refine N8 (wpAny_newFunctionEnv S.ncell (by intro y hy;simp at hy) (λi f a=>?_) S.kind);dsimp only at f a ⊢;have a9:(t.heap.push { cls:=.type "list",dict:=none,data:=.seq ([]:List o0).toArray }).objs.size=t.heap.objs.size+1:=by rw[C9.size_push]
 rw[a9]at f a ⊢;have m:∀b∈M,b<t.heap.objs.size:=λb j=>by
  obtain⟨o,e,_⟩:=T.obj _ _ L b j;exact A7 e
 have A:∀b o,t.heap.get? b=some o->i.get? b=some o:=λb o e=>a.extBut b o (D1 (O1 (A7 e))) (z6 _ (z6 _ e));have a4:i.get? t.heap.objs.size=some (c8 [] 0):=a.extBut _ _ (D1 (R0 _)) (z6 _ (C8 _ rfl));have a5:O t.heap.objs.size=none:=q.hok.fresh (B8 _);have U:∀b,t.heap.objs.size<=b->b∉(aP X g I (X.N++aq) (t.heap.objs.size+1) t O M).fs:=λb j z=>by
  rcases A5.mp (q.stkSub b z)with e|e
  ·subst e;exact absurd (A8 q.lt j) (O7 _)
  ·exact q.nofs j e
 have w:∀h:z4,h={ t with heap:=i,toks:=t.toks+([]:List (Str×o0)).length } ->
   aa1 (D3 X.prog X.w) X.A (.compLoop (lcE R (⟨Y,i0,f0,0⟩::gs) g pos) 0 (.ref it) (.ref t.heap.objs.size) (compEnvC g I (t.heap.objs.size+1) X.env)) (RR (.ref t.heap.objs.size) (t.heap.objs.size+1)) h:=by
  rintro h rfl;have I3:Inv (aP X g I (X.N++aq) (t.heap.objs.size+1) t O M) [] (eJ ms aq.length σ) O { t with heap:=i,toks:=t.toks+([]:List (Str×o0)).length } :=
   rP q S fz m (ab3 _) rfl q.bare A f
  have c:jf (aP X g I (X.N++aq) (t.heap.objs.size+1) t O M) t.heap.objs.size:=⟨rfl,eY,rfl,.inr (B8 _),λx c e=>by
   obtain⟨v,o,ho,_⟩:=q.cell x c (S.sub x c e);exact D1 (A7 ho)⟩
  refine nQ c (hL _ _ _ _ _ c) (b0 _ _ _ _) (a2 _ _ _ _) (P:=[]) (λp hp=>nomatch hp) (its0:=[]) (nn0:=0) (I3.pins_of λp hp=>?_) .nil T (T.keep _ _ _ L λb _ o e=>A b o e) (λb j=>?_) w0 a1 ?_
  ·have e:p=(t.heap.objs.size,c8 [] 0):=D6.mp hp;subst e;exact⟨a4,a5,D1 (R0 _),U _ (B8 _),λv z=>by cases z⟩
  ·exact⟨(fz b j).1,D1 (O1 (m b j)),(pN q S fz m (ab3 _)).exfs b j,.inl j,λx c e=>(fz b j).2.2.2.2.1 x c (S.sub x c e),λp hp=>by
    have:p=(t.heap.objs.size,_):=D6.mp (show p∈[(t.heap.objs.size,_)]from hp);subst this;exact X9 (m b j)⟩
  ·exact λs' ys l n G H' I' rv hz hZ=>a' s' ys l n G H' I' rv hz hZ
 exact codeAny_compStart_list (w _ rfl) (T.self _ 0 _ _ _ (T.keep _ _ _ L λb _ o e=>A b o e) (w _ rfl))
end
section
variable{X:Cx}{aa:List (A1×Obj)}{σ σ':St}{H2 H':Hp}{G s':z4}{t:T0}{cl:List (Str×A1)}{ms:List Bool}{aq:List Str}{Y E R:C5}{O:List C5}{g:TG}{tc:TT}{te:TE}{pos p:Pos}{B:BK}{gs:List W4}
theorem jh(L:Inv X aa σ H2 G){x:List A1}(w:∀b∈x,fR X aa H2 b){f:List o0}{n:Nat}{ys:List V}
  (j:Inv (aP X t cl (X.N++aq) (G.heap.objs.size+1) G H2 x) [(G.heap.objs.size,c8 f n)] σ' H' s') (M:au ys f) (N:ys.length<=A0) {h':C9} (O:V5 (G.heap.objs.size+1) s'.heap h') :
  Inv X aa σ (upd H' G.heap.objs.size (.lst ys)) { s' with heap:=h' }/\H' G.heap.objs.size=none:=by
 have g:=j.pin (G.heap.objs.size,c8 f n) (A4 _ F1);have J:H' (G.heap.objs.size+1)=none:=j.free;have E:H' G.heap.objs.size=none:=g.2.1;have up:∀b o,b≠G.heap.objs.size+1->s'.heap.get? b=some o->h'.get? b=some o:=λb o a e=>(O.2 b a).trans e;have s:∀b u,H' b=some u->b≠G.heap.objs.size:=λb u e z=>by rw[z,E]at e;cases e
 have H:∀b u,H' b=some u->b≠G.heap.objs.size+1:=λb u e z=>by rw[z,J]at e;cases e
 have p:h'.get? G.heap.objs.size=some (c8 f n):=up _ _ (D1 (R0 _)) g.1;have B:HOk X.prog X.w (upd H' G.heap.objs.size (.lst ys)) h':=λb u e=>by
  by_cases a:b=G.heap.objs.size
  ·subst a;rw[aM]at e;cases e;exact⟨N,f,n,M,p⟩
  ·rw[az a]at e;refine(j.hok b u e).stay (λc v A q=>up c v ?_ q) (λc q=>by rw[az (s c _ q)];exact q) λc I q=>by rw[az (s c _ q)];exact q
   rcases A with rfl|A
   ·exact H _ _ e
   ·exact H _ _ A
 have un:Un (frs X.stack) x H2 (upd H' G.heap.objs.size (.lst ys)) G.heap h':=by
  have U:=j.base;have C:∀b o,G.heap.get? b=some o->b≠G.heap.objs.size:=λb o e=>D1 (A7 e);have h:∀b o,G.heap.get? b=some o->b≠G.heap.objs.size+1:=λb o e=>D1 (O1 (A7 e));refine⟨λb o e m a i=>up b o (h b o e) (U.keep b o e m a i),λb o e m a i=>?_,λb o e m i=>by rw[az (C b o e)];exact U.free b o e m i,λb o e i=>?_,
   λb I e=>by have q:=U.tups b I e;rw[az (s b _ q)];exact q,λb o u e=>by have q:=U.frzs b o u e;rw[az (s b _ q)];exact q,λb P e=>?_⟩
  ·obtain⟨Q,q⟩:=U.slot b o e m a i;exact⟨Q,up b _ (h b o e) q⟩
  ·obtain⟨R,q⟩:=U.there b o e i;exact⟨R,up b _ (h b o e) q⟩
  ·obtain⟨l,q⟩:=U.tbls b P e;exact⟨l,by rw[az (s b _ q)];exact q⟩
 exact⟨L.call' (s':={ s' with heap:=h' }) (ch:=x) j.os un B j.bare λb a=>⟨(w b a).2.2.2.1,(w b a).2.1,(w b a).2.2.2.2.1,(w b a).2.2.2.2.2⟩,E⟩
def uZ(ms:List Bool)(k:Nat)(e:TI)(g:TG)(tc:TT)(B:BK):TE:=λσ H Q=>e σ H λJ b=>∃(W:Nat->Nat->List V->St->Hp->Prop) (Z:List V->St->Hp->Prop),(∃m,W 0 m [] (eJ ms k σ) b)/\jT J g tc B W Z /\
 ∀a σ' H p,Z a σ' H->H p=none->Q (.ref p) (upd H p (.lst a))
abbrev tLc(ms:List Bool)(k:Nat)(a:TI)(g:TG)(tc:TT)(te:TE):TE:=uZ ms k a g tc (kM te)
abbrev LvC(X:Cx)(t:T0)(cl:List (Str×A1))(aq:List Str)(b:C5)(p:Pos)(Y:C5)(O:List C5)(B:BK):Prop:=∀C s H a D,jf (aP X t cl (X.N++aq) C s H a) D->Lv (aP X t cl (X.N++aq) C s H a) D b 0 p Y O B
theorem uW(S:dX X t cl ms aq)(L:X.calm=true){u:TI}(P:PI X Y E u)
  (hg:∀C s H l,PG (aP X t cl (X.N++aq) C s H l) Y g) (f:∀C s H l,PIf (aP X t cl (X.N++aq) C s H l) O tc) (hL:LvC X t cl aq (lcE R (⟨Y,E,O,0⟩::gs) t pos) p Y O B)
  (hs:∀x,P7 E X.env x=W1 x:=by intro _;rfl):PE X (lcE R (⟨Y,E,O,0⟩::gs) t pos) (uZ ms aq.length u g tc B):=by
 intro aa s σ H Q I h;rw[eval_ListComp];refine wpAny_comprehension_free (use:=none) rfl hs S.clos S.kind S.names (thn (P aa s σ H _ I h) λv s1 h1=>thn h1 λM G h2=>?_);obtain⟨it,fp,tn,J,H2,e,z,T,i,o,W,Z,⟨m0,N⟩,a,q⟩:=h2;subst e;refine iW S L hg f hL z T i o N a (RR:=λj C=>compPost (D3 X.prog X.w) X.A X.xe none (EP X aa σ Q) j C) ?_;intro s' ys U n σ' H' w rv hz hZ;obtain⟨m,hm,_⟩:=w.loc;refine⟨m,hm,λh' b=>?_⟩;obtain⟨A,hD⟩:=jh z o w rv hz b;exact⟨.ref G.heap.objs.size,_,A,rfl,q ys _ H' _ hZ hD⟩
theorem nK{i:Nat}{x:Str}{j f:Pos}(hN:X.N.Nodup)(a1:X.N[i]?=some x)(hx:X.env.scope.names.lookup x=some .local)
  (a4:W7 (lcE R (⟨Y,E,O,0⟩::gs) t pos) (some (.Name x f)) j.line X.env=W1 true)
  (S:dX X t cl ms aq) (eY:X.calm=true) {wi:TI} (hi:PI X Y E wi)
  (hg:∀C s H ex,PG (aP X t cl (X.N++aq) C s H ex) Y g) (N:∀C s H ex,PIf (aP X t cl (X.N++aq) C s H ex) O tc) (hL:LvC X t cl aq (lcE R (⟨Y,E,O,0⟩::gs) t pos) p Y O B)
  (hs:∀x,P7 E X.env x=W1 x:=by intro _;rfl):PS X (.Assign [.Name x f] (lcE R (⟨Y,E,O,0⟩::gs) t pos) j) (uX (uZ ms aq.length wi g tc B) (ko i)):=by
 intro aa s σ H D I h;rw[exec_Assign_Name_used _ _ _ _ a4];refine u8 (W3 (u8 ?_));show B3 _ _ (do let _ <-comprehension (lcE R (⟨Y,E,O,0⟩::gs) t pos) t X.env _ (newList []) false (M6 E X.env) (some (aa7 (.Name x f) X.env))) _ _ s;refine u8 (F3 (wpAny_comprehension_free (use:=some (aa7 (.Name x f) X.env)) (Q:=λ_ s'=>SP X aa D .next s') rfl hs S.clos S.kind S.names
  (thn (hi aa s σ H _ I h) λv s1 h1=>thn h1 λa5 G h2=>?_)) (λ_ s' hq=>z7 (z7 hq)) λ_ _ e=>e)
 obtain⟨it,fp,tn,J,H2,e,u,T,U,f2,W,Z,⟨m0,w0⟩,w,q⟩:=h2;subst e;refine iW S eY hg N hL u T U f2 w0 w (RR:=λa2 C=>compPost (D3 X.prog X.w) X.A X.xe (some (aa7 (.Name x f) X.env)) (λ_ s'=>SP X aa D .next s') a2 C) ?_;intro s' ys a8 n σ' H' I' rv hz hZ;obtain⟨m,hm,_⟩:=I'.loc;obtain⟨I3,hD⟩:=jh u f2 I' rv hz (V5.refl (G.heap.objs.size+1) s'.heap);have hq:=q ys _ H' _ hZ hD;show B3 _ _ (aa7 (.Name x f) X.env (.ref G.heap.objs.size)) _ _ _;refine wpAny_assign_Name (iJ I3 hN a1 (.inl hx) (v:=.ref G.heap.objs.size) rfl (λs4 I4 l=>?_) (.inr hx));obtain⟨a,M,ha⟩:=l;have A:G.heap.objs.size+1≠X.env.locals:=X9 (O1 u.lt);have a0:G.heap.objs.size+1≠a:=by
  rcases ha with rfl|ha
  ·exact A
  ·intro z;obtain⟨v,o,ho,_⟩:=u.cell x a ha;exact absurd (O1 (A7 ho)) (by rw[<-z];exact O7 _)
 have a3:upd H' G.heap.objs.size (.lst ys) (G.heap.objs.size+1)=none:=by rw[az (X9 (R0 _))];exact I'.free
 refine⟨m,hm.sameBut M a0,λP L=>?_⟩;refine⟨_,_,?_,hq⟩;have hL:∀b o,b≠G.heap.objs.size+1->s4.heap.get? b=some o->P.get? b=some o:=λb o hb e=>(L.2 b hb).trans e;have I5:=Inv.turned (t':=s4.toks) (h':=P) (it:=G.heap.objs.size+1) I4 (λb o hb e=>hL b o hb e) a3 A (.inr (Nat.le_succ_of_le u.sz)) (λy c e=>by
  obtain⟨v,o,ho,_⟩:=u.cell y c e;exact D1 (O1 (A7 ho))) (λp hp=>by
  exact D1 (O1 (A7 (u.pin p hp).1)))
 exact I5
theorem oH(he:∀C s H a,PE (aP X t cl (X.N++aq) C s H a) R te):LvC X t cl aq (lcE R [⟨Y,E,O,0⟩] t pos) E.pos Y O (kM te):=λ_ _ _ _ _ c=>qE c (he _ _ _ _) λ_ _ _=>rfl
end
inductive Bx where
 |dk (ks:List Key)|dt (ks:List (List Key))|ins (C:A1) (fs:List Str)|key
 |obj (a:A1) (φ:List V->C9->Prop)
 deriving Inhabited
inductive D where
 |non|bl (b:Bool)|int (i:Int)|str (x:Str)|tup (ds:List D)|lst (ds:List D)|scr (ds:List D)|emp|ref (a:A1)|box (t:Bx) (ds:List D)
 deriving Inhabited
inductive HD where
 |lst (ds:List D)|dK (kvs:List (Key×D))|dT (kvs:List (List Key×D))|dKr (o:Obj) (ks:List (Key×V)) (kvs:List (Key×D))|ins (C:A1) (fs:List (Str×D))
 |ext (φ:List V->C9->Prop) (ds:List D)
 deriving Inhabited
abbrev DH:=A1->Option HD
def ay(M:DH)(a:A1)(o:HD):DH:=λb=>if b=a then some o else M b
abbrev noM:DH:=λ_=>none
theorem ar{M:DH}{a:A1}{o:HD}:ay M a o a=some o:=if_pos rfl
theorem aT{M:DH}{a b:A1}{o:HD}(h:b≠a):ay M a o b=M b:=if_neg h
theorem bg{M:DH}{a:A1}{o u:HD}:ay (ay M a o) a u=ay M a u:=by
 funext b;unfold ay;split<;>rfl
theorem nJ{M:DH}{a:A1}{o:HD}(h:M a=some o):ay M a o=M:=by
 funext b;unfold ay;split
 ·rename_i e;rw[e,h]
 ·rfl
def iR(K:s0)(M:DH)(H:Hp)(a:A1)(b:List V):Prop:=(Rd H a (.tup b)/\M a=none)∨SqT K (λ_=>none) a b
def mS(M:DH)(H:Hp)(a:A1)(b:List V):Prop:=H a=some (.lst b)/\M a=none
def iO(K:s0)(M:DH)(H:Hp)(a:A1)(b:List V):Prop:=((∃o,H a=some (.frz o (.lst b)))/\M a=none)∨SqL K (λ_=>none) a b
def wH(M:DH)(H:Hp)(a:A1):Prop:=H a=some (.dK [])/\M a=none
def me(M:DH)(H:Hp)(a:A1):Bx->List V->Prop
 |.dk f,e=>f.length=e.length/\(∃o,H a=some (.frz o (.dK (f.zip e))))/\M a=none
 |.dt f,e=>f.length=e.length/\(∃o,H a=some (.frz o (.dT (f.zip e))))/\M a=none
 |.ins C fs,e=>fs.length=e.length/\(∃i,H a=some (.ins C i (fs.zip e)))/\M a=none
 |.key,e=>True/\(∃h:Unit,H a=some (.tup e))/\M a=none
 |.obj b g,e=>a=b/\(∃h:Unit,H a=some (.ext (g e)))/\M a=none
mutual
def Rep(K:s0)(M:DH)(H:Hp):D->V->Prop
 |.non,v=>v=.non
 |.bl b,v=>v=.bl b
 |.int i,v=>v=.int i
 |.str x,v=>v=.str x
 |.tup f,v=>∃a e,v=.ref a/\iR K M H a e/\ai K M H f e
 |.lst f,v=>∃a e,v=.ref a/\mS M H a e/\ai K M H f e
 |.scr f,v=>∃a e,v=.ref a/\iO K M H a e/\ai K M H f e
 |.emp,v=>∃a,v=.ref a/\wH M H a
 |.ref a,v=>v=.ref a
 |.box t f,v=>∃a e,v=.ref a/\me M H a t e/\ai K M H f e
def ai(K:s0)(M:DH)(H:Hp):List D->List V->Prop
 |[],a=>a=[]
 |d::e,a=>∃v b,a=v::b/\Rep K M H d v/\ai K M H e b
end
def Ext(M:DH)(H:Hp)(b:DH)(e:Hp):Prop:=∀a o,H a=some o->M a=none->e a=some o/\b a=none
theorem Ext.refl(M:DH)(H:Hp):Ext M H M H:=λ_ _ h n=>⟨h,n⟩
theorem Ext.trans{M M1 M2:DH}{H e f:Hp}(a:Ext M H M1 e)(b:Ext M1 e M2 f):Ext M H M2 f:=λc o h n=>b c o (a c o h n).1 (a c o h n).2
variable{K:s0}{M M' M1 M2:DH}{H H' H1 H2:Hp}
theorem iR.ext{a:A1}{b:List V}(h:iR K M H a b)(e:Ext M H M' H'):iR K M' H' a b:=by
 rcases h with⟨r|⟨o,r⟩,n⟩|h
 ·exact .inl ⟨.inl (e a _ r n).1,(e a _ r n).2⟩
 ·exact .inl ⟨.inr ⟨o,(e a _ r n).1⟩,(e a _ r n).2⟩
 ·exact .inr h
theorem mS.ext{a:A1}{b:List V}(h:mS M H a b)(e:Ext M H M' H'):mS M' H' a b:=e a _ h.1 h.2
theorem iO.ext{a:A1}{b:List V}(h:iO K M H a b)(e:Ext M H M' H'):iO K M' H' a b:=by
 rcases h with⟨⟨o,r⟩,n⟩|h
 ·exact .inl ⟨⟨o,(e a _ r n).1⟩,(e a _ r n).2⟩
 ·exact .inr h
theorem me.ext{a:A1}{t:Bx}{b:List V}(h:me M H a t b)(e:Ext M H M' H'):me M' H' a t b:=by
 cases t<;>(obtain⟨l,⟨o,r⟩,n⟩:=h;exact⟨l,⟨o,(e a _ r n).1⟩,(e a _ r n).2⟩)
mutual
theorem Rep.ext:∀{d:D}{v:V},Rep K M H d v->Ext M H M' H'->Rep K M' H' d v
 |.non,_,h,_=>h
 |.bl _,_,h,_=>h
 |.int _,_,h,_=>h
 |.str _,_,h,_=>h
 |.ref _,_,h,_=>h
 |.emp,_,h,e=>by
  simp only[Rep]at h ⊢;obtain⟨a,rfl,b,f⟩:=h;exact⟨a,rfl,e a _ b f⟩
 |.tup i,_,h,e=>by
  simp only[Rep]at h ⊢;obtain⟨a,g,rfl,b,f⟩:=h;exact⟨a,g,rfl,b.ext e,ai.ext f e⟩
 |.lst i,_,h,e=>by
  simp only[Rep]at h ⊢;obtain⟨a,g,rfl,b,f⟩:=h;exact⟨a,g,rfl,b.ext e,ai.ext f e⟩
 |.scr i,_,h,e=>by
  simp only[Rep]at h ⊢;obtain⟨a,g,rfl,b,f⟩:=h;exact⟨a,g,rfl,b.ext e,ai.ext f e⟩
 |.box t i,_,h,e=>by
  simp only[Rep]at h ⊢;obtain⟨a,g,rfl,b,f⟩:=h;exact⟨a,g,rfl,b.ext e,ai.ext f e⟩
theorem ai.ext:∀{ds:List D}{a:List V},ai K M H ds a->Ext M H M' H'->ai K M' H' ds a
 |[],_,h,_=>h
 |d::ds,_,h,e=>by
  simp only[ai]at h ⊢;obtain⟨v,f,rfl,b,g⟩:=h;exact⟨v,f,rfl,Rep.ext b e,ai.ext g e⟩
end
theorem ai.length:∀{ds:List D}{a:List V},ai K M H ds a->ds.length=a.length
 |[],_,h=>by simp only[ai]at h;subst h;rfl
 |d::ds,_,h=>by
  simp only[ai]at h;obtain⟨v,f,rfl,e,b⟩:=h;simp[ai.length b]
theorem ai.nil:ai K M H [] []:=by simp[ai]
theorem ai.cons{d:D}{v:V}{ds:List D}{a:List V}(h:Rep K M H d v)(t:ai K M H ds a):ai K M H (d::ds) (v::a):=by
 simp only[ai];exact⟨v,a,rfl,h,t⟩
theorem ai.append:∀{ds a:List D}{b ws:List V},ai K M H ds b->ai K M H a ws->ai K M H (ds++a) (b++ws)
 |[],_,_,_,h,t=>by simp only[ai]at h;subst h;exact t
 |d::ds,a,_,ws,h,t=>by
  simp only[ai]at h;obtain⟨v,g,rfl,e,f⟩:=h;exact ai.cons e (ai.append f t)
theorem ai.get:∀{ds:List D}{f:List V}{i:Nat}{d:D},ai K M H ds f->ds[i]?=some d->∃v,f[i]?=some v/\Rep K M H d v
 |[],_,_,_,_,e=>by simp at e
 |d::ds,_,0,x,h,e=>by
  simp only[ai]at h;obtain⟨v,l,rfl,g,j⟩:=h;simp at e;subst e;exact⟨v,rfl,g⟩
 |d::ds,_,i+1,x,h,e=>by
  simp only[ai]at h;obtain⟨v,l,rfl,g,j⟩:=h;obtain⟨w,a,b⟩:=ai.get (i:=i) (d:=x) j (by simpa using e);exact⟨w,by simpa using a,b⟩
theorem ai.take:∀{ds:List D}{a:List V}(n:Nat),ai K M H ds a->ai K M H (ds.take n) (a.take n)
 |ds,a,0,_=>by simp[ai]
 |[],_,n+1,h=>by simp only[ai]at h;subst h;simp[ai]
 |d::ds,_,n+1,h=>by
  simp only[ai]at h;obtain⟨v,f,rfl,b,e⟩:=h;exact ai.cons b (ai.take n e)
theorem ai.drop:∀{ds:List D}{a:List V}(n:Nat),ai K M H ds a->ai K M H (ds.drop n) (a.drop n)
 |ds,a,0,h=>h
 |[],_,n+1,h=>by simp only[ai]at h;subst h;simp[ai]
 |d::ds,_,n+1,h=>by
  simp only[ai]at h;obtain⟨v,f,rfl,e,b⟩:=h;exact ai.drop n b
theorem ai.set:∀{ds:List D}{b:List V}{d:D}{v:V}(n:Nat),ai K M H ds b->Rep K M H d v->ai K M H (ds.set n d) (b.set n v)
 |[],_,_,_,n,h,r=>by simp only[ai]at h;subst h;simp[ai]
 |d::ds,_,_,_,0,h,r=>by
  simp only[ai]at h;obtain⟨v,f,rfl,e,a⟩:=h;exact ai.cons r a
 |d::ds,_,_,_,n+1,h,r=>by
  simp only[ai]at h;obtain⟨v,f,rfl,e,a⟩:=h;exact ai.cons e (ai.set n a r)
theorem ai.one{d:D}{a:List V}(h:ai K M H [d] a):∃v,a=[v]/\Rep K M H d v:=by
 simp only[ai]at h;obtain⟨v,e,rfl,b,rfl⟩:=h;exact⟨v,rfl,b⟩
def KR(K:s0)(M:DH)(H:Hp){a:Type}:List (a×D)->List (a×V)->Prop:=S2 λp q=>p.1=q.1/\Rep K M H p.2 q.2
theorem KR.ext{b:Type}{a:List (b×D)}{f:List (b×V)}(h:KR K M H a f)(e:Ext M H M' H'):KR K M' H' a f:=S2.imp' (λ_ _ r=>⟨r.1,r.2.ext e⟩) h
def gM(K:s0)(M:DH)(H:Hp)(a:A1):HD->Prop
 |.lst g=>∃f,H a=some (.lst f)/\ai K M H g f
 |.dK b=>∃e,H a=some (.dK e)/\KR K M H b e
 |.dT b=>∃e,H a=some (.dT e)/\KR K M H b e
 |.dKr o e b=>∃l:Unit,H a=some (.frz o (.dK e))/\KR K M H b e
 |.ins C fs=>∃h,(∃j,H a=some (.ins C j h))/\KR K M H fs h
 |.ext i g=>∃f,H a=some (.ext (i f))/\ai K M H g f
def HR(K:s0)(M:DH)(H:Hp):Prop:=∀a o,M a=some o->gM K M H a o
theorem gM.some{a:A1}{o:HD}(h:gM K M H a o):∃u,H a=L5 u/\∀b,u≠.tup b/\∀e,u≠.frz e (.tup b):=by
 cases o with
 |ins C fs=>obtain⟨g,⟨i,r⟩,_⟩:=h;exact⟨_,r,λb=>⟨(by intro z;cases z),(by intro e z;cases z)⟩⟩
 |_=>obtain⟨f,r,_⟩:=h;exact⟨_,r,λb=>⟨(by intro z;cases z),(by intro e z;cases z)⟩⟩
theorem gM.keep{a:A1}{o:HD}(h:gM K M H a o)(e:Ext M H M' H')(q:H' a=H a):gM K M' H' a o:=by
 cases o with
 |ins C fs=>obtain⟨g,⟨f,r⟩,t⟩:=h;exact⟨g,⟨f,by rw[q];exact r⟩,t.ext e⟩
 |_=>obtain⟨b,r,t⟩:=h;exact⟨b,by rw[q];exact r,t.ext e⟩
theorem HR.fresh(h:HR K M H){p:A1}(e:H p=none):M p=none:=by
 cases q:M p with
 |none=>rfl
 |some o =>
  obtain⟨u,r,_⟩:=(h p _ q).some;rw[e]at r;cases r
theorem HR.nil:HR K noM H:=λ_ _ h=>nomatch h
theorem Ext.new{p:A1}{o:HO}(hr:HR K M H)(h:H p=none):Ext M H M (upd H p o):=λa u e n=>by
 have:a≠p:=bJ e h;rw[az this];exact⟨e,n⟩
theorem HR.ext1(h:HR K M H)(e:Ext M H M H')(keep:∀a o,M a=some o->H' a=H a):HR K M H':=λa o q=>(h a o q).keep e (keep a o q)
theorem HR.new{p:A1}{o:HO}(hr:HR K M H)(h:H p=none):HR K M (upd H p o):=hr.ext1 (Ext.new hr h) λa u q=>by
 have:a≠p:=λz=>by rw[z,hr.fresh h]at q;cases q
 rw[az this]
theorem Ext.own{p:A1}{o:HO}{u:HD}(h:H p=none):Ext M H (ay M p u) (upd H p o):=λa x e n=>by
 have:a≠p:=bJ e h;rw[az this,aT this];exact⟨e,n⟩
theorem HR.put{p:A1}{o:HO}{u:HD}(hr:HR K M H)(e:Ext M H (ay M p u) (upd H p o))(c:gM K (ay M p u) (upd H p o) p u):HR K (ay M p u) (upd H p o):=λa w q=>by
 by_cases z:a=p
 ·subst z;rw[ar]at q;cases q;exact c
 ·rw[aT z]at q;exact(hr a w q).keep e (az z)
theorem HR.own{p:A1}{ds:List D}{a:List V}(hr:HR K M H)(h:H p=none)(r:ai K M H ds a):HR K (ay M p (.lst ds)) (upd H p (.lst a)) :=
 hr.put (Ext.own h) ⟨a,aM,r.ext (Ext.own h)⟩
theorem Ext.write{a:A1}{o:HO}{u w:HD}(h:M a=some w):Ext M H (ay M a u) (upd H a o):=λb x e n=>by
 have:b≠a:=λz=>by rw[z,h]at n;cases n
 rw[az this,aT this];exact⟨e,n⟩
theorem HR.write{a:A1}{w:HD}{ds:List D}{b:List V}(hr:HR K M H)(h:M a=some w)(r:ai K M H ds b):HR K (ay M a (.lst ds)) (upd H a (.lst b)) :=
 hr.put (Ext.write h) ⟨b,aM,r.ext (Ext.write h)⟩
def LeM(M1 M:DH):Prop:=∀a o,M1 a=some o->M a=some o
theorem LeM.none(h:LeM M1 M){a:A1}(n:M a=none):M1 a=none:=by
 cases q:M1 a with
 |none=>rfl
 |some o=>rw[h a o q]at n;cases n
theorem LeM.no:LeM noM M:=λ_ _ h=>nomatch h
theorem Ext.le(h:LeM M1 M):Ext M H M1 H:=λa o e n=>⟨e,h.none n⟩
theorem HR.le(hr:HR K M H)(h:LeM M1 M):HR K M1 H:=λa o q=>(hr a o (h a o q)).keep (Ext.le h) rfl
mutual
def noL:D->Bool
 |.tup a=>qD a
 |.lst _=>false
 |.scr _=>false
 |.emp=>false
 |.box _ _=>false
 |_=>true
def qD:List D->Bool
 |[]=>true
 |d::a=>noL d&&qD a
end
mutual
theorem Rep.hard:∀{d:D}{v:V},noL d=true->Rep K M H d v->(∀a g,Rd H a (.tup g)->M' a=none)->Rep K M' H d v
 |.non,_,_,h,_=>h
 |.bl _,_,_,h,_=>h
 |.int _,_,_,h,_=>h
 |.str _,_,_,h,_=>h
 |.ref _,_,_,h,_=>h
 |.emp,_,n,_,_=>by simp[noL]at n
 |.box _ _,_,n,_,_=>by simp[noL]at n
 |.lst _,_,n,_,_=>by simp[noL]at n
 |.scr _,_,n,_,_=>by simp[noL]at n
 |.tup j,_,n,h,e=>by
  simp only[Rep]at h ⊢;obtain⟨a,b,rfl,f,i⟩:=h;refine⟨a,b,rfl,?_,ai.hard (by simpa[noL]using n) i e⟩;rcases f with⟨r,_⟩|r
  ·exact .inl ⟨r,e a b r⟩
  ·exact .inr r
theorem ai.hard:∀{ds:List D}{b:List V},qD ds=true->ai K M H ds b->(∀a g,Rd H a (.tup g)->M' a=none)->ai K M' H ds b
 |[],_,_,h,_=>h
 |d::ds,_,n,h,e=>by
  simp only[ai]at h ⊢;obtain⟨v,i,rfl,f,j⟩:=h;simp only[qD,B2]at n;exact⟨v,i,rfl,Rep.hard n.1 f e,ai.hard n.2 j e⟩
end
abbrev DE:=List (Option D)
def SR(K:s0)(M:DH)(H:Hp)(σ:St)(a:DE):Prop:=σ.length=a.length/\∀(i:Nat) (d:D),a[i]?=some (some d)->∃v,σ[i]?=some (some v)/\Rep K M H d v
theorem SR.ext{σ:St}{b:DE}(h:SR K M H σ b)(e:Ext M H M' H'):SR K M' H' σ b:=⟨h.1,λi d q=>let⟨v,a,r⟩:=h.2 i d q;⟨v,a,r.ext e⟩⟩
theorem SR.set{σ:St}{a:DE}{d:D}{v:V}(h:SR K M H σ a)(i:Nat)(r:Rep K M H d v):SR K M H (σ.set i (some v)) (a.set i (some d)):=by
 refine⟨by simp[h.1],λj e q=>?_⟩
 by_cases b:j=i
 ·subst b
  by_cases f:j<a.length
  ·rw[K3 f]at q;cases q;exact⟨v,K3 (by rw[h.1];exact f),r⟩
  ·rw[R7 (by simp;lia)]at q;cases q
 ·rw[N4 (N6 b)]at q ⊢;exact h.2 j e q
abbrev TEd:=DE->DH->(D->DH->Prop)->Prop
abbrev TAd:=DE->DH->(List D->DH->Prop)->Prop
abbrev TTd:=DE->DH->(Bool->DH->Prop)->Prop
structure cx where
 nx:DE->DH->Prop
 rt:D->DH->Prop
 bk:DE->DH->Prop:=λ_ _=>False
 ct:DE->DH->Prop:=λ_ _=>False
abbrev TSd:=cx->DE->DH->Prop
def up(K:s0)(t:TEd):TE:=λb H Q=>∃(a:DE) (M:DH) (R:D->DH->Prop),SR K M H b a/\HR K M H/\t a M R /\
 ∀d M' v H',R d M'->Ext M H M' H'->HR K M' H'->Rep K M' H' d v->Q v H'
def upA(K:s0)(t:TAd):TA:=λf H Q=>∃(b:DE) (M:DH) (R:List D->DH->Prop),SR K M H f b/\HR K M H/\t b M R /\
 ∀e M' a H',R e M'->Ext M H M' H'->HR K M' H'->ai K M' H' e a->Q a H'
def upT(K:s0)(t:TTd):TT:=λe H Q=>∃(a:DE) (M:DH) (R:Bool->DH->Prop),SR K M H e a/\HR K M H/\t a M R /\
 ∀b M' H',R b M'->Ext M H M' H'->HR K M' H'->Q b H'
theorem upT.el{K:s0}{t:TTd}{σ:St}{H:Hp}{Q:Bool->Hp->Prop}{P:Prop}(h:upT K t σ H Q)(f:∀(e:DE) (M:DH) (R:Bool->DH->Prop),SR K M H σ e->HR K M H->t e M R->(∀b M' H',R b M'->Ext M H M' H'->HR K M' H'->Q b H')->P):P:=by
 obtain⟨j,g,i,a,b,c,d⟩:=h;exact f j g i a b c d
theorem up.el{K:s0}{t:TEd}{σ:St}{H:Hp}{Q:VK}{P:Prop}(h:up K t σ H Q)(f:∀(e:DE) (M:DH) (R:D->DH->Prop),SR K M H σ e->HR K M H->t e M R->(∀d M' v H',R d M'->Ext M H M' H'->HR K M' H'->Rep K M' H' d v->Q v H')->P):P:=by
 obtain⟨j,g,i,a,b,c,d⟩:=h;exact f j g i a b c d
theorem upA.el{K:s0}{t:TAd}{σ:St}{H:Hp}{Q:List V->Hp->Prop}{P:Prop}(h:upA K t σ H Q)(f:∀(g:DE) (M:DH) (R:List D->DH->Prop),SR K M H σ g->HR K M H->t g M R->(∀ds M' e H',R ds M'->Ext M H M' H'->HR K M' H'->ai K M' H' ds e->Q e H')->P):P:=by
 obtain⟨l,i,j,a,b,c,d⟩:=h;exact f l i j a b c d
structure UpE(K:s0) (E:cx) (D:ip) (M:DH) (H:Hp):Prop where
 nx:∀ Δ' M' σ' H',E.nx Δ' M'->Ext M H M' H'->HR K M' H'->SR K M' H' σ' Δ'->D.nx σ' H'
 bk:∀ Δ' M' σ' H',E.bk Δ' M'->Ext M H M' H'->HR K M' H'->SR K M' H' σ' Δ'->D.bk σ' H'
 ct:∀ Δ' M' σ' H',E.ct Δ' M'->Ext M H M' H'->HR K M' H'->SR K M' H' σ' Δ'->D.ct σ' H'
 rt:∀d M' v H',E.rt d M'->Ext M H M' H'->HR K M' H'->Rep K M' H' d v->D.rt v H'
theorem UpE.ext{E:cx}{D:ip}(u:UpE K E D M H)(e:Ext M H M' H'):UpE K E D M' H' :=
 ⟨λa b c d h x=>u.nx a b c d h (e.trans x),λa b c d h x=>u.bk a b c d h (e.trans x),λa b c d h x=>u.ct a b c d h (e.trans x),λa b c d h x=>u.rt a b c d h (e.trans x)⟩
def upS(K:s0)(t:TSd):TS:=λD b H=>∃(a:DE) (M:DH) (E:cx),SR K M H b a/\HR K M H/\t E a M/\UpE K E D M H
theorem upS.el{K:s0}{t:TSd}{E:ip}{σ:St}{H:Hp}{P:Prop}(h:upS K t E σ H)(f:∀(e:DE) (M:DH) (R:cx),SR K M H σ e->HR K M H->t R e M->UpE K R E M H->P):P:=by
 obtain⟨i,j,g,a,b,c,d⟩:=h;exact f i j g a b c d
def PEd(X:Cx)(e:C5)(t:TEd):Prop:=PE X e (up X.K t)
def PAd(X:Cx)(a:List C5)(t:TAd):Prop:=PA X a (upA X.K t)
def PTd(X:Cx)(e:C5)(t:TTd):Prop:=PT X e (upT X.K t)
def PWd(X:Cx)(e:C5)(t:TTd):Prop:=PW X e (upT X.K t)
def PSd(X:Cx)(st:P9)(t:TSd):Prop:=PS X st (upS X.K t)
def qR(X:Cx)(st:List P9)(t:TSd):Prop:=PSs X st (upS X.K t)
theorem PE.conv{X:Cx}{e:C5}{t t':TE}(h:PE X e t)(k:∀ σ H Q,t' σ H Q->t σ H Q):PE X e t':=λp s σ H Q I q=>h p s σ H Q I (k σ H Q q)
theorem PT.conv{X:Cx}{e:C5}{t t':TT}(h:PT X e t)(k:∀ σ H Q,t' σ H Q->t σ H Q):PT X e t':=λp s σ H Q I q=>h p s σ H Q I (k σ H Q q)
theorem PA.conv{X:Cx}{e:List C5}{t t':TA}(h:PA X e t)(k:∀ σ H Q,t' σ H Q->t σ H Q):PA X e t':=λa p s σ H Q I q=>h a p s σ H Q I (k σ H Q q)
theorem PS.conv{X:Cx}{e:P9}{t t':TS}(h:PS X e t)(k:∀D σ H,t' D σ H->t D σ H):PS X e t':=λp s σ H D I q=>h p s σ H D I (k D σ H q)
theorem PSs.conv{X:Cx}{e:List P9}{t t':TS}(h:PSs X e t)(k:∀D σ H,t' D σ H->t D σ H):PSs X e t':=λp s σ H D I q=>h p s σ H D I (k D σ H q)
section
variable{X:Cx}{a b c:C5}{G:List C5}{g B:TEd}{pos:Pos}
def qN(i:Nat):TEd:=λa M Q=>∃d,a[i]?=some (some d)/\Q d M
def dC(d:D):TEd:=λ_ M Q=>Q d M
theorem sE{x:Str}{i:Int}{t:Tok}{pos:Pos}(hg:Gl X x)(f:X.mg x=some (.int i t))(b:(x==("__debug__":Str))=false:=by decide):PEd X (.Name x pos) (dC (.int i)) :=
 (jF (v:=.int i) hg f ⟨t,rfl⟩ b).conv λh H Q a=>a.el λg M R j e q k=>k _ M _ H q (Ext.refl _ _) e (by simp[Rep])
theorem rM{x y:Str}{t:Tok}{pos:Pos}(hg:Gl X x)(f:X.mg x=some (.str y t))(b:(x==("__debug__":Str))=false:=by decide):PEd X (.Name x pos) (dC (.str y)) :=
 (jF (v:=.str y) hg f ⟨t,rfl⟩ b).conv λh H Q a=>a.el λg M R i e q k=>k _ M _ H q (Ext.refl _ _) e (by simp[Rep])
def uA:TAd:=λ_ M Q=>Q [] M
def mG(g:TEd)(e:TAd):TAd:=λa M Q=>g a M λx M1=>e a M1 λb M2=>Q (x::b) M2
def xn(t:TAd):TEd:=λb M Q=>t b M λa M1=>a.length<=A0/\Q (.tup a) M1
def wz(t:TAd):TEd:=λb M Q=>t b M λa M1=>a.length<=A0/\Q (.lst a) M1
def sU(t:TAd):TEd:=λb M Q=>t b M λa M1=>a.length<=A0/\∀p,M1 p=none->Q (.ref p) (ay M1 p (.lst a))
def rdM(M:DH):D->D
 |.ref a=>match M a with|some (.lst b)=>.lst b|_=>.ref a
 |d=>d
def aG(K:s0)(M:DH)(H:Hp)(d:D)(v:V):Prop:=match d with
 |.tup e=>∃a b,v=.ref a/\SqT K H a b/\ai K M H e b
 |.lst e=>∃a b,v=.ref a/\H a=some (.lst b)/\ai K M H e b
 |.scr e=>∃a b,v=.ref a/\SqL K H a b/\ai K M H e b
 |d=>Rep K M H d v
theorem iR.sq{K:s0}{M:DH}{H:Hp}{a:A1}{b:List V}(h:iR K M H a b):SqT K H a b:=by
 rcases h with⟨h,_⟩|h
 ·exact .inl h
 ·rcases h with(h|⟨_,h⟩)|h
  ·cases h
  ·cases h
  ·exact .inr h
theorem iO.sq{K:s0}{M:DH}{H:Hp}{a:A1}{b:List V}(h:iO K M H a b):SqL K H a b:=by
 rcases h with⟨⟨o,h⟩,_⟩|h
 ·exact .inl (.inr ⟨o,h⟩)
 ·rcases h with(h|⟨_,h⟩)|h
  ·cases h
  ·cases h
  ·exact .inr h
theorem Rep.rd{K:s0}{M:DH}{H:Hp}{d:D}{v:V}(hr:HR K M H)(h:Rep K M H d v):aG K M H (rdM M d) v:=by
 cases d with
 |tup g=>simp only[Rep]at h;obtain⟨a,f,e,t,r⟩:=h;exact⟨a,f,e,t.sq,r⟩
 |lst g=>simp only[Rep]at h;obtain⟨a,f,e,t,r⟩:=h;exact⟨a,f,e,t.1,r⟩
 |scr g=>simp only[Rep]at h;obtain⟨a,f,e,t,r⟩:=h;exact⟨a,f,e,t.sq,r⟩
 |ref a =>
  simp only[rdM];cases q:M a with
  |none=>exact h
  |some o =>
   cases o with
   |lst g =>
    obtain⟨f,e,r⟩:=hr a _ q;simp only[Rep]at h;exact⟨a,f,h,e,r⟩
   |dK _=>exact h
   |dT _=>exact h
   |dKr _ _ _=>exact h
   |ins _ _=>exact h
   |ext _ _=>exact h
 |non=>exact h
 |bl b=>exact h
 |int i=>exact h
 |str x=>exact h
 |emp=>exact h
 |box _ _=>exact h
def bu(X:Cx)(f:o0->o0->Sem o0)(r:D->D->Option D):Prop :=
 ∀(a:List (A1×Obj)) (s:z4) (b:St) (H:Hp) (M:DH) (x y:V) (v u:o0) (h g e:D) (Q:VK),Inv X a b H s->HR X.K M H->aF x v->aF y u->aG X.K M H h x->aG X.K M H g y->r h g=some e ->
  (∀w H',Ext M H M H'->HR X.K M H'->Rep X.K M H' e w->Q w H')->B3 (D3 X.prog X.w) X.A (f v u) (EP X a b Q) X.xe s
def wm(X:Cx)(f:o0->Sem o0)(r:D->Option D):Prop :=
 ∀(a:List (A1×Obj)) (s:z4) (b:St) (H:Hp) (M:DH) (x:V) (v:o0) (g e:D) (Q:VK),Inv X a b H s->HR X.K M H->aF x v->aG X.K M H g x->r g=some e ->
  (∀w H',Ext M H M H'->HR X.K M H'->Rep X.K M H' e w->Q w H')->B3 (D3 X.prog X.w) X.A (f v) (EP X a b Q) X.xe s
def bU(X:Cx)(f:o0)(r:List D->Option D):Prop :=
 ∀(b:List (A1×Obj)) (s:z4) (e:St) (H:Hp) (M:DH) (h:List V) (i:List o0) (a:List D) (g:D) (Q:VK),Inv X b e H s->HR X.K M H->au h i->S2 (aG X.K M H) a h->r a=some g ->
  (∀w H',Ext M H M H'->HR X.K M H'->Rep X.K M H' g w->Q w H')->B3 (D3 X.prog X.w) X.A (call f i) (EP X b e Q) X.xe s
def dOp(r:D->D->Option D)(g B:TEd):TEd:=λa M Q=>g a M λx M1=>B a M1 λy M2=>∃z,r (rdM M2 x) (rdM M2 y)=some z/\Q z M2
def dUn(r:D->Option D)(g:TEd):TEd:=λa M Q=>g a M λx M1=>∃z,r (rdM M1 x)=some z/\Q z M1
def opV(K:s0)(r:D->D->Option D):R2:=λx y H Q=>∃e b a M,HR K M H/\aG K M H e x/\aG K M H b y/\r e b=some a/\∀w H',Ext M H M H'->HR K M H'->Rep K M H' a w->Q w H'
theorem bu.v{f:o0->o0->Sem o0}{r:D->D->Option D}(h:bu X f r):OpR X f (opV X.K r):=λj s o H x y v u Q I b a ⟨m,p,g,M,i,l,n,e,k⟩=>h j s o H M x y v u m p g Q I i b a l n e k
theorem og{K:s0}{r:D->D->Option D}{g B:TEd}:∀ σ H Q,up K (dOp r g B) σ H Q->tOp (opV K r) (up K g) (up K B) σ H Q:=λσ H Q f=>f.el λj M R l s q k =>
 ⟨j,M,_,l,s,q,λx M1 v H1 o i h p=>⟨j,M1,_,l.ext i,h,o,λy M2 u H2 ⟨z,n,A⟩ m a t=>⟨_,_,z,M2,a,(p.ext m).rd a,t.rd a,n,λw H' C b e=>k z M2 w H' A ((i.trans m).trans C) b e⟩⟩⟩
def qT(t:TEd):TTd:=λa M Q=>t a M λx M1=>∃k,x=.bl k/\Q k M1
theorem vX{K:s0}{t:TEd}:∀ σ H Q,upT K (qT t) σ H Q->tJ (up K t) σ H Q:=λσ H Q a=>a.el λl M R m i q k =>
 ⟨l,M,_,m,i,q,λd M1 v H1 ⟨b,e,g⟩ j f h=>⟨b,by subst e;simpa only[Rep]using h,k b M1 H1 g j f⟩⟩
def tG(t:TTd):TTd:=λa M Q=>t a M λc M1=>Q (!c) M1
def sR(t u:TTd):TTd:=λa M Q=>t a M λc M1=>if c=true then u a M1 Q else Q false M1
def wb(t u:TTd):TTd:=λa M Q=>t a M λc M1=>if c=true then Q true M1 else u a M1 Q
variable{J E:TTd}{rest:List C5}
theorem PW.conv{X:Cx}{e:C5}{t t':TT}(h:PW X e t)(k:∀ σ H Q,t' σ H Q->t σ H Q):PW X e t':=λw p s σ H Q I q=>h w p s σ H Q I (k σ H Q q)
theorem PWd.pt{e:C5}{t:TTd}(h:PWd X e t):PTd X e t:=PW.pt h
def vT(g B:TEd):TEd:=λa M Q=>g a M λx M1=>∃c,x=.bl c/\if c=true then B a M1 Q else Q (.bl false) M1
def wN(g:TEd):TEd:=λa M Q=>g a M λx M1=>∃c,x=.bl c/\Q (.bl (!c)) M1
def dIf(t:TTd)(g B:TEd):TEd:=λa M Q=>t a M λc M1=>if c=true then g a M1 Q else B a M1 Q
def oa(r e:D->D->Option D)(g B tc:TEd):TEd:=λa M Q=>g a M λx M1=>B a M1 λy M2=>∃k,r (rdM M2 x) (rdM M2 y)=some (.bl k)/\if k=true then tc a M2 λz b=>∃w,e (rdM b y) (rdM b z)=some w/\Q w b else Q (.bl false) M2
theorem mF{K:s0}{M:DH}{H:Hp}(hr:HR K M H):∀{ds:List D}{a:List V},ai K M H ds a->S2 (aG K M H) (ds.map (rdM M)) a
 |[],_,h=>by simp only[ai]at h;subst h;exact .nil
 |d::ds,_,h=>by
  simp only[ai]at h;obtain⟨v,f,rfl,b,e⟩:=h;exact .cons (b.rd hr) (mF hr e)
def dCB(r:List D->Option D)(t:TAd):TEd:=λa M Q=>t a M λb M1=>∃z,r (b.map (rdM M1))=some z/\Q z M1
theorem tq{K:s0}{r:List D->Option D}{t:TAd}:∀ σ H Q,up K (dCB r t) σ H Q->tCB (λs H Q=>∃ds f M,HR K M H/\S2 (aG K M H) ds s/\r ds=some f/\∀w H',Ext M H M H'->HR K M H'->Rep K M H' f w->Q w H') (upA K t) σ H Q:=λσ H Q b=>b.el λm M R n j q k =>
 ⟨m,M,_,n,j,q,λds M1 u H1 ⟨z,g,h⟩ l a i=>⟨_,z,M1,a,mF a i,g,λw H' o e p=>k z M1 w H' h (l.trans o) e p⟩⟩
theorem bU.v{f:o0}{r:List D->Option D}(h:bU X f r):cc X f (λb H Q=>∃ds a M,HR X.K M H/\S2 (aG X.K M H) ds b/\r ds=some a/\∀w H',Ext M H M H'->HR X.K M H'->Rep X.K M H' a w->Q w H') :=
 λl s n H b j Q I g ⟨ds,a,M,i,m,e,k⟩=>h l s n H M b j ds a Q I i g m e k
end
section
variable{X:Cx}
theorem bu.of{f:o0->o0->Sem o0}{g:R2}{r:D->D->Option D}(h:OpR X f g)
  (k:∀(H:Hp) (M:DH) (x y:V) (b i a:D) (Q:VK),HR X.K M H->aG X.K M H b x->aG X.K M H i y->r b i=some a->(∀w H',Ext M H M H'->HR X.K M H'->Rep X.K M H' a w->Q w H')->g x y H Q):bu X f r :=
 λn s p H M x y v u b i a Q I m l j o g e q=>h n s p H x y v u Q I l j (k H M x y b i a Q m o g e q)
theorem bU.of{f:o0}{g:List V->Hp->VK->Prop}{r:List D->Option D}(h:cc X f g)
  (k:∀(H:Hp) (M:DH) (a:List V) (ds:List D) (b:D) (Q:VK),HR X.K M H->S2 (aG X.K M H) ds a->r ds=some b->(∀w H',Ext M H M H'->HR X.K M H'->Rep X.K M H' b w->Q w H')->g a H Q):bU X f r :=
 λm s o H M a l ds b Q I j i n e q=>h m s o H a l Q I i (k H M a ds b Q j n e q)
theorem eN{K:s0}{M:DH}{H:Hp}{i:Int}{v:V}(h:aG K M H (.int i) v):v=.int i:=by simpa[aG,Rep]using h
theorem iF{K:s0}{M:DH}{H:Hp}{i:Str}{v:V}(h:aG K M H (.str i) v):v=.str i:=by simpa[aG,Rep]using h
theorem vM{K:s0}{M:DH}{H:Hp}{v:V}(h:aG K M H .non v):v=.non:=by simpa[aG,Rep]using h
def iOp(f:Int->Int->Option D):D->D->Option D
 |.int a,.int b=>f a b
 |_,_=>none
theorem kF{f:Int->Int->Option D}{x y z:D}(h:iOp f x y=some z):∃a b,x=.int a/\y=.int b/\f a b=some z:=by
 cases x<;>first|cases h|skip
 rename_i a;cases y<;>first|cases h|skip
 rename_i b;exact⟨a,b,rfl,rfl,h⟩
noncomputable def aQ:D->Bool
 |.non=>true|.bl _=>true|.int _=>true|.str _=>true|_=>false
def toV:D->V
 |.bl b=>.bl b|.int i=>.int i|.str x=>.str x|_=>.non
theorem ll{K:s0}{M:DH}{H:Hp}{d:D}(h:aQ d=true):Rep K M H d (toV d):=by
 cases d<;>first|(simp[Rep,toV];done)|cases h
theorem mT{f:o0->o0->Sem o0}{C:Int->Int->Prop}[∀i j,Decidable (C i j)]{g:Int->Int->D}(m:∀i j,aQ (g i j)=true)(h:OpR X f (rI C λi j=>toV (g i j))):
  bu X f (iOp λi j=>if C i j then some (g i j)else none) :=
 bu.of h λH M x y t w u Q s n p e q=>by
  obtain⟨a,b,rfl,rfl,o⟩:=kF e;clear e;have e:=o
  by_cases l:C a b
  ·rw[if_pos l]at e;cases e;exact⟨a,b,eN n,eN p,l,q _ _ (Ext.refl _ _) s (ll (m a b))⟩
  ·rw[if_neg l]at e;cases e
theorem gL{f:o0->o0->Sem o0}{g:Int->Int->D}(m:∀i j,aQ (g i j)=true)(h:OpR X f (rI0 λi j=>toV (g i j))):
  bu X f (iOp λi j=>some (g i j)) :=
 bu.of h λH M x y s t p Q l n o e q=>by
  obtain⟨a,b,rfl,rfl,e⟩:=kF e;cases e;exact⟨a,b,eN n,eN o,q _ _ (Ext.refl _ _) l (ll (m a b))⟩
instance:∀i j,Decidable (jJ i j):=λi j=>by unfold jJ;exact inferInstance
instance:∀i j,Decidable (fG i j):=λi j=>by unfold fG;exact inferInstance
instance:∀i j,Decidable (kc i j):=λi j=>by unfold kc;exact inferInstance
theorem mz:bu X (M7 .Sub) (iOp λi j=>some (.int (i-j))):=gL (λ_ _=>rfl) vG
theorem uz:bu X (M7 .Mult) (iOp λi j=>if fG i j then some (.int (i*j))else none):=mT (λ_ _=>rfl) vq
theorem o5:bu X (M7 .FloorDiv) (iOp λi j=>if jJ i j then some (.int (i / j))else none):=mT (λ_ _=>rfl) se
theorem ig:bu X (M7 .Mod) (iOp λi j=>if 0<j then some (.int (i % j))else none):=mT (C:=λ_ j=>0<j) (λ_ _=>rfl) uQ
theorem vS:bu X (M7 .Pow) (iOp λi j=>if kc i j then some (.int (i ^ j.toNat))else none):=mT (λ_ _=>rfl) vz
theorem qZ:bu X (E3 .Lt) (iOp λi j=>some (.bl (decide (i<j)))):=gL (λ_ _=>rfl) vJ
theorem rn:bu X (E3 .LtE) (iOp λi j=>some (.bl (decide (i<=j)))):=gL (λ_ _=>rfl) wJ
theorem lQ:bu X (E3 .Gt) (iOp λi j=>some (.bl (decide (j<i)))):=gL (λ_ _=>rfl) xg
theorem xP:bu X (E3 .GtE) (iOp λi j=>some (.bl (decide (j<=i)))):=gL (λ_ _=>rfl) wX
theorem ai.at_{K:s0}{M:DH}{H:Hp}{ds:List D}{f:List V}{i:Int}{d:D}(h:ai K M H ds f)(e:atI ds i=some d):∃v,atI f i=some v/\Rep K M H d v:=by
 unfold atI at e ⊢;rw[<-h.length];cases q:ixN ds.length i with
 |none=>rw[q]at e;cases e
 |some j =>
  rw[q]at e;have g:ds[j]?=some d:=e;obtain⟨v,a,b⟩:=h.get g;exact⟨v,a,b⟩
def ixD:D->D->Option D
 |.tup a,.int i=>atI a i
 |.lst a,.int i=>atI a i
 |.scr a,.int i=>atI a i
 |.str z,.int i=>if z.length<=A0 then(atI z.cps.toList i).map λc=>.str ⟨#[c]⟩else none
 |_,_=>none
theorem cB:IxR X (opV X.K ixD):=by
 intro b slice n s t H x y v u Q I rx ry h hs;obtain⟨E,A,G,M,m,o,p,e,k⟩:=h;cases E with
 |tup C =>
  cases A with
  |int i =>
   obtain⟨a,j,rfl,sq,g⟩:=o;obtain⟨w,l,f⟩:=g.at_ e;exact vF b slice n s t H _ _ v u Q I rx ry ⟨a,j,i,w,rfl,eN p,sq,l,k w H (Ext.refl _ _) m f⟩ hs
  |_=>cases e
 |lst C =>
  cases A with
  |int i =>
   obtain⟨a,j,rfl,sq,g⟩:=o;obtain⟨w,l,f⟩:=g.at_ e;exact mR b slice n s t H _ _ v u Q I rx ry ⟨a,j,i,w,rfl,eN p,SqL.of sq,l,k w H (Ext.refl _ _) m f⟩ hs
  |_=>cases e
 |scr C =>
  cases A with
  |int i =>
   obtain⟨a,j,rfl,sq,g⟩:=o;obtain⟨w,l,f⟩:=g.at_ e;exact mR b slice n s t H _ _ v u Q I rx ry ⟨a,j,i,w,rfl,eN p,sq,l,k w H (Ext.refl _ _) m f⟩ hs
  |_=>cases e
 |str z =>
  cases A with
  |int i =>
   simp only[ixD]at e
   by_cases B:z.length<=A0
   ·rw[if_pos B]at e;cases q:atI z.cps.toList i with
    |none=>rw[q]at e;cases e
    |some c =>
     rw[q]at e;cases e;exact ic b slice n s t H _ _ v u Q I rx ry ⟨z,i,c,iF o,eN p,B,q,k _ H (Ext.refl _ _) m (by simp[Rep])⟩ hs
   ·rw[if_neg B]at e;cases e
  |_=>cases e
 |_=>cases e
noncomputable def kr:D->D->Option D
 |.int a,.int b=>some (.int (a+b))
 |.str a,.str b=>if a.length+b.length<=A0 then some (.str (a++b))else none
 |.lst a,.lst b=>if a.length+b.length<=A0 then some (.lst (a++b))else none
 |.tup a,.tup b=>if a.length+b.length<=A0 then some (.tup (a++b))else none
 |_,_=>none
theorem gN{K:s0}{M:DH}{H:Hp}{p:A1}{ds:List D}{b:List V}{Q:VK}(hr:HR K M H)(a:H p=none)(r:ai K M H ds b)(q:∀w H',Ext M H M H'->HR K M H'->Rep K M H' (.lst ds) w->Q w H'):Q (.ref p) (upd H p (.lst b)) :=
 q _ _ (Ext.new hr a) (hr.new a) (by simp only[Rep];exact⟨p,b,rfl,⟨aM,hr.fresh a⟩,r.ext (Ext.new hr a)⟩)
theorem jA{K:s0}{M:DH}{H:Hp}{p:A1}{ds:List D}{b:List V}{Q:VK}(hr:HR K M H)(a:H p=none)(r:ai K M H ds b)(q:∀w H',Ext M H M H'->HR K M H'->Rep K M H' (.tup ds) w->Q w H'):Q (.ref p) (upd H p (.tup b)) :=
 q _ _ (Ext.new hr a) (hr.new a) (by simp only[Rep];exact⟨p,b,rfl,.inl ⟨.inl aM,hr.fresh a⟩,r.ext (Ext.new hr a)⟩)
theorem aG.tup{K:s0}{M:DH}{H:Hp}{ds:List D}{v:V}(hr:HR K M H)(h:aG K M H (.tup ds) v):Rep K M H (.tup ds) v:=by
 obtain⟨a,b,rfl,sq,e⟩:=h;simp only[Rep];refine⟨a,b,rfl,?_,e⟩;rcases sq with r|k
 ·refine .inl ⟨r,?_⟩;cases q:M a with
  |none=>rfl
  |some o =>
   obtain⟨u,z,m⟩:=(hr a _ q).some;rcases r with r|⟨f,r⟩
   ·rw[z]at r;exact absurd (K4 r) (m _).1
   ·rw[z]at r;exact absurd (K4 r) ((m _).2 f)
 ·exact .inr (.inr k)
theorem pj{prog:C1}{w:F8}{A:D4}{E:o0->z4->Prop}{s:z4}{t b:A1}{ws:List o0}{Q:o0->z4->Prop}(q:ad1 s.heap t ([]:List o0).toArray)(z:ad1 s.heap b ws.toArray)
  (h:Q (.ref b) s):B3 (D3 prog w) A (M7 .Add (.ref t) (.ref b)) Q E s:=by
 obtain⟨⟨cls,x,o,B⟩,p,l,n,j⟩:=id q;obtain⟨⟨m,i,data2,g⟩,a,f,u,e⟩:=id z;simp only at l j f e;subst l j f e;exact concat_meets ⟨_,p,rfl⟩ ⟨_,a,rfl⟩ noFill_tuple_add seq_tuple_add PySem.F.slot_tuple_add PySem.F.entry_tuple_add (PySem.F.args_tuple_add_2 _ _)
   (tuple_addW0 t b ([]:List o0).toArray ws.toArray n u x i B g (by simp)) ⟨p,a,h⟩
theorem aE:bu X (M7 .Add) kr:=by
 intro j s m H M x y v u dx dy dz Q I hr rx ry r1 r2 e k;cases dx with
 |int a =>
  cases dy with
  |int b =>
   cases e;exact uE j s m H x y v u Q I rx ry ⟨a,b,eN r1,eN r2,k _ H (Ext.refl _ _) hr (by simp[Rep])⟩
  |_=>cases e
 |str a =>
  cases dy with
  |str b =>
   simp only[kr]at e
   by_cases h:a.length+b.length<=A0
   ·rw[if_pos h]at e;cases e;exact gU j s m H x y v u Q I rx ry ⟨a,b,iF r1,iF r2,h,k _ H (Ext.refl _ _) hr (by simp[Rep])⟩
   ·rw[if_neg h]at e;cases e
  |_=>cases e
 |lst a =>
  cases dy with
  |lst b =>
   simp only[kr]at e
   by_cases h:a.length+b.length<=A0
   ·rw[if_pos h]at e;cases e;obtain⟨q,l,rfl,i,g⟩:=r1;obtain⟨n,w,rfl,o,f⟩:=r2;exact n9 j s m H _ _ v u Q I rx ry ⟨q,n,l,w,rfl,rfl,i,o,by rw[<-g.length,<-f.length];exact h,λp t=>gN hr t (g.append f) k⟩
   ·rw[if_neg h]at e;cases e
  |_=>cases e
 |tup a =>
  cases dy with
  |tup b =>
   simp only[kr]at e
   by_cases h:a.length+b.length<=A0
   ·rw[if_pos h]at e;cases e;have E:=aG.tup hr r1;have L:=aG.tup hr r2;obtain⟨q,l,rfl,i,g⟩:=r1;obtain⟨n,w,rfl,o,f⟩:=r2
    by_cases z:l=[]
    ·subst z;have N:a=[]:=by
      have:=g.length;cases a with
      |nil=>rfl
      |cons _ _=>simp at this
     subst N;cases rx;cases ry;obtain⟨J,C,G,_⟩:=I.tuple i;obtain⟨A,R,P,_⟩:=I.tuple o;cases C;exact pj G P ⟨.ref n,H,I,rfl,k _ H (Ext.refl _ _) hr L⟩
    ·refine rf j s m H _ _ v u Q I rx ry ⟨q,n,l,w,rfl,rfl,i,o,z,by rw[<-g.length,<-f.length];exact h,λB=>?_,λ_ p t=>jA hr t (g.append f) k⟩;subst B;have O:b=[]:=by
      have:=f.length;cases b with
      |nil=>rfl
      |cons _ _=>simp at this
     subst O;rw[R6]at k;exact k _ H (Ext.refl _ _) hr E
   ·rw[if_neg h]at e;cases e
  |_=>cases e
 |_=>cases e
mutual
def eqD:D->D->Bool
 |.non,.non=>true
 |.bl a,.bl b=>a==b
 |.bl a,.int b=>(if a then 1 else 0)==b
 |.int a,.bl b=>a==(if b then 1 else 0)
 |.int a,.int b=>a==b
 |.str a,.str b=>a==b
 |.tup a,.tup b=>df a b
 |.lst a,.lst b=>df a b
 |_,_=>false
def df:List D->List D->Bool
 |[],[]=>true
 |a::e,b::bs=>eqD a b&&df e bs
 |_,_=>false
end
mutual
def dLe:D->Nat->Bool
 |.tup _,0=>false
 |.tup a,n+1=>cv a n
 |.lst _,0=>false
 |.lst a,n+1=>cv a n
 |.scr _,_=>false
 |.emp,_=>false
 |.box _ _,_=>false
 |.ref _,_=>false
 |_,_=>true
def cv:List D->Nat->Bool
 |[],_=>true
 |d::a,n=>dLe d n&&cv a n
end
theorem fA:∀{ds:List D}{n i:Nat}{d:D},cv ds n=true->ds[i]?=some d->dLe d n=true
 |[],_,_,_,_,e=>by simp at e
 |d::ds,n,0,x,h,e=>by
  simp only[cv,B2]at h;simp at e;subst e;exact h.1
 |d::ds,n,i+1,x,h,e=>by
  simp only[cv,B2]at h;exact fA h.2 (by simpa using e)
theorem gZ:∀{ds:List D}{n:Nat},cv ds n=true↔∀d∈ds,dLe d n=true
 |[],n=>by simp[cv]
 |d::ds,n=>by simp[cv,gZ (ds:=ds)]
def eqN(ds e:List D)(j:Nat):Bool:=match ds[j]?,e[j]? with|some a,some b=>eqD a b|_,_=>false
theorem kN:∀{ds a:List D},df ds a=true->ds.length=a.length
 |[],[],_=>rfl
 |[],_::_,h=>by simp[df]at h
 |_::_,[],h=>by simp[df]at h
 |_::ds,_::a,h=>by
  simp only[df,B2]at h;simp[kN h.2]
theorem hV:∀{ds e:List D},df ds e=((O5 (min ds.length e.length)).all (eqN ds e)&&ds.length==e.length)
 |[],[]=>by simp[df]
 |[],_::_=>by simp[df]
 |_::_,[]=>by simp[df]
 |a::ds,b::e=>by
  have ih:=@hV ds e;simp only[df,B6,Nat.add_min_add_right,List.range_succ_eq_map,P1,Q0];have g:eqN (a::ds) (b::e) 0=eqD a b:=by simp[eqN]
  have h:(eqN (a::ds) (b::e))∘Nat.succ=eqN ds e:=by
   funext j;simp[eqN]
  rw[g,h,ih];have f:(ds.length+1==e.length+1)=(ds.length==e.length):=by
   rw[U6];simp
  rw[f,Bool.and_assoc]
theorem nY{ds a:List D}(h:ds.length=a.length):df ds a=(O5 ds.length).all (eqN ds a):=by
 rw[hV,<-h,Nat.min_self];simp
theorem Rep.r{K:s0}{M:DH}{H:Hp}{d:D}{v:V}(h:Rep K M H d v):aG K M H d v:=by
 cases d with
 |tup f=>simp only[Rep]at h;obtain⟨a,b,e,t,r⟩:=h;exact⟨a,b,e,t.sq,r⟩
 |lst f=>simp only[Rep]at h;obtain⟨a,b,e,t,r⟩:=h;exact⟨a,b,e,t.1,r⟩
 |scr f=>simp only[Rep]at h;obtain⟨a,b,e,t,r⟩:=h;exact⟨a,b,e,t.sq,r⟩
 |_=>exact h
theorem sT{i:List (A1×Obj)}{σ:St}{H:Hp}{s:z4}{a:A1}{j ws:List V}(I:Inv X i σ H s)(h:SqT X.K H a j)(h':H a=some (.lst ws)):False:=by
 obtain⟨g,r,⟨o,e,c,n,d⟩,_⟩:=I.tuple h;obtain⟨_,b,l,_,f⟩:=I.hok a _ h';rw[e]at f;cases f;exact absurd (show D5 "list"=D5 "tuple" from c) (by decide)
theorem pd{C:List (A1×Obj)}{σ:St}{H:Hp}{s:z4}(I:Inv X C σ H s){M M':DH}:∀(n:Nat) {d e:D}{v:V},dLe d n=true->dLe e n=true->aG X.K M H d v->aG X.K M' H e v->eqD d e=true:=by
  intro n
  induction n with
  | zero =>
    intro d e v hd he r1 g;cases d<;>first|(simp[dLe]at hd;done)|skip
    all_goals cases e<;>first|(simp[dLe]at he;done)|skip
    all_goals (simp only[aG,Rep]at r1 g;subst r1;first|(cases g;simp[eqD];done)|cases g)
  | succ n ih =>
    intro d e v hd he r1 g;have l:∀{m i:List D} {o:List V},cv m n=true->cv i n=true->ai X.K M H m o->ai X.K M' H i o->df m i=true:=by
      intro m
      induction m with
      | nil =>
        intro i o _ _ q t;simp only[ai]at q;subst q;cases i with
        |nil=>simp[df]
        |cons _ _=>simp[ai]at t
      | cons a m z =>
        intro i o x u q t;simp only[ai]at q;obtain⟨v,p,rfl,B,G⟩:=q;cases i with
        |nil=>simp[ai]at t
        | cons b i =>
          simp only[ai]at t;obtain⟨L,A,j,E,J⟩:=t;cases j;simp only[cv,B2]at x u;simp only[df,B2];exact⟨ih x.1 u.1 B.r E.r,z x.2 u.2 G J⟩
    cases d with
    | tup m =>
      obtain⟨a,o,rfl,sq,w⟩:=r1;cases e with
      | tup i =>
        obtain⟨b,p,j,f,h⟩:=g;cases j;have:=I.tuple_inj sq f;subst this;simp only[eqD];exact l (by simpa[dLe]using hd) (by simpa[dLe]using he) w h
      | lst i =>
        obtain⟨b,p,j,f,h⟩:=g;cases j;exact(sT I sq f).elim
      |_=>first|(simp[dLe]at he;done)|(simp only[aG,Rep]at g;cases g)
    | lst m =>
      obtain⟨a,o,rfl,sq,w⟩:=r1;cases e with
      | lst i =>
        obtain⟨b,p,j,f,h⟩:=g;cases j;rw[sq]at f;cases f;simp only[eqD];exact l (by simpa[dLe]using hd) (by simpa[dLe]using he) w h
      | tup i =>
        obtain⟨b,p,j,f,h⟩:=g;cases j;exact(sT I f sq).elim
      |_=>first|(simp[dLe]at he;done)|(simp only[aG,Rep]at g;cases g)
    | _ =>
      first
      |(simp[dLe]at hd;done)
      | (cases e with
         |tup i=>(obtain⟨b,p,j,f,h⟩:=g;subst j;simp only[aG,Rep]at r1;cases r1)
         |lst i=>(obtain⟨b,p,j,f,h⟩:=g;subst j;simp only[aG,Rep]at r1;cases r1)
         |_=>first|(simp[dLe]at he;done)|(simp only[aG,Rep]at r1 g;subst r1;first|(cases g;simp[eqD];done)|cases g))
theorem aG.at{K:s0}{M:DH}{H:Hp}{d:D}{v:V}{u:o0}(r:aG K M H d v)(q:aF v u):match d with|.non=>u=.none|.bl b=>u=.bool b|.int i=>∃t,u=.int i t|.str x=>∃t,u=.str x t|_=>True:=by
 cases d<;>first|trivial|(simp only[aG,Rep]at r;subst r;exact q)
open PySem.SeqAt in
theorem lU{aa:List (A1×Obj)}{σ:St}{H:Hp}{s:z4}(I:Inv X aa σ H s){M M':DH}:∀(n:Nat) {A:D4}{d e:D}{v w:V}{O Q:o0},A.units+n<ad2->dLe d n=true->dLe e n=true ->
  aG X.K M H d v->aG X.K M' H e w->aF v O->aF w Q->EqAt A s O Q (eqD d e)/\RcAt A s O Q (eqD d e)/\RcNeAt A s O Q (!(eqD d e)):=by
 intro n
 induction n with
 |zero =>
  intro A d e v w O Q hu hd he B u C x;have f:A.units<ad2:=by lia
  cases d<;>first|(simp[dLe]at hd;done)|skip
  all_goals cases e<;>first|(simp[dLe]at he;done)|skip
  all_goals simp only[aG,Rep]at B u
  all_goals subst B
  all_goals subst u
  all_goals simp only[aF]at C x
  all_goals first|(obtain⟨t1,rfl⟩:=C)|subst C
  all_goals first|(obtain⟨Z,rfl⟩:=x)|subst x
  all_goals simp only[eqD]
  ·exact⟨EqAt.same _,RcAt.none_none,RcNeAt.none_none⟩
  ·exact⟨EqAt.none_bool _,RcAt.none_bool _,RcNeAt.none_bool _⟩
  ·exact⟨EqAt.none_int _ _,RcAt.none_int _ _,RcNeAt.none_int _ _⟩
  ·exact⟨EqAt.none_str _ _,RcAt.none_str _ _,RcNeAt.none_str _ _⟩
  ·exact⟨EqAt.bool_none _,RcAt.bool_none _,RcNeAt.bool_none _⟩
  ·exact⟨EqAt.bool_bool _ _,RcAt.bool_bool _ _,RcNeAt.bool_bool _ _⟩
  ·exact⟨EqAt.bool_int _ _ _,RcAt.bool_int _ _ _,RcNeAt.bool_int _ _ _⟩
  ·exact⟨EqAt.bool_str _ _ _,RcAt.bool_str _ _ _,RcNeAt.bool_str _ _ _⟩
  ·exact⟨EqAt.int_none _ _,RcAt.int_none _ _,RcNeAt.int_none _ _⟩
  ·exact⟨EqAt.int_bool _ _ _,RcAt.int_bool _ _ _,RcNeAt.int_bool _ _ _⟩
  ·exact⟨EqAt.int_int _ _ _ _,RcAt.int_int _ _ _ _,RcNeAt.int_int _ _ _ _⟩
  ·exact⟨EqAt.int_str _ _ _ _,RcAt.int_str _ _ _ _,RcNeAt.int_str _ _ _ _⟩
  ·exact⟨EqAt.str_none _ _,RcAt.str_none _ _,RcNeAt.str_none _ _⟩
  ·exact⟨EqAt.str_bool _ _ _,RcAt.str_bool _ _ _,RcNeAt.str_bool _ _ _⟩
  ·exact⟨EqAt.str_int _ _ _ _,RcAt.str_int _ _ _ _,RcNeAt.str_int _ _ _ _⟩
  ·exact⟨EqAt.str_str _ _ _ _,RcAt.str_str _ _ _ _,RcNeAt.str_str _ _ _ _⟩
 |succ n ih =>
  intro A d e v w O Q hu hd he B u C x;have f:A.units<ad2:=by lia
  have a1:A.in1.units+n<ad2:=by show A.units+1+n<ad2;lia
  have N:∀{z m:List D} {vs E:List V} {us G:List o0},cv z n=true->cv m n=true->ai X.K M H z vs->ai X.K M' H m E->au vs us->au E G ->
    ∀j (h1:j<us.toArray.size) (h2:j<G.toArray.size),EqAt A.in1 s us.toArray[j] G.toArray[j] (eqN z m j):=by
   intro z m vs E us G d1 d2 h1 h2 h3 h4 j T Y;have l1:=h1.length;have l2:=h2.length;have l3:=h3.length;have l4:=h4.length;have j1:j<z.length:=by simp at T;lia
   have j2:j<m.length:=by simp at Y;lia
   obtain⟨v1,g1,p1⟩:=h1.get (i:=j) (d:=z[j]) (by simp[j1]);obtain⟨v2,g2,p2⟩:=h2.get (i:=j) (d:=m[j]) (by simp[j2]);obtain⟨O,k1,m1⟩:=h3.get g1;obtain⟨Q,k2,m2⟩:=h4.get g2;have e1:us.toArray[j]=O:=by
    simp at T;simpa[P8 T]using k1
   have e2:G.toArray[j]=Q:=by
    simp at Y;simpa[P8 Y]using k2
   rw[e1,e2];have e3:eqN z m j=eqD z[j] m[j]:=by simp[eqN,j1,j2]
   rw[e3];exact(ih a1 (fA d1 (i:=j) (by simp[j1])) (fA d2 (i:=j) (by simp[j2])) p1.r p2.r m1 m2).1
  have P:∀{a b:A1},v=.ref a->w=.ref b->RcAt A s (.ref a) (.ref b) (eqD d e)->EqAt A s (.ref a) (.ref b) (eqD d e):=by
   intro a b ea eb R
   by_cases a0:a=b
   ·subst a0;subst ea;subst eb;rw[pd I (n+1) hd he B u];exact EqAt.same _
   ·exact EqAt.of_refs a0 R
  cases d with
  |tup z =>
   obtain⟨a,vs,rfl,sq,rl⟩:=id B;cases C;obtain⟨L,rv,pt,_⟩:=I.tuple sq;have S:cv z n=true:=by simpa[dLe]using hd
   cases e with
   |tup m =>
    obtain⟨b,E,rfl,h,o⟩:=id u;cases x;obtain⟨l,p,g,_⟩:=I.tuple h;have U:cv m n=true:=by simpa[dLe]using he
    have it:=N S U rl o rv p;have t1:=RcAt.tuples (e:=eqN z m) pt g f it;have Z:=RcNeAt.tuples (e:=eqN z m) pt g f it;rw[A3,A3,<-rv.length,<-p.length,<-rl.length,<-o.length,<-hV]at t1 Z;have R:RcAt A s (.ref a) (.ref b) (eqD (.tup z) (.tup m)):=by simpa only[eqD]using t1
    exact⟨P rfl rfl R,R,by simpa only[eqD]using Z⟩
   |lst m =>
    obtain⟨b,E,rfl,h,o⟩:=id u;cases x;obtain⟨l,p,g,_⟩:=I.list (SqL.of h);simp only[eqD];exact⟨EqAt.tuple_list pt g.isList f,RcAt.tuple_list pt g.isList f,RcNeAt.tuple_list pt g.isList f⟩
   |non=>obtain rfl:=u.at x;simp only[eqD];exact⟨EqAt.tuple_none pt f,RcAt.tuple_none pt f,RcNeAt.tuple_none pt f⟩
   |bl b=>obtain rfl:=u.at x;simp only[eqD];exact⟨EqAt.tuple_bool _ pt f,RcAt.tuple_bool _ pt f,RcNeAt.tuple_bool _ pt f⟩
   |int b=>obtain⟨t,rfl⟩:=u.at x;simp only[eqD];exact⟨EqAt.tuple_int _ _ pt f,RcAt.tuple_int _ _ pt f,RcNeAt.tuple_int _ _ pt f⟩
   |str b=>obtain⟨t,rfl⟩:=u.at x;simp only[eqD];exact⟨EqAt.tuple_str _ _ pt f,RcAt.tuple_str _ _ pt f,RcNeAt.tuple_str _ _ pt f⟩
   |_=>simp[dLe]at he
  |lst z =>
   obtain⟨a,vs,rfl,sq,rl⟩:=id B;cases C;obtain⟨L,rv,pt,_⟩:=I.list (SqL.of sq);have S:cv z n=true:=by simpa[dLe]using hd
   cases e with
   |lst m =>
    obtain⟨b,E,rfl,h,o⟩:=id u;cases x;obtain⟨l,p,g,_⟩:=I.list (SqL.of h);have U:cv m n=true:=by simpa[dLe]using he
    have hs:L.toArray.size=z.length/\l.toArray.size=m.length:=by rw[A3,A3,<-rv.length,<-p.length,<-rl.length,<-o.length];exact⟨rfl,rfl⟩
    have R:RcAt A s (.ref a) (.ref b) (eqD (.lst z) (.lst m))/\RcNeAt A s (.ref a) (.ref b) (!(eqD (.lst z) (.lst m))):=by
     by_cases hl:z.length=m.length
     ·have J:L.toArray.size=l.toArray.size:=by rw[hs.1,hs.2];exact hl
      have it:=N S U rl o rv p;have t1:=RcAt.lists (e:=eqN z m) pt.isList g.isList J f it;have Z:=RcNeAt.lists (e:=eqN z m) pt.isList g.isList J f it;rw[hs.1,<-nY hl]at t1 Z;exact⟨by simpa only[eqD]using t1,by simpa only[eqD]using Z⟩
     ·have J:(L.toArray.size != l.toArray.size)=true:=by rw[hs.1,hs.2];simpa using hl
      have e0:eqD (.lst z) (.lst m)=false:=by
       simp only[eqD];cases q:df z m with
       |false=>rfl
       |true=>exact absurd (kN q) hl
      rw[e0];exact⟨RcAt.lists_lengths pt.isList g.isList J f,RcNeAt.lists_lengths pt.isList g.isList J f⟩
    exact⟨P rfl rfl R.1,R⟩
   |tup m =>
    obtain⟨b,E,rfl,h,o⟩:=id u;cases x;obtain⟨l,p,g,_⟩:=I.tuple h;simp only[eqD];exact⟨EqAt.list_tuple pt.isList g f,RcAt.list_tuple pt.isList g f,RcNeAt.list_tuple pt.isList g f⟩
   |non=>obtain rfl:=u.at x;simp only[eqD];exact⟨EqAt.list_none pt.isList f,RcAt.list_none pt.isList f,RcNeAt.list_none pt.isList f⟩
   |bl b=>obtain rfl:=u.at x;simp only[eqD];exact⟨EqAt.list_bool _ pt.isList f,RcAt.list_bool _ pt.isList f,RcNeAt.list_bool _ pt.isList f⟩
   |int b=>obtain⟨t,rfl⟩:=u.at x;simp only[eqD];exact⟨EqAt.list_int _ _ pt.isList f,RcAt.list_int _ _ pt.isList f,RcNeAt.list_int _ _ pt.isList f⟩
   |str b=>obtain⟨t,rfl⟩:=u.at x;simp only[eqD];exact⟨EqAt.list_str _ _ pt.isList f,RcAt.list_str _ _ pt.isList f,RcNeAt.list_str _ _ pt.isList f⟩
   |_=>simp[dLe]at he
  |non =>
   cases e with
   |tup m =>
    obtain⟨b,E,rfl,h,o⟩:=id u;cases x;obtain⟨l,p,g,_⟩:=I.tuple h;obtain rfl:=B.at C;simp only[eqD];exact⟨EqAt.none_tuple g f,RcAt.none_tuple g f,RcNeAt.none_tuple g f⟩
   |lst m =>
    obtain⟨b,E,rfl,h,o⟩:=id u;cases x;obtain⟨l,p,g,_⟩:=I.list (SqL.of h);obtain rfl:=B.at C;simp only[eqD];exact⟨EqAt.none_list g.isList f,RcAt.none_list g.isList f,RcNeAt.none_list g.isList f⟩
   |_=>first|(simp[dLe]at he;done)|exact ih (A:=A) (by lia) (by simp[dLe]) (by simp[dLe]) B u C x
  |bl a =>
   cases e with
   |tup m =>
    obtain⟨b,E,rfl,h,o⟩:=id u;cases x;obtain⟨l,p,g,_⟩:=I.tuple h;obtain rfl:=B.at C;simp only[eqD];exact⟨EqAt.bool_tuple _ g f,RcAt.bool_tuple _ g f,RcNeAt.bool_tuple _ g f⟩
   |lst m =>
    obtain⟨b,E,rfl,h,o⟩:=id u;cases x;obtain⟨l,p,g,_⟩:=I.list (SqL.of h);obtain rfl:=B.at C;simp only[eqD];exact⟨EqAt.bool_list _ g.isList f,RcAt.bool_list _ g.isList f,RcNeAt.bool_list _ g.isList f⟩
   |_=>first|(simp[dLe]at he;done)|exact ih (A:=A) (by lia) (by simp[dLe]) (by simp[dLe]) B u C x
  |int a =>
   cases e with
   |tup m =>
    obtain⟨b,E,rfl,h,o⟩:=id u;cases x;obtain⟨l,p,g,_⟩:=I.tuple h;obtain⟨t,rfl⟩:=B.at C;simp only[eqD];exact⟨EqAt.int_tuple _ _ g f,RcAt.int_tuple _ _ g f,RcNeAt.int_tuple _ _ g f⟩
   |lst m =>
    obtain⟨b,E,rfl,h,o⟩:=id u;cases x;obtain⟨l,p,g,_⟩:=I.list (SqL.of h);obtain⟨t,rfl⟩:=B.at C;simp only[eqD];exact⟨EqAt.int_list _ _ g.isList f,RcAt.int_list _ _ g.isList f,RcNeAt.int_list _ _ g.isList f⟩
   |_=>first|(simp[dLe]at he;done)|exact ih (A:=A) (by lia) (by simp[dLe]) (by simp[dLe]) B u C x
  |str a =>
   cases e with
   |tup m =>
    obtain⟨b,E,rfl,h,o⟩:=id u;cases x;obtain⟨l,p,g,_⟩:=I.tuple h;obtain⟨t,rfl⟩:=B.at C;simp only[eqD];exact⟨EqAt.str_tuple _ _ g f,RcAt.str_tuple _ _ g f,RcNeAt.str_tuple _ _ g f⟩
   |lst m =>
    obtain⟨b,E,rfl,h,o⟩:=id u;cases x;obtain⟨l,p,g,_⟩:=I.list (SqL.of h);obtain⟨t,rfl⟩:=B.at C;simp only[eqD];exact⟨EqAt.str_list _ _ g.isList f,RcAt.str_list _ _ g.isList f,RcNeAt.str_list _ _ g.isList f⟩
   |_=>first|(simp[dLe]at he;done)|exact ih (A:=A) (by lia) (by simp[dLe]) (by simp[dLe]) B u C x
  |_=>simp[dLe]at hd
end
section
variable{X:Cx}{a b c e:C5}{W:List C5}{te O G:TEd}{pos:Pos}{st:P9}{rest:List P9}{t u:TSd}
def pD:TSd:=λE a M=>E.nx a M
def sF(t u:TSd):TSd:=λE a M=>t { E with nx:=u E } a M
def vL(te:TEd):TSd:=λE a M=>te a M E.rt
def tK(te:TEd):TSd:=λE a M=>te a M λ_ M1=>E.nx a M1
def vg(c:TTd)(t u:TSd):TSd:=λE a M=>c a M λb M1=>if b=true then t E a M1 else u E a M1
def ut(i:Nat)(te:TEd):TSd:=λE a M=>te a M λd M1=>E.nx (a.set i (some d)) M1
abbrev GD:=D->DE->Option DE
def PGd(X:Cx)(B:C5)(g:GD):Prop:=∃h:TG,PG X B h/\∀(d:D) (v:V) (e:St) (f b:DE) (M:DH) (H:Hp) (Q:St->Hp->Prop),SR X.K M H e f->HR X.K M H->Rep X.K M H d v->g d f=some b->(∀ a,SR X.K M H a b->Q a H)->h v e H Q
def fH(i:Nat):GD:=λd a=>some (a.set i (some d))
theorem fN{i:Nat}{x:Str}(a:X.N.Nodup)(b:X.N[i]?=some x)(h:Loc X.env.scope x)(l:X.fn x=true∨X.env.scope.names.lookup x=some .local:=by first|exact .inl rfl|exact .inr rfl|assumption):PGd X (.Name x pos) (fH i) :=
 ⟨ko i,mU a b h l,λd v n m j M H Q f o g e k=>by cases e;exact k _ (f.set i g)⟩
def ym(te:TEd)(g:GD):TSd:=λE b M=>te b M λd M1=>∃ a,g d b=some a/\E.nx a M1
abbrev TId:=DE->DH->(List D->DH->Prop)->Prop
def ItD(K:s0)(J:It)(ds:List D)(M1:DH)(H1:Hp):Prop:=∀M2 H2,Ext M1 H1 M2 H2->HR K M2 H2->∀i,(∀d,ds[i]?=some d->J.go i H2/\∀x H',J.yld i H2 x H'->Ext M2 H2 M2 H'/\HR K M2 H'/\Rep K M2 H' d x)/\(ds.length<=i->J.stop i H2)
def upI(K:s0)(g:TId):TI:=λf H R=>∃(a:DE) (M:DH) (b:List D->DH->Prop),SR K M H f a/\HR K M H/\g a M b/\∀e M1 J H1,b e M1->Ext M H M1 H1->HR K M1 H1->ItD K J e M1 H1->R J H1
theorem upI.el{K:s0}{t:TId}{σ:St}{H:Hp}{Q:It->Hp->Prop}{P:Prop}(h:upI K t σ H Q)(f:∀(e:DE) (M:DH) (R:List D->DH->Prop),SR K M H σ e->HR K M H->t e M R->(∀ds M1 J H1,R ds M1->Ext M H M1 H1->HR K M1 H1->ItD K J ds M1 H1->Q J H1)->P):P:=by
 obtain⟨j,g,i,a,b,c,d⟩:=h;exact f j g i a b c d
def PId(X:Cx)(B z:C5)(a:TId):Prop:=PI X B z (upI X.K a)
theorem PI.conv{B z:C5}{w a:TI}(h:PI X B z w)(k:∀ σ H R,a σ H R->w σ H R):PI X B z a:=λp s σ H R I q=>h p s σ H R I (k σ H R q)
variable{B z:C5}
def k9(lo:Int)(n:Nat):List D:=(O5 n).map λ(k:Nat)=>.int (lo+(k:Int))
theorem dv{lo:Int}{n i:Nat}{d:D}(h:(k9 lo n)[i]?=some d):i<n/\d=.int (lo+i):=by
 unfold k9 at h;rw[N7]at h
 by_cases a:i<n
 ·rw[List.getElem?_range a]at h;cases h;exact⟨a,rfl⟩
 ·rw[R7 (by simp;omega)]at h;cases h
theorem qU{K:s0}{lo:Int}{n:Nat}{M1:DH}{H1:Hp}:ItD K (Itr lo n) (k9 lo n) M1 H1:=λM2 H2 h a i=>⟨λd b=>by
  obtain⟨e,rfl⟩:=dv b;refine⟨e,λx H' ⟨f,y⟩=>?_⟩;subst f;subst y;exact⟨Ext.refl _ _,a,by simp[Rep]⟩,λg=>by
  show n<=i;simpa[k9]using g⟩
def oy(O:TAd):TId:=λa M R=>O a M λb M1=>∃j:Int,b=[.int j]/\-(2 ^ 62)<=j/\j<2 ^ 62/\R (k9 0 j.toNat) M1
def cJ(g:GD)(G:TSd)(E:cx):List D->DE->DH->Prop
 |[],b,M=>E.nx b M
 |d::e,b,M=>∃ a,g d b=some a/\G { E with nx:=cJ g G E e,ct:=cJ g G E e,bk:=E.nx } a M
def wR(e:TId)(g:GD)(G:TSd):TSd:=λE a M=>e a M λb M1=>cJ g G E b a M1
end
def m3:D->Prop
 |.tup a=>a.length<=A0
 |.lst a=>a.length<=A0
 |.scr a=>a.length<=A0
 |_=>True
section
variable{X:Cx}{a b c e:C5}{es:List C5}{te ta tb:TEd}{pos:Pos}{O Y elt:C5}
theorem aG.len{K:s0}{g:List (A1×Obj)}{σ:St}{H:Hp}{s:z4}{M:DH}{d:D}{v:V}(I:Inv X g σ H s)(h:Rep X.K M H d v):m3 d:=by
 cases d with
 |tup f =>
  simp only[Rep]at h;obtain⟨a,b,e,t,r⟩:=h;obtain⟨_,_,_,z⟩:=I.tuple t.sq;simp only[m3];rw[r.length];exact z
 |lst f =>
  simp only[Rep]at h;obtain⟨a,b,e,t,r⟩:=h;obtain⟨_,_,_,z⟩:=I.list (SqL.of t.1);simp only[m3];rw[r.length];exact z
 |scr f =>
  simp only[Rep]at h;obtain⟨a,b,e,t,r⟩:=h;obtain⟨_,_,_,z⟩:=I.list t.sq;simp only[m3];rw[r.length];exact z
 |_=>trivial
noncomputable def bB:List Bool->DE->DE
 |true::b,v::a=>v::bB b a
 |false::b,_::a=>none::bB b a
 |[],_::a=>none::bB [] a
 |_,[]=>[]
def mI(ms:List Bool)(k:Nat)(a:DE):DE:=bB ms a++z5 k none
theorem bL:∀(ms:List Bool) (σ:DE),(bB ms σ).length=σ.length
 |true::ms,v::σ=>by simp[bB,bL ms σ]
 |false::ms,_::σ=>by simp[bB,bL ms σ]
 |[],_::σ=>by simp[bB,bL [] σ]
 |[],[]=>by simp[bB]
 |true::_,[]=>by simp[bB]
 |false::_,[]=>by simp[bB]
theorem eD:∀{ms:List Bool}{σ:DE}{i:Nat}{v:D},(bB ms σ)[i]?=some (some v)->ms[i]?=some true/\σ[i]?=some (some v)
 |true::ms,v::σ,0,x,h=>by simpa[bB]using h
 |true::ms,v::σ,i+1,x,h=>by
  have:=eD (ms:=ms) (σ:=σ) (i:=i) (v:=x) (by simpa[bB]using h);simpa using this
 |false::ms,_::σ,0,x,h=>by simp[bB]at h
 |false::ms,_::σ,i+1,x,h=>by
  have:=eD (ms:=ms) (σ:=σ) (i:=i) (v:=x) (by simpa[bB]using h);simpa using this
 |[],_::σ,0,x,h=>by simp[bB]at h
 |[],_::σ,i+1,x,h=>by
  have:=eD (ms:=[]) (σ:=σ) (i:=i) (v:=x) (by simpa[bB]using h);simpa using this
 |[],[],_,_,h=>by simp[bB]at h
 |true::_,[],_,_,h=>by simp[bB]at h
 |false::_,[],_,_,h=>by simp[bB]at h
theorem eQ:∀{ms:List Bool}{σ:St}{i:Nat}{v:V},ms[i]?=some true->σ[i]?=some (some v)->(a6 ms σ)[i]?=some (some v)
 |true::ms,v::σ,0,x,h,a=>by simpa[a6]using a
 |true::ms,v::σ,i+1,x,h,a=>by
  have:=eQ (ms:=ms) (σ:=σ) (i:=i) (v:=x) (by simpa using h) (by simpa using a);simpa[a6]using this
 |false::ms,_::σ,0,x,h,a=>by simp at h
 |false::ms,_::σ,i+1,x,h,a=>by
  have:=eQ (ms:=ms) (σ:=σ) (i:=i) (v:=x) (by simpa using h) (by simpa using a);simpa[a6]using this
 |[],_,_,_,h,_=>by simp at h
 |_::_,[],_,_,_,h=>by simp at h
theorem SR.comp{K:s0}{M:DH}{H:Hp}{σ:St}{a:DE}(ms:List Bool)(k:Nat)(h:SR K M H σ a):SR K M H (eJ ms k σ) (mI ms k a):=by
 refine⟨by simp[eJ,mI,ba,bL,h.1],λi d q=>?_⟩;unfold mI at q
 by_cases b:i<(bB ms a).length
 ·rw[F7 b]at q;obtain⟨m,e⟩:=eD q;obtain⟨v,g,f⟩:=h.2 i d e;refine⟨v,?_,f⟩;have:=eQ m g;unfold eJ;rw[F7 (by rw[ba,h.1,<-bL ms];exact b)];exact this
 ·rw[O4 (by lia),Q6]at q
  split at q<;>cases q
def bG(g:GD)(tc:TTd)(te:TEd):List D->DE->DH->List D->(List D->DH->Prop)->Prop
 |[],_,M,e,Q=>Q e M
 |d::f,h,M,e,Q=>∃ a,g d h=some a/\tc a M λb M1=>if b=true then te a M1 λy M2=>bG g tc te f a M2 (e++[y]) Q else bG g tc te f a M1 e Q
def dLc(ms:List Bool)(k:Nat)(f:TId)(g:GD)(tc:TTd)(te:TEd):TEd:=λa M Q=>f a M λb M1=>b.length<=A0/\bG g tc te b (mI ms k a) M1 [] λe M2=>Q (.lst e) M2
def xi(X:Cx)(E:List C5)(t:TTd):Prop:=PIf X E (upT X.K t)
def n8:TTd:=λ_ M Q=>Q true M
abbrev pM(K:s0)(g:GD)(h:TG):Prop:=∀(d:D) (v:V) (e:St) (f b:DE) (M:DH) (H:Hp) (Q:St->Hp->Prop),SR K M H e f->HR K M H->Rep K M H d v->g d f=some b->(∀ a,SR K M H a b->Q a H)->h v e H Q
theorem rk{K:s0}{g:GD}{tc:TTd}{te:TEd}{P:TG}(U:pM K g P){J:It}{ds:List D}{M1:DH}{H1:Hp}(it:ItD K J ds M1 H1)(I:HR K M1 H1)(hz:ds.length<=A0){R:List D->DH->Prop}{σ:St}{N:DE}(sr:SR K M1 H1 σ N)(q:bG g tc te ds N M1 [] R):
  ∃(W:Nat->Nat->List V->St->Hp->Prop) (Z:List V->St->Hp->Prop),(∃m,W 0 m [] σ H1)/\jT J P (upT K tc) (kM (up K te)) W Z/\∀ys j H',Z ys j H'->∃M' a,Ext M1 H1 M' H'/\HR K M' H'/\ai K M' H' a ys/\R a M':=by
 refine⟨λi m ys j H'=>∃ p M' a,m=ds.length-i/\i<=ds.length/\Ext M1 H1 M' H'/\HR K M' H'/\SR K M' H' j p/\ai K M' H' a ys/\a.length<=i/\bG g tc te (ds.drop i) p M' a R,_,
  ⟨ds.length,_,M1,[],by simp,X1 _,Ext.refl _ _,I,sr,ai.nil,by simp,q⟩,?_,λ_ _ _ z=>z⟩
 rintro i m ys M H2 ⟨H,M2,a,rfl,S,A,t,E,B,la,s⟩;have Y:ys.length<=A0:=by rw[<-B.length];lia
 refine⟨Y,?_⟩;obtain⟨go,stop⟩:=it M2 H2 A t i
 by_cases h:i<ds.length
 ·have Q:ds[i]?=some ds[i]:=by simp[h]
  obtain⟨g1,X⟩:=go _ Q;rw[List.drop_eq_getElem_cons h]at s;simp only[bG]at s;obtain⟨e,eg,f3⟩:=s;refine .inr ⟨g1,λx H' hy=>?_⟩;obtain⟨u,o,T⟩:=X x H' hy;refine U _ x M H e M2 H' _ (E.ext u) o T eg λa0 f=>?_;refine⟨e,M2,_,f,o,f3,λb O H4 w l n=>?_⟩;cases b with
  |true =>
   simp only[if_true]at w ⊢;refine⟨e,O,_,f.ext l,n,w,λy M5 v5 H5 q5 L G C=>?_⟩;refine⟨ds.length-(i+1),by lia,e,M5,a++[y],rfl,h,((A.trans u).trans l).trans L,G,(f.ext l).ext L,(((B.ext u).ext l).ext L).append (ai.cons C ai.nil),by simp;lia,q5⟩
  |false =>
   simp only[A6,if_false]at w ⊢;exact⟨ds.length-(i+1),by lia,e,O,a,rfl,h,(A.trans u).trans l,n,f.ext l,(B.ext u).ext l,by lia,w⟩
 ·rw[List.drop_eq_nil_of_le (by lia)]at s;exact .inl ⟨stop (by lia),M2,a,A,t,B,s⟩
theorem mW{K:s0}{l:TId}{g:GD}{tc:TTd}{te:TEd}{h:TG}{ms:List Bool}{e:Nat}(u:pM K g h):
  ∀ σ H Q,up K (dLc ms e l g tc te) σ H Q->tLc ms e (upI K l) h (upT K tc) (up K te) σ H Q:=by
 rintro σ H Q ⟨C,M,R,j,w,q,k⟩;refine⟨C,M,_,j,w,q,λN M1 J H1 ⟨E,m⟩ i f B=>?_⟩;obtain⟨W,Z,t,s,A⟩:=rk u B f E ((j.ext i).comp ms e) m;refine⟨W,Z,t,s,λG x H' p z b=>?_⟩;obtain⟨M',o,n,a,I,L⟩:=A _ _ _ z;refine k _ M' _ _ L ((i.trans n).trans (Ext.new a b)) (a.new b) ?_;simp only[Rep];exact⟨p,G,rfl,⟨aM,a.fresh b⟩,I.ext (Ext.new a b)⟩
variable{B:T0}{G:List (Str×A1)}{ms:List Bool}{aq:List Str}{E:List C5}
def PGa(X:Cx)(B:T0)(G:List (Str×A1))(aq:List Str)(O:C5)(g:GD):Prop:=∃a:TG,(∀C s H b,PG (aP X B G (X.N++aq) C s H b) O a)/\pM X.K g a
theorem bH{i:Nat}{x:Str}{pos:Pos}(b:(X.N++aq).Nodup)(f:(X.N++aq)[i]?=some x)(a:(relabel B X.env).names.lookup x=some .local):PGa X B G aq (.Name x pos) (fH i) :=
 ⟨ko i,λC s H o=>mU b f (.inl a) (.inr a),λd v m l j M H Q g n h e k=>by cases e;exact k _ (g.set i h)⟩
end
abbrev SpD:=List D->DH->(D->DH->Prop)->Prop
def spD(K:s0)(n:Nat)(S:SpD):Sp:=λb H Q _=>∃(a:List D) (M:DH) (R:D->DH->Prop),a.length=n/\ai K M H a b/\HR K M H/\S a M R/\∀d M' v H',R d M'->Ext M H M' H'->HR K M' H'->Rep K M' H' d v->Q v H'
theorem rB{K:s0}{n:Nat}{S:SpD}{a:List V}{H:Hp}{Q:VK}{E:XK}(h:spD K n S a H Q E):a.length=n:=by
 obtain⟨e,M,R,b,r,_⟩:=h;rw[<-r.length];exact b
def cY(N:List Str)(ds:List D):DE:=ds.map some++z5 (N.length-ds.length) none
theorem ku{K:s0}{M:DH}{H:Hp}{N:List Str}:∀{ds:List D}{a:List V},ai K M H ds a->SR K M H (di N a) (cY N ds):=by
 intro ds a h;have j:=h.length;refine⟨by simp[di,cY,j],λi d q=>?_⟩;unfold cY at q
 by_cases b:i<ds.length
 ·rw[F7 (by simpa using b),N7]at q;cases e:ds[i]? with
  |none=>rw[e]at q;cases q
  |some l =>
   rw[e]at q;cases q;obtain⟨v,f,g⟩:=h.get e;refine⟨v,?_,g⟩;unfold di;rw[F7 (by simp;lia),N7,f];rfl
 ·rw[O4 (by simpa using b),Q6]at q
  split at q<;>cases q
section
variable{P:C1}{w:F8}{K:s0}{z:Str->Option o0}{base:C9}{f:A1}{g:B7}
theorem Fun.okD{x b:Str}{st:P9}{f:A1}{g:B7}{N ps:List Str}{k n:Nat}{S:SpD}(F:Fun K x b st f g)(T:ps.length=n)(O:ax N ps (ag st))
  (j:∀ (e:o0) (A:D4) (a:List Env) (s:z4) (H:Hp) (E:XK),bA k (A.deeper (U2 b (ag st) s.heap.objs.size f e)) →
   ∃t:TSd,qR (hJ CX0 P w K z base N b (ag st) f e A a s H E).nox (bI st) t/\∀ds M R,ds.length=n->S ds M R->t { nx:=λ_ M'=>R .non M',rt:=R } (cY N ds) M):aS P w K z base CX0 (k+1) f g ps (spD K n S):=by
 refine F.ok O (λJ H Q E h=>by rw[T];exact rB h) (λe A a s H J Q E C h=>?_);obtain⟨t,u,L⟩:=j e A a s H E C;obtain⟨ds,M,R,U,r,o,q,p⟩:=h;refine⟨_,u,cY N ds,M,_,ku r,o,L ds M R U q,⟨λI M' G H' l m i _=>p .non M' .non H' l m i (by simp[Rep]),λ_ _ _ _ l=>I0 l,λ_ _ _ _ l=>I0 l,λd M' v H' l m i B=>p d M' v H' l m i B⟩⟩
end
section
variable{X:Cx}{a b c e:C5}{g:List C5}{te z B:TEd}{t:TAd}{pos:Pos}
def iM(n:Nat)(S:SpD)(t:TAd):TEd:=λb M Q=>t b M λa M1=>a.length=n/\S a M1 Q
theorem ua{k:Nat}{f:A1}{j:B7}{ps:List Str}{n:Nat}{S:SpD}{x:Str}{p:Pos}(F:aS X.prog X.w X.K X.mg X.base CX0 k f j ps (spD X.K n S))(hr:bA k X.A)(hg:Gl X x)(A:X.mg x=some (.ref f))(o:M8 X.K (.ref f)=true)(E:cg X.K j ps [])
  (ha:PAd X (e::g) t) (hdb:(x==("__debug__":Str))=false:=by decide) (he:z9 (e::g) X.env=(false,M6 e X.env)::z9 g X.env:=by rfl) (hpl:(K6 pos (z9 g X.env)).any (·.1)=false:=by rfl) :
  PEd X (.Call (.Name x p) (e::g) [] pos) (iM n S t) :=
 (rX F hr hg A o E .nil wf ha hdb he hpl).conv λJ H Q a => a.el λu M R w hr q k => ⟨u,M,_,w,hr,q,λC M1 I H1 ⟨G,l⟩ s h m => by
  dsimp only;rw[R6];exact⟨C,M1,R,G,m,h,l,λd M' v H' z B b i=>k d M' v H' z (s.trans B) b i⟩⟩
def xh(g h te:TEd):TSd:=λE b M=>te b M λd M1=>g b M1 λo M2=>h b M2 λi f=>∃a e k j,o=.ref a/\i=.int k/\f a=some (.lst e)/\ixN e.length k=some j/\E.nx b (ay f a (.lst (e.set j d)))
def wd(f te:TEd):TEd:=λe M Q=>f e M λo M1=>∃a l,o=.ref a/\M1 a=some (.lst l)/\te e M1 λd M2=>∃b,M2 a=some (.lst b)/\b.length<A0/\Q .non (ay M2 a (.lst (b++[d])))
end
def ItW(n:Nat)(a:Nat->V->Prop):It:=⟨λi _=>i<n,λi H x H'=>H'=H/\a i x,λi _=>n<=i⟩
theorem nB{P:C1}{w:F8}{K:s0}{tg:C5}{it:A1}{n:Nat}{Y:Nat->o0->Prop}{St:Nat->C9->Prop}{ty:String}{S:Nat->V->Prop}
  (W:∀A:D4,A.handled=none->Walks P w A it [it] [it] n Y St) (T:∀i h,St i h->∃o,h.get? it=some o/\o.cls=.type ty/\∃M,o.data=.fields M)
  (hn:["enumerate","zip","dict_itemiterator","dict_reverseitemiterator","odict_iterator","itertools.zip_longest","itertools.pairwise"].contains ty=false)
  (hv:∀i u,Y i u->∃x,aF x u/\S i x) (f:∀(A:D4) (i:Nat) (s:z4) (Q:o0->z4->Prop) (E:o0->z4->Prop),St i s.heap->Q (.ref it) s->B3 (D3 P w) A (pyIter (.ref it)) Q E s):j7 P w K tg (ItW n S) [it] it (λi h=>i<=n/\St i h) where
 mem:=by simp
 obj:=λi h st b a=>by
  have e:b=it:=by simpa using a
  subst e;obtain⟨o,e,c,M,d⟩:=T i h st.2;exact⟨o,e,λv z=>by rw[d]at z;cases z⟩
 keep:=λi h g st k=>⟨st.1,(W { handled:=none } rfl).frame i h g st.2 k⟩
 item:=by
  intro X G B hK C i U s Z H E I p st m;subst G B hK;obtain⟨J,L,f2,O,N,R⟩:=p it (by simp);refine(W X.A (I.ok.hd C)).item i s _ _ m st.2 λv g t pv l q=>?_;have I1:Inv X U Z H { s with heap:=g,toks:=t }:=I.turned (λb o a e=>q b o (by simpa using a) e) J L O N R;obtain⟨x,rx,vx⟩:=hv i v pv;obtain⟨o,e,c,M,d⟩:=T _ _ l;exact⟨v,rfl,m6 (s:={ s with heap:=g,toks:=t }) e c d hn ⟨x,H,I1,rx,⟨rfl,vx⟩,⟨m,l⟩,λb a=>(p b a).1⟩⟩
 done:=by
  intro X G B hK C i U s Z H E I p st m;subst G B hK;obtain⟨J,L,f2,O,N,R⟩:=p it (by simp);have e:i=n:=Nat.le_antisymm st.1 m;subst e;exact(W X.A (I.ok.hd C)).done s _ _ st.2 λg t q=>⟨rfl,I.turned (λb o a e=>q b o (by simpa using a) e) J L O N R⟩
 self:=λA i s Q E st h=>f A i s Q E st.2 h
section
variable{X:Cx}{a b c e:C5}{B:List C5}{te G J:TEd}{t:TAd}{pos:Pos}{z g:C5}
noncomputable def bR(x:Str):List D:=x.cps.toList.map λc=>.str ⟨#[c]⟩
theorem m8{f:List (A1×Obj)}{σ:St}{H:Hp}{s:z4}{x:Str}{t:Tok}{R:It->Hp->Prop}(I:Inv X f σ H s)(ty:String)(n:["enumerate","zip","dict_itemiterator","dict_reverseitemiterator","odict_iterator","itertools.zip_longest","itertools.pairwise"].contains ty=false)
  (W:∀A:D4,A.handled=none->Walks X.prog X.w A s.heap.objs.size [s.heap.objs.size] [s.heap.objs.size] x.cps.size (SignAt x) (λi h=>h.IsStrIter s.heap.objs.size ty x t i))
  (a:∀(A:D4) (i:Nat) (s':z4) (Q:o0->z4->Prop) (E:o0->z4->Prop),s'.heap.IsStrIter s.heap.objs.size ty x t i->Q (.ref s.heap.objs.size) s'->B3 (D3 X.prog X.w) A (pyIter (.ref s.heap.objs.size)) Q E s')
  (q:R (ItW x.cps.size λi v=>∃c,x.cps[i]?=some c/\v=.str ⟨#[c]⟩) H):PIE X f σ z R (.ref s.heap.objs.size) { s with heap:=s.heap.push { cls:=.type ty,data:=.fields #[.str x t,.int 0 0] } }:=by
 have l:Inv X f σ H { s with heap:=s.heap.push { cls:=.type ty,data:=.fields #[.str x t,.int 0 0] } }:=I.kept (t':=s.toks) λb o e=>z6 _ e;refine⟨s.heap.objs.size,[s.heap.objs.size],_,_,H,rfl,l,nB W (λi h st=>?_) n (λi u ⟨c,g,e,m⟩=>⟨.str ⟨#[c]⟩,⟨g,m⟩,c,e,rfl⟩) a,⟨X1 _,_,C8 _ rfl,rfl,rfl⟩,λb j=>?_,q⟩
 ·obtain⟨o,e,c,d⟩:=st;exact⟨o,e,c,_,d⟩
 ·have e:b=s.heap.objs.size:=by simpa using j
  subst e;exact I.fpOk (B8 _) (I.hok.fresh (B8 _))
end
section
variable{X:Cx}{a b c e:C5}{B:List C5}{te E G:TEd}{t:TAd}{pos:Pos}
def eqF(x y:D):Option D:=if dLe x 60=true/\dLe y 60=true then some (.bl (eqD x y))else none
theorem qe{x y z:D}(h:eqF x y=some z):dLe x 60=true/\dLe y 60=true/\z=.bl (eqD x y):=by
 unfold eqF at h
 by_cases a:dLe x 60=true/\dLe y 60=true
 ·rw[if_pos a]at h;cases h;exact⟨a.1,a.2,rfl⟩
 ·rw[if_neg a]at h;cases h
theorem eG(h:X.A.units+64<ad2):bu X (E3 .Eq) eqF:=by
 intro f s g H M x y v u dx dy dz Q I hr rx ry r1 r2 e k;obtain⟨a,b,rfl⟩:=qe e;exact(lU I 60 (A:=X.A) (by lia) a b r1 r2 rx ry).2.1 X.prog X.w X.xe _ ⟨.bl (eqD dx dy),H,I,rfl,k _ H (Ext.refl _ _) hr (by simp[Rep])⟩
def inD(a:Bool)(x y:D):Option D:=match y with
 |.lst b=>if aQ x=true/\b.all aQ=true then some (.bl (xor a (b.any λd=>eqD d x)))else none
 |.tup b=>if aQ x=true/\b.all aQ=true then some (.bl (xor a (b.any λd=>eqD d x)))else none
 |_=>none
theorem tR{K:s0}{M:DH}{H:Hp}{d:D}{v:V}(h:aQ d=true)(r:Rep K M H d v):v=toV d/\dG v=true:=by
 cases d<;>first|(simp only[Rep]at r;subst r;exact⟨rfl,rfl⟩)|cases h
theorem rV{x y:D}(b:aQ x=true)(a:aQ y=true):eqV (toV x) (toV y)=eqD x y:=by
 cases x<;>cases y<;>first|(simp[aQ]at b;done)|(simp[aQ]at a;done)|(simp[toV,eqV,eqD];done)
theorem dM{K:s0}{M:DH}{H:Hp}{x:D}(e:aQ x=true):∀{ds:List D}{b:List V},ai K M H ds b->ds.all aQ=true->b.all dG=true/\inV (toV x) b=ds.any λd=>eqD d x
 |[],_,h,_=>by simp only[ai]at h;subst h;simp[inV]
 |d::ds,_,h,a=>by
  simp only[ai]at h;obtain⟨v,n,rfl,l,i⟩:=h;rw[P1,B2]at a;obtain⟨g,m⟩:=tR a.1 l;obtain⟨j,f⟩:=dM e i a.2;subst g;refine⟨by rw[P1,m,j];rfl,?_⟩;unfold inV at f ⊢;rw[P2,P2,f,rV a.1 e]
theorem aG.scal{K:s0}{M:DH}{H:Hp}{d:D}{v:V}(h:aQ d=true)(r:aG K M H d v):v=toV d/\dG v=true:=by
 cases d<;>first|(simp only[aG,Rep]at r;subst r;exact⟨rfl,rfl⟩)|cases h
theorem yq:bu X (E3 .In) (inD false):=bu.of ny λH M x y p t u Q n o s e q=>by
 cases t with
 |lst f =>
  simp only[inD]at e
  by_cases a:aQ p=true/\f.all aQ=true
  ·rw[if_pos a]at e;cases e;obtain⟨l,h,rfl,sq,b⟩:=s;obtain⟨i,m⟩:=aG.scal a.1 o;obtain⟨j,g⟩:=dM a.1 b a.2;subst i;refine⟨l,h,rfl,.inl (SqL.of sq),m,j,q _ H (Ext.refl _ _) n ?_⟩;rw[g];simp[Rep]
  ·rw[if_neg a]at e;cases e
 |tup f =>
  simp only[inD]at e
  by_cases a:aQ p=true/\f.all aQ=true
  ·rw[if_pos a]at e;cases e;obtain⟨l,h,rfl,sq,b⟩:=s;obtain⟨i,m⟩:=aG.scal a.1 o;obtain⟨j,g⟩:=dM a.1 b a.2;subst i;refine⟨l,h,rfl,.inr sq,m,j,q _ H (Ext.refl _ _) n ?_⟩;rw[g];simp[Rep]
  ·rw[if_neg a]at e;cases e
 |_=>cases e
theorem rg:bu X (E3 .NotIn) (inD true):=bu.of jx λH M x y p t u Q n o s e q=>by
 cases t with
 |lst f =>
  simp only[inD]at e
  by_cases a:aQ p=true/\f.all aQ=true
  ·rw[if_pos a]at e;cases e;obtain⟨l,h,rfl,sq,b⟩:=s;obtain⟨i,m⟩:=aG.scal a.1 o;obtain⟨j,g⟩:=dM a.1 b a.2;subst i;refine⟨l,h,rfl,.inl (SqL.of sq),m,j,q _ H (Ext.refl _ _) n ?_⟩;rw[g];simp[Rep]
  ·rw[if_neg a]at e;cases e
 |tup f =>
  simp only[inD]at e
  by_cases a:aQ p=true/\f.all aQ=true
  ·rw[if_pos a]at e;cases e;obtain⟨l,h,rfl,sq,b⟩:=s;obtain⟨i,m⟩:=aG.scal a.1 o;obtain⟨j,g⟩:=dM a.1 b a.2;subst i;refine⟨l,h,rfl,.inr sq,m,j,q _ H (Ext.refl _ _) n ?_⟩;rw[g];simp[Rep]
  ·rw[if_neg a]at e;cases e
 |_=>cases e
def nG(f:D->Option D):List D->Option D
 |[d]=>f d
 |_=>none
theorem mE{K:s0}{M:DH}{H:Hp}{d:D}{a:List V}(h:S2 (aG K M H) [d] a):∃v,a=[v]/\aG K M H d v:=by
 cases h with
 |cons r t=>cases t;exact⟨_,rfl,r⟩
theorem eF{f:D->Option D}{ds:List D}{z:D}(h:nG f ds=some z):∃d,ds=[d]/\f d=some z:=by
 match ds,h with
 |[d],h=>exact⟨d,rfl,h⟩
noncomputable def n4:D->Option D
 |.tup a=>some (.int a.length)
 |.lst a=>some (.int a.length)
 |.scr a=>some (.int a.length)
 |.str x=>if x.length<=A0 then some (.int x.length)else none
 |_=>none
theorem cL:bU X (.builtin "len") (nG n4):=bU.of (cc.or jo jz) λH M n g m Q f j e q=>by
 obtain⟨d,rfl,i⟩:=eF e;clear e;have e:=i;clear i;obtain⟨v,rfl,r⟩:=mE j;cases d with
 |tup g=>cases e;obtain⟨l,b,rfl,sq,a⟩:=r;exact .inl ⟨l,b,rfl,.inr sq,q _ H (Ext.refl _ _) f (by rw[<-a.length];simp[Rep])⟩
 |lst g=>cases e;obtain⟨l,b,rfl,sq,a⟩:=r;exact .inl ⟨l,b,rfl,.inl (SqL.of sq),q _ H (Ext.refl _ _) f (by rw[<-a.length];simp[Rep])⟩
 |scr g=>cases e;obtain⟨l,b,rfl,sq,a⟩:=r;exact .inl ⟨l,b,rfl,.inl sq,q _ H (Ext.refl _ _) f (by rw[<-a.length];simp[Rep])⟩
 |str x =>
  simp only[n4]at e
  by_cases h:x.length<=A0
  ·rw[if_pos h]at e;cases e;exact .inr ⟨x,by rw[iF r],h,q _ H (Ext.refl _ _) f (by simp[Rep])⟩
  ·rw[if_neg h]at e;cases e
 |_=>cases e
def wk:D->Option D
 |.int i=>some (.int (if i<0 then -i else i))
 |_=>none
theorem v6:bU X (.builtin "abs") (nG wk):=bU.of qq λH M j h g Q b f e q=>by
 obtain⟨d,rfl,a⟩:=eF e;clear e;have e:=a;clear a;obtain⟨v,rfl,r⟩:=mE f;cases d with
 |int i=>cases e;exact⟨i,by rw[eN r],q _ H (Ext.refl _ _) b (by simp[Rep])⟩
 |_=>cases e
def tP:D->Option D
 |.lst a=>some (.tup a)
 |.tup a=>some (.tup a)
 |_=>none
theorem m4:bU X (.type "tuple") (nG tP):=bU.of iA λH M o h n Q a j e q=>by
 obtain⟨d,rfl,f⟩:=eF e;clear e;have e:=f;clear f;obtain⟨v,rfl,r⟩:=mE j;cases d with
 |lst h=>cases e;obtain⟨l,b,rfl,sq,g⟩:=r;exact⟨l,b,rfl,.inl ⟨SqL.of sq,λp m=>jA a m g q⟩⟩
 |tup h=>cases e;have i:=aG.tup a r;obtain⟨l,b,rfl,sq,g⟩:=r;exact⟨l,b,rfl,.inr ⟨sq,q _ H (Ext.refl _ _) a i⟩⟩
 |_=>cases e
def oV:D->Bool
 |.bl _=>true
 |_=>false
def nT:D->Bool
 |.bl b=>b
 |_=>false
def n3:D->Option D
 |.lst a=>if a.all oV=true then some (.bl (a.all nT))else none
 |_=>none
theorem nH{p:Nat->Bool}{q:D->Bool}:∀{ds:List D},(∀i d,ds[i]?=some d->p i=q d)->(O5 ds.length).all p=ds.all q:=by
 intro ds h;rw[U6,F5,F5];constructor
 ·intro b d f;obtain⟨i,a,e⟩:=List.mem_iff_getElem.mp f;rw[<-h i d (by rw[P8 a,e])];exact b i (List.mem_range.mpr a)
 ·intro b i a;have a:=List.mem_range.mp a;rw[h i ds[i] (by simp[a])];exact b _ (W0 a)
theorem qj{K:s0}{M:DH}{H:Hp}{ds:List D}{n:List V}{m:List o0}(f:ai K M H ds n)(j:au n m)(p:ds.all oV=true){i:Nat}{u:o0}(h:m[i]?=some u):∃d,ds[i]?=some d/\u=.bool (nT d):=by
 have e:i<ds.length:=by rw[f.length,j.length];exact(D8.mp h).1
 obtain⟨v,g,r⟩:=f.get (i:=i) (d:=ds[i]) (by simp[e]);obtain⟨s,l,o⟩:=j.get g;rw[h]at l;cases l;have a:=F5.mp p ds[i] (W0 e);refine⟨ds[i],by simp[e],?_⟩;cases q:ds[i]with
 |bl b=>rw[q]at r;simp only[Rep]at r;subst r;exact o
 |_=>rw[q]at a;cases a
theorem jg(z:X.calm=true):bU X (.builtin "all") (nG n3):=by
 intro L s P H M xs U j S Q I E f O e k;obtain⟨d,rfl,n⟩:=eF e;clear e;have e:=n;clear n;obtain⟨v,rfl,r⟩:=mE O;obtain⟨u,rfl,J⟩:=au.one f;cases d with
 |lst j =>
  simp only[n3]at e
  by_cases m:j.all oV=true
  ·rw[if_pos m]at e;cases e;obtain⟨l,Y,rfl,sq,p⟩:=r;cases J;obtain⟨a,f,x,Z⟩:=I.list (SqL.of sq);have h:l≠s.heap.objs.size:=D1 (I.hok.lt sq);refine call_all_walk (wpAny_pyIter_list x.isList ⟨s.heap.objs.size,[s.heap.objs.size,l],[s.heap.objs.size],a.toArray.size,_,_,λi=>(j[i]?.map nT).getD false,rfl,Walks.list (A:=X.A.in1) (show X.A.in1.handled=none from I.ok.hd z) s.heap.objs.size l h a.toArray,⟨⟨_,C8 _ rfl,rfl,rfl⟩,?_⟩,λi v T Q' R G q=>?_,λN w B=>?_⟩)
   ·obtain⟨o,e,c⟩:=x.isList;exact⟨o,z6 _ e,c⟩
   ·obtain⟨d,g,rfl⟩:=qj p f m (i:=i) (u:=v) (by simpa using G);dsimp only at q;rw[g]at q;exact P6 q
   ·have C:Inv X L P H { s with heap:=N,toks:=w }:=I.kept (t':=w) λb o e=>B b o (by simpa using D1 (A7 e)) (z6 _ e);refine⟨.bl _,H,C,rfl,k _ H (Ext.refl _ _) E ?_⟩;rw[A3,<-f.length,<-p.length,nH (q:=nT) (λi d g=>by simp[g])];simp[Rep]
  ·rw[if_neg m]at e;cases e
 |_=>cases e
end
section
variable{X:Cx}{a b c e:C5}{g:List C5}{te B E:TEd}{t:TAd}{pos:Pos}
noncomputable def rh(T:String):D->Option Bool
 |.non=>some false
 |.bl _=>some (T=="bool" || T=="int")
 |.int _=>some (T=="int")
 |.str _=>some (T=="str")
 |.tup _=>some (T=="tuple")
 |.lst _=>some (T=="list")
 |.emp=>some (T=="dict")
 |_=>none
def okT(T:String):Bool:=T=="bool" || T=="int" || T=="str" || T=="tuple" || T=="list"
def wa(T:String)(te:TEd):TEd:=λa M Q=>te a M λd M1=>∃k,rh T (rdM M1 d)=some k/\Q (.bl k) M1
theorem nE{T:String}(B:okT T=true){z:List (A1×Obj)}{s:z4}{σ:St}{H:Hp}{M:DH}{v:V}{u:o0}{d:D}{k:Bool}{Q:VK}(I:Inv X z σ H s)(r:aF v u)(rd:aG X.K M H d v)(e:rh T d=some k)(q:Q (.bl k) H):
  B3 (D3 X.prog X.w) X.A (call (.builtin "isinstance") [u,.type T]) (EP X z σ Q) X.xe s:=by
 have l:∀{k'} ,k=k'->EP X z σ Q (.bool k') s:=λe=>by subst e;exact⟨.bl k,H,I,rfl,q⟩
 have f:∀{k'} ,k=k'->EP X z σ Q (.bool k') { s with toks:=s.toks+1 }:=λe=>by subst e;exact⟨.bl k,H,I.tok _,rfl,q⟩
 have p:T="bool"∨T="int"∨T="str"∨T="tuple"∨T="list":=by
  simp[okT]at B;rcases B with(((h|h)|h)|h)|h<;>simp[h]
 cases d with
 |non =>
  simp only[aG,Rep]at rd;subst rd;simp only[aF]at r;subst r;cases e;rcases p with rfl|rfl|rfl|rfl|rfl
  ·exact IsiPair.NoneType_bool (f rfl)
  ·exact IsiPair.NoneType_int (f rfl)
  ·exact IsiPair.NoneType_str (f rfl)
  ·exact IsiPair.NoneType_tuple (f rfl)
  ·exact IsiPair.NoneType_list (f rfl)
 |bl b =>
  simp only[aG,Rep]at rd;subst rd;simp only[aF]at r;subst r;cases e;rcases p with rfl|rfl|rfl|rfl|rfl
  ·exact IsiPair.bool_bool (l rfl)
  ·exact IsiPair.bool_int (l rfl)
  ·exact IsiPair.bool_str (f rfl)
  ·exact IsiPair.bool_tuple (f rfl)
  ·exact IsiPair.bool_list (f rfl)
 |int i =>
  simp only[aG,Rep]at rd;subst rd;obtain⟨t,rfl⟩:=r;cases e;rcases p with rfl|rfl|rfl|rfl|rfl
  ·exact IsiPair.int_bool (f rfl)
  ·exact IsiPair.int_int (l rfl)
  ·exact IsiPair.int_str (f rfl)
  ·exact IsiPair.int_tuple (f rfl)
  ·exact IsiPair.int_list (f rfl)
 |str x =>
  simp only[aG,Rep]at rd;subst rd;obtain⟨t,rfl⟩:=r;cases e;rcases p with rfl|rfl|rfl|rfl|rfl
  ·exact IsiPair.str_bool (f rfl)
  ·exact IsiPair.str_int (f rfl)
  ·exact IsiPair.str_str (l rfl)
  ·exact IsiPair.str_tuple (f rfl)
  ·exact IsiPair.str_list (f rfl)
 |tup L =>
  obtain⟨a,N,rfl,sq,G⟩:=rd;cases r;cases e;obtain⟨A,J,⟨o,j,m,_⟩,_⟩:=I.tuple sq;rcases p with rfl|rfl|rfl|rfl|rfl
  ·exact IsiPair.tuple_bool j m (f rfl)
  ·exact IsiPair.tuple_int j m (f rfl)
  ·exact IsiPair.tuple_str j m (f rfl)
  ·exact IsiPair.tuple_tuple j m (l rfl)
  ·exact IsiPair.tuple_list j m (f rfl)
 |lst L =>
  obtain⟨a,N,rfl,sq,G⟩:=rd;cases r;cases e;obtain⟨A,J,⟨o,n,j,m,_⟩,_⟩:=I.list (SqL.of sq);rcases p with rfl|rfl|rfl|rfl|rfl
  ·exact IsiPair.list_bool j m (f rfl)
  ·exact IsiPair.list_int j m (f rfl)
  ·exact IsiPair.list_str j m (f rfl)
  ·exact IsiPair.list_tuple j m (f rfl)
  ·exact IsiPair.list_list j m (l rfl)
 |emp =>
  simp only[aG,Rep]at rd;obtain⟨a,rfl,E,_⟩:=rd;cases r;cases e;obtain⟨_,_,_,_,o,g,O,j,w,_⟩:=I.hok a _ E;rcases p with rfl|rfl|rfl|rfl|rfl
  ·exact IsiPair.dict_bool j w.1 (f rfl)
  ·exact IsiPair.dict_int j w.1 (f rfl)
  ·exact IsiPair.dict_str j w.1 (f rfl)
  ·exact IsiPair.dict_tuple j w.1 (f rfl)
  ·exact IsiPair.dict_list j w.1 (f rfl)
 |_=>cases e
abbrev TOd:=DE->DH->(Option Int->DH->Prop)->Prop
def upO(K:s0)(t:TOd):TO:=λb H Q=>∃(a:DE) (M:DH) (R:Option Int->DH->Prop),SR K M H b a/\HR K M H/\t a M R/\∀i M' H',R i M'->Ext M H M' H'->HR K M' H'->Q i H'
theorem upO.el{K:s0}{t:TOd}{σ:St}{H:Hp}{Q:Option Int->Hp->Prop}{P:Prop}(h:upO K t σ H Q)(f:∀(e:DE) (M:DH) (R:Option Int->DH->Prop),SR K M H σ e->HR K M H->t e M R->(∀i M' H',R i M'->Ext M H M' H'->HR K M' H'->Q i H')->P):P:=by
 obtain⟨l,g,j,a,b,c,d⟩:=h;exact f l g j a b c d
def POd(X:Cx)(e:Option C5)(t:TOd):Prop:=PO X e (upO X.K t)
def jG:TOd:=λ_ M Q=>Q none M
def oQ(t:TEd):TOd:=λa M Q=>t a M λd M1=>∃i,d=.int i/\Q (some i) M1
theorem PO.conv{e:Option C5}{t t':TO}(h:PO X e t)(k:∀ σ H Q,t' σ H Q->t σ H Q):PO X e t':=λp s σ H Q I q=>h p s σ H Q I (k σ H Q q)
theorem rH:POd X none jG:=r8.conv λe H Q a=>a.el λg M R f b q k=>k none M H q (Ext.refl _ _) b
theorem su(h:PEd X e te):POd X (some e) (oQ te):=(qG h).conv λp H Q a=>a.el λm M R n j q k=>⟨m,M,_,n,j,q,λd M1 v H1 ⟨i,o,f⟩ l b g=>⟨i,by subst o;simpa only[Rep]using g,k _ M1 H1 f l b⟩⟩
def dS(a:List D)(lo b:Option Int):List D:=(a.drop (HT.sIx a.length 0 lo)).take (HT.sIx a.length a.length b-HT.sIx a.length 0 lo)
def slD:D->Option Int->Option Int->Option D
 |.lst a,lo,b=>some (.lst (dS a lo b))
 |.scr a,lo,b=>some (.lst (dS a lo b))
 |.str x,lo,b=>if x.length<=A0 then some (.str (V6 x lo b))else none
 |.tup a,lo,b=>if HT.sIx a.length 0 lo=0/\HT.sIx a.length a.length b=a.length then none else some (.tup (dS a lo b))
 |_,_,_=>none
def yk:V->Option Int->Option Int->Hp->VK->Prop:=λx lo a H Q=>∃z,x=.str z/\z.length<=A0/\Q (.str (V6 z lo a)) H
theorem vm:SlR X yk:=by
 intro n s o H x v vl vu lo hi sl Q I rx hs pl pu h;obtain⟨z,rfl,b,q⟩:=h;obtain⟨t,rfl⟩:=rx;refine⟨"str",_,PySem.F.slot_str_getitem.lookup,T7 _ _ _,?_⟩;have a:∀(f:Tok) (k:Nat),EP X n o Q (.str (V6 z lo hi) f) { s with toks:=k }:=λf k=>⟨.str (V6 z lo hi),H,I.tok _,⟨f,rfl⟩,q⟩;cases pl with
 |none =>
  cases pu with
  |none=>exact Q7 (l:=none) (u:=none) (st:=none) hs rfl (X3 ⟨E7 (Y8 z _ _) b,a⟩)
  |int j e=>exact Q7 (l:=none) (u:=some (j,e)) (st:=none) hs rfl (X3 ⟨E7 (Y8 z _ _) b,a⟩)
 |int i m =>
  cases pu with
  |none=>exact Q7 (l:=some (i,m)) (u:=none) (st:=none) hs rfl (X3 ⟨E7 (Y8 z _ _) b,a⟩)
  |int j e=>exact Q7 (l:=some (i,m)) (u:=some (j,e)) (st:=none) hs rfl (X3 ⟨E7 (Y8 z _ _) b,a⟩)
noncomputable def dg:List D->Option (List Str)
 |[]=>some []
 |.str x::a=>(dg a).map (x::·)
 |_=>none
theorem gJ{K:s0}{M:DH}{H:Hp}:∀{ds:List D}{b:List V}{g:List o0}{ys:List Str},ai K M H ds b->au b g->dg ds=some ys->StrsAre g ys
 |[],_,_,_,h,a,e=>by
  simp only[ai]at h;subst h;cases a;cases e;exact .nil
 |d::ds,_,_,ys,h,a,e=>by
  simp only[ai]at h;obtain⟨v,n,rfl,f,i⟩:=h;cases d with
  |str x =>
   simp only[dg]at e;cases q:dg ds with
   |none=>rw[q]at e;cases e
   |some m =>
    rw[q]at e;cases e;simp only[Rep]at f;subst f;cases a with
    |cons j l =>
     obtain⟨t,rfl⟩:=j;exact .cons x t (gJ i l q)
  |_=>cases e
def i2(a:Str):D->Option D
 |.lst e=>match dg e with|some b=>if(b.map (·.length)).sum+b.length*a.length<=16777216 then some (.str (ac3 a b))else none|none=>none
 |_=>none
def sS(e te:TEd):TEd:=λb M Q=>e b M λo M1=>∃a,o=.str a/\te b M1 λd M2=>∃z,i2 a (rdM M2 d)=some z/\Q z M2
end
def bN(names:List (Str×J1))(a:List (Str×A1)):List (Str×A1):=(names.filterMap λy=>if y.2==.free then(a.lookup y.1).map λc=>(y.1,c)else none).reverse
noncomputable def cR(env:Env)(y:Str×J1)(a:List (Str×A1)):Sem (ForInStep (List (Str×A1))):=if(y.2==.free)=true then(do let c <-cellOf env y.1;W1 (L8 ((y.1,c)::a)))else W1 (L8 a)
theorem fL{env:Env}:∀(names:List (Str×J1)) (a:List (Str×A1)),(∀y∈names,y.2=.free->(env.cells.lookup y.1).isSome=true) ->
  (forIn names a (cR env):Sem (List (Str×A1)))=W1 (bN names env.cells++a)
 |[],a,_=>by simp[bN]
 |y::r,a,h=>by
  rw[List.forIn_cons]
  by_cases b:(y.2==M9)=true
  ·have j:=h y F1 (by simpa using b);obtain⟨c,i⟩:=E8.mp j;have f:cR env y a=W1 (L8 ((y.1,c)::a)):=by
    unfold cR cellOf;rw[if_pos b,i];simp only[ac8]
   rw[f];simp only[ac8];rw[fL r ((y.1,c)::a) λy g=>h y (B4 _ g)];have e:bN (y::r) env.cells=bN r env.cells++[(y.1,c)]:=by
    unfold bN;rw[K7,if_pos b,i];simp
   rw[e];simp
  ·have f:cR env y a=W1 (L8 a):=by
    unfold cR;rw[if_neg b]
   rw[f];simp only[ac8];rw[fL r a λy g=>h y (B4 _ g)];have e:bN (y::r) env.cells=bN r env.cells:=by
    unfold bN;rw[K7,if_neg b]
   rw[e]
theorem rR{a:T0}{env:Env}(h:∀y∈a.names,y.2=.free->(env.cells.lookup y.1).isSome=true):closureFor a env=W1 (bN a.names env.cells):=by
 have:=fL (env:=env) a.names [] h;simp only[R6]at this;show(forIn a.names [] (cR env) >>= λb=>W1 b)=_;rw[this];simp only[ac8]
theorem oC{a:List (Str×A1)}{names:List (Str×J1)}{x:Str}{c:A1}(h:(bN names a).lookup x=some c):a.lookup x=some c:=by
 have b:=J3 h;unfold bN at b;rw[List.mem_reverse,O9]at b;obtain⟨y,_,e⟩:=b
 split at e
 ·cases q:a.lookup y.1 with
  |none=>rw[q]at e;cases e
  |some f=>rw[q]at e;cases e;exact q
 ·cases e
theorem cA:∀{l:List (Str×A1)}{x:Str}{c:A1},(x,c)∈l->∃a,l.lookup x=some a
 |(y,d)::l,x,c,h=>by
  rw[F4];cases q:x==y with
  |true=>exact⟨d,by simp⟩
  |false =>
   rcases A5.mp h with e|h
   ·cases e;simp at q
   ·simpa using cA h
theorem qk{a:List (Str×A1)}{names:List (Str×J1)}{x:Str}(h:names.lookup x=some .free)(b:(a.lookup x).isSome=true):∃c,(bN names a).lookup x=some c:=by
 obtain⟨c,e⟩:=E8.mp b;refine cA (c:=c) ?_;unfold bN;rw[List.mem_reverse,O9];exact⟨(x,.free),J3 h,by simp[e]⟩
noncomputable def bq(fs:T0)(N:List Str)(a:T0)(ms:List Bool):Bool :=
 a.kind==.function&&a.names.all (λy=>y.2 != .cell)&&a.names.all (λy=>y.2 != .local || a.names.lookup y.1==some .local) &&
 a.names.all (λy=>y.2 != .free || fs.names.lookup y.1==some .cell)&&(ms.zip N).all (λy=>!y.1 || a.names.lookup y.2==some .free)&&decide (ms.length<=N.length)
theorem aU{X:Cx}{f:T0}{ms:List Bool}{aq:List Str}{n0:Nat}(n:X.env.cells=ac5 n0 X.env.scope.names [])(c:bq X.env.scope X.N f ms=true):dX X f (bN f.names X.env.cells) ms aq:=by
 unfold bq at c;simp only[B2,F5,decide_eq_true_eq]at c;obtain⟨⟨⟨⟨⟨u,q⟩,w⟩,s⟩,z⟩,p⟩:=c;have l:∀x,(x,M9)∈f.names->X.env.scope.names.lookup x=some .cell:=λx j=>by
  have:=s _ j;simpa using this
 have m:∀x,(x,M9)∈f.names->(X.env.cells.lookup x).isSome=true:=λx j=>by
  rw[n];exact PySem.W.cellsFrom_some _ _ _ (.inl (l x j))
 refine⟨by simpa using u,λy g e=>?_,λy g e=>?_,rR λy g e=>?_,λx c h=>oC h,λx h=>qk h (m x (J3 h)),λx h=>.inl (l x (J3 h)),λi x o t=>?_,p⟩
 ·have:=q y g;rw[e]at this;simp at this
 ·have:=w y g;simpa[e]using this
 ·obtain⟨a,b⟩:=y;cases e;exact m a g
 ·have:=z (true,x) (by
   rw[List.mem_iff_getElem?];exact⟨i,by rw[List.getElem?_zip_eq_some];exact⟨o,t⟩⟩)
  simpa using this
structure FnD(P:C1) (w:F8) (K:s0) (mg:Str->Option o0) (base:C9) (x:Str) (k n:Nat) (S:SpD):Prop where
 ex:∃(f:A1) (fd:B7) (ps:List Str),aS P w K mg base CX0 k f fd ps (spD K n S)/\mg x=some (.ref f)/\M8 K (.ref f)=true/\cg K fd ps []
section
variable{X:Cx}{e:C5}{g:List C5}{t:TAd}{pos p:Pos}{x:Str}{k n:Nat}{S:SpD}
theorem dc(F:FnD X.prog X.w X.K X.mg X.base x k n S)(hr:bA k X.A)(hg:Gl X x)(ha:PAd X (e::g) t)(hdb:(x==("__debug__":Str))=false:=by decide)(he:z9 (e::g) X.env=(false,M6 e X.env)::z9 g X.env:=by rfl)(hpl:(K6 pos (z9 g X.env)).any (·.1)=false:=by rfl):
  PEd X (.Call (.Name x p) (e::g) [] pos) (iM n S t):=by
 obtain⟨f,j,l,a,i,h,b⟩:=F.ex;exact ua a hr hg i h b ha hdb he hpl
end
section
variable{X:Cx}{a b c e:C5}{z:List C5}{te B E:TEd}{t:TAd}{pos:Pos}{G g:C5}
theorem wj:wm X (unaryOp .USub) (λd=>match d with|.int i=>some (.int (-i))|_=>none):=by
 intro a s b H M x v dx dz Q I hr rx r1 e k;cases dx with
 |int i=>cases e;exact uB a s b H x v Q I rx ⟨i,eN r1,k _ H (Ext.refl _ _) hr (by simp[Rep])⟩
 |_=>cases e
def eW:D->Option (List D)
 |.tup a=>some a
 |.lst a=>some a
 |.scr a=>some a
 |.str x=>if x.length<=A0 then some (bR x)else none
 |_=>none
def sQ(te:TEd):TId:=λb M R=>te b M λd M1=>∃a,eW d=some a/\(a.length<=A0->R a M1)
theorem lF{a:List (A1×Obj)}{σ:St}{H:Hp}{s:z4}{o:Obj}(I:Inv X a σ H s):∀b∈[s.heap.objs.size],fR X a H b:=λb f=>by
 have e:b=s.heap.objs.size:=by simpa using f
 subst e;exact I.fpOk (B8 _) (I.hok.fresh (B8 _))
theorem uT{K:s0}{x:Str}{M1:DH}{H1:Hp}:ItD K (ItW x.cps.size λi v=>∃c,x.cps[i]?=some c/\v=.str ⟨#[c]⟩) (bR x) M1 H1:=λM2 H2 l e i=>⟨λd a=>by
  unfold bR at a;rw[N7]at a;cases q:x.cps.toList[i]? with
  |none=>rw[q]at a;cases a
  |some c =>
   rw[q]at a;cases a;have f:x.cps[i]?=some c:=by simpa using q
   refine⟨?_,λy H' ⟨g,m,b,h⟩=>?_⟩
   ·exact(K2.mp f).1
   ·subst g;subst h;rw[f]at b;cases b;exact⟨Ext.refl _ _,e,by simp[Rep]⟩,λj=>by
  show x.cps.size<=i;simpa[bR]using j⟩
end
section
variable{M:DH}
theorem rE{i:Int}:rdM M (.int i)=.int i:=rfl
theorem vk{i:Bool}:rdM M (.bl i)=.bl i:=rfl
theorem qw{i:Str}:rdM M (.str i)=.str i:=rfl
theorem sG:rdM M .non=.non:=rfl
theorem rQ{i:List D}:rdM M (.tup i)=.tup i:=rfl
theorem qF{i:List D}:rdM M (.lst i)=.lst i:=rfl
theorem qK{i:List D}:rdM M (.scr i)=.scr i:=rfl
theorem er{a:A1}{ds:List D}(h:M a=some (.lst ds)):rdM M (.ref a)=.lst ds:=by simp[rdM,h]
theorem rj{a:A1}{ds:List D}:rdM (ay M a (.lst ds)) (.ref a)=.lst ds:=er ar
theorem vI{f:Int->Int->Option D}{a b:Int}:iOp f (.int a) (.int b)=f a b:=rfl
theorem rY{a b:Int}:kr (.int a) (.int b)=some (.int (a+b)):=rfl
theorem rC{a b:Str}:kr (.str a) (.str b)=if a.length+b.length<=A0 then some (.str (a++b))else none:=rfl
theorem qO{a b:List D}:kr (.lst a) (.lst b)=if a.length+b.length<=A0 then some (.lst (a++b))else none:=rfl
theorem sk{a b:List D}:kr (.tup a) (.tup b)=if a.length+b.length<=A0 then some (.tup (a++b))else none:=rfl
theorem wo{a:List D}{b:Int}:ixD (.lst a) (.int b)=atI a b:=rfl
theorem vW{a:List D}{b:Int}:ixD (.scr a) (.int b)=atI a b:=rfl
theorem xc{a:List D}{b:Int}:ixD (.tup a) (.int b)=atI a b:=rfl
theorem tv{z:Str}{i:Int}:ixD (.str z) (.int i)=if z.length<=A0 then(atI z.cps.toList i).map λc=>.str ⟨#[c]⟩else none:=rfl
theorem ow{a:Type}{x:a}{b:List a}:atI (x::b) 0=some x:=fo (j:=0) rfl
theorem tH{a:Type}{x y:a}{b:List a}:atI (x::y::b) 1=some y:=fo (j:=1) rfl
theorem vV{a:Type}{x y z:a}{b:List a}:atI (x::y::z::b) 2=some z:=fo (j:=2) rfl
theorem oF{f:D->Option D}{d:D}:nG f [d]=f d:=rfl
theorem tV{a:List D}:n4 (.lst a)=some (.int a.length):=rfl
theorem uh{a:List D}:n4 (.tup a)=some (.int a.length):=rfl
theorem ue{a:List D}:n4 (.scr a)=some (.int a.length):=rfl
theorem vH{x:Str}:n4 (.str x)=if x.length<=A0 then some (.int x.length)else none:=rfl
theorem uH{i:Int}:wk (.int i)=some (.int (if i<0 then -i else i)):=rfl
theorem tX{a:List D}:tP (.lst a)=some (.tup a):=rfl
theorem uk{a:List D}:tP (.tup a)=some (.tup a):=rfl
theorem xD{b:Bool}{x:D}{ds:List D}:inD b x (.lst ds)=if aQ x=true/\ds.all aQ=true then some (.bl (xor b (ds.any λd=>eqD d x)))else none:=rfl
theorem xr{b:Bool}{x:D}{ds:List D}:inD b x (.tup ds)=if aQ x=true/\ds.all aQ=true then some (.bl (xor b (ds.any λd=>eqD d x)))else none:=rfl
theorem u6{a b:Int}:eqF (.int a) (.int b)=some (.bl (a==b)):=by simp[eqF,dLe,eqD]
theorem vf{a b:Str}:eqF (.str a) (.str b)=some (.bl (a==b)):=by simp[eqF,dLe,eqD]
theorem uI{a b:Bool}:eqF (.bl a) (.bl b)=some (.bl (a==b)):=by simp[eqF,dLe,eqD]
theorem wO{ds:List D}{lo a:Option Int}:slD (.scr ds) lo a=some (.lst (dS ds lo a)):=rfl
theorem v9{ds:List D}{lo a:Option Int}:slD (.lst ds) lo a=some (.lst (dS ds lo a)):=rfl
theorem wB{x:Str}{lo a:Option Int}:slD (.str x) lo a=if x.length<=A0 then some (.str (V6 x lo a))else none:=rfl
theorem oJ{a:List D}:eW (.lst a)=some a:=rfl
theorem pX{a:List D}:eW (.tup a)=some a:=rfl
theorem oo{a:List D}:eW (.scr a)=some a:=rfl
theorem qa{x:Str}:eW (.str x)=if x.length<=A0 then some (bR x)else none:=rfl
theorem xq{n:Nat}:ixN (n+1) 0=some 0:=by simp[ixN]<;>omega
theorem wQ{n:Nat}:ixN (n+2) 1=some 1:=by simp[ixN]<;>omega
theorem xy{n:Nat}:ixN (n+3) 2=some 2:=by simp[ixN]<;>omega
theorem sz3(n:Nat)(h:n<=1000:=by decide):n<=A0:=E7 h (by decide)
theorem u3{b:Bool}:rh "bool" (.bl b)=some true:=rfl
end
end L2
namespace L2
theorem vP{i j:Int}(h:-18446744073709551616<j/\j<18446744073709551616):fG i j=True:=by unfold fG;simp;right;omega
theorem tI{i j:Int}(h:-18446744073709551616<i/\i<18446744073709551616):fG i j=True:=by unfold fG;simp;left;omega
theorem pS:kc 10 18=True:=by simp[kc]
theorem wy{i j:Int}(h:0<j/\j<1073741824):jJ i j=True:=by unfold jJ;simp[h]
end L2
namespace L2
open PySem PySem.Spec PyProof.Rows
theorem bb{g:GD}{tc:TTd}{te:TEd}{M:DH}{Q:List D->DH->Prop}(b:D->Bool)(y:D->D)(Ok:DE->Prop):∀(ds:List D) (f:DE) (e:List D),
  (∀d∈ds,∀ f,Ok f->∃ a,g d f=some a/\Ok a/\(∀j:Bool->DH->Prop,j (b d) M->tc a M j)/\(b d=true->∀i:D->DH->Prop,i (y d) M->te a M i))->Ok f ->
  Q (e++(ds.filter b).map y) M->bG g tc te ds f M e Q
 |[],f,e,_,_,q=>by simpa[bG]using q
 |d::ds,f,e,h,l,q=>by
  simp only[bG];obtain⟨a,o,ok,p,t⟩:=h d F1 f l;refine⟨a,o,p _ ?_⟩;have n:∀d∈ds,∀ f,Ok f->∃ a,g d f=some a/\Ok a/\(∀j:Bool->DH->Prop,j (b d) M->tc a M j)/\(b d=true->∀i:D->DH->Prop,i (y d) M->te a M i):=λx s=>h x (B4 _ s);cases m:b d with
  |true =>
   simp only[if_true];refine t m _ (bb b y Ok ds a (e++[y d]) n ok ?_);simpa[List.filter_cons,m]using q
  |false =>
   simp only[A6,if_false];refine bb b y Ok ds a e n ok ?_;simpa[List.filter_cons,m]using q
theorem sh{a b:Str}:eqD (.str a) (.str b)=(a==b):=by simp[eqD]
theorem lq{x:Str}:∀{ws:List Str},(ws.map D.str).any (λd=>eqD d (.str x))=decide (x∈ws)
 |[]=>by simp
 |w::ws=>by
  rw[B5,P2,lq (ws:=ws),sh]
  by_cases h:w=x
  ·subst h;simp
  ·have b:(w==x)=false:=by simpa using h
   have a:¬ x=w:=λe=>h e.symm;simp[b,a]
theorem o8{ws:List Str}:(ws.map D.str).all aQ=true:=by
 induction ws with
 |nil=>rfl
 |cons w ws ih=>rw[B5,P1,ih];rfl
theorem eT:∀{ws:List Str},dg (ws.map D.str)=some ws
 |[]=>rfl
 |w::ws=>by rw[B5];simp only[dg];rw[eT];rfl
section
variable{X:Cx}{e:C5}{te:TEd}{pos:Pos}
def sY(te:TEd):TSd:=λE a M=>te a M λd M1=>∃M2,LeM M2 M1/\E.rt d M2
theorem m5{M:DH}{q:A1}{o:HD}(h:M q=none):LeM M (ay M q o):=λa u e=>by
 by_cases b:a=q
 ·subst b;rw[h]at e;cases e
 ·rw[aT b];exact e
end
end L2
namespace L2
open PySem PySem.Spec PyProof.Rows PySem.Builtin.Str
def tx(a:List Nat):Str:=⟨a.toArray⟩
theorem p7(x:Str):x=tx x.cps.toList:=by cases x;simp[tx]
theorem oW{a b:List Nat}:tx a=tx b↔a=b:=by
 unfold tx;constructor
 ·intro h;injection h with h;simpa using congrArg Array.toList h
 ·intro h;rw[h]
theorem av(a:List Nat):(tx a).cps.toList=a:=by simp[tx]
theorem aA(a:List Nat):(tx a).length=a.length:=by show(tx a).cps.size=_;simp[tx]
theorem gV(a b:List Nat):tx a++tx b=tx (a++b):=by
 show Str.mk (a.toArray++b.toArray)=_;simp[tx]
theorem xj:(z8 "":Str)=tx []:=by decide +kernel
theorem jE:∀a:List Nat,ac3 (tx []) (a.map λc=>tx [c])=tx a:=by
 intro a;unfold ac3;rw[StrLaws.glued_eq_join]
 induction a with
 |nil=>rfl
 |cons c a ih =>
  cases a with
  |nil=>rfl
  |cons d a =>
   rw[B5]at ih ⊢;rw[B5];show tx [c]++tx []++N0 (tx []) (tx [d]::a.map λc=>tx [c])=_;rw[ih,gV,gV];rfl
theorem nZ{x:Array Nat}:∀k,k<=x.size->(O5 k).filterMap (x[·]?)=x.toList.take k:=by
 intro k
 induction k with
 |zero=>intro _;simp
 |succ k ih =>
  intro h;rw[List.range_succ,List.filterMap_append,ih (by lia)];have a:x[k]?=some x[k]:=by simp[show k<x.size by lia]
  rw[List.take_add_one];simp[a,show k<x.size by lia]
theorem ls(a:List Nat)(k:Nat):V6 (tx a) none (some (k:Int))=tx (a.take k):=by
 have i:strSliceIndices none (some (k:Int)) 1 (tx a).length=O5 (min k a.length):=by
  unfold strSliceIndices sliceRange;rw[aA];have f:(max 0 (min (if(k:Int)<0 then(k:Int)+(a.length:Int)else(k:Int)) (a.length:Int)))=((min k a.length:Nat):Int):=by
   rw[if_neg (by lia)];lia
  simp only[show(1:Int) > 0 by decide,if_true];rw[f];have h:(if(0:Int)<((min k a.length:Nat):Int)then(((min k a.length:Nat):Int)-0+1-1) / 1 else 0).toNat=min k a.length:=by
   split<;>lia
  rw[h];apply List.ext_getElem?;intro j;rw[N7]
  by_cases g:j<min k a.length
  ·rw[List.getElem?_range g];simp
  ·rw[R7 (by simp;lia)];rfl
 unfold V6;rw[i]
 by_cases b:(((1:Int)==1&&(O5 (min k a.length)).length==(tx a).length))=true
 ·rw[if_pos b];have:a.length<=k:=by
   simp[aA]at b
   lia
  rw[List.take_of_length_le this]
 ·rw[if_neg b];have e:(O5 (min k a.length)).filterMap ((tx a).cps[·]?)=a.take k:=by
   rw[nZ _ (by simp[tx];lia),av];rw[List.take_eq_take_iff]
   lia
  rw[e];rfl
theorem i8{b:Type}[DecidableEq b]:∀(V K:List b),V.Nodup->(∀x∈V,x∈K)->V.length<=K.length
 |[],_,_,_=>X1 _
 |x::V,K,g,h=>by
  have e:=h x F1;obtain⟨f,i⟩:=U1.mp g;have:=i8 V (K.erase x) i λy a=>(List.mem_erase_of_ne (by rintro rfl;exact f a)).mpr (h y (B4 _ a));rw[List.length_erase_of_mem e]at this;have j:0<K.length:=List.length_pos_of_mem e;simp only[B6]
  lia
def eK(c:Nat):Prop:=97<=c/\c<=122
def bw(w:Str):Prop:=1<=w.cps.toList.length/\w.cps.toList.length<=8/\∀c∈w.cps.toList,eK c
abbrev abc:Str:=z8 "abcdefghijklmnopqrstuvwxyz"
def bt:List Nat:=List.range' 97 26
theorem gB:abc=tx bt:=by decide +kernel
theorem vt{v:Int}(e:0<=v)(g:v<26):∃c,eK c/\ixD (.str abc) (.int v)=some (.str (tx [c])):=by
 obtain⟨n,rfl⟩:=Int.eq_ofNat_of_zero_le e;have b:n<26:=by lia
 refine⟨97+n,⟨by lia,by lia⟩,?_⟩;have f:abc.length<=A0:=by rw[gB,aA];exact sz3 _
 have a:atI abc.cps.toList (n:Int)=some (97+n):=by
  rw[gB,av];exact fo (by unfold bt;rw[List.getElem?_range' b];simp)
 rw[tv,if_pos f,a];rfl
theorem iS:bR abc=bt.map λc=>D.str (tx [c]):=by
 unfold bR;rw[gB,av];rfl
theorem oY{w:Str}{f:List Str}(n:f.length<=25):∃c∈bt,tx (w.cps.toList.take 7++[c])∉f:=by
 refine Classical.byContradiction λh=>?_;have l:∀c∈bt,tx (w.cps.toList.take 7++[c])∈f:=λc i=>Classical.byContradiction λg=>h ⟨c,i,g⟩;have g:(bt.map λc=>tx (w.cps.toList.take 7++[c])).Nodup:=by
  rw[List.nodup_iff_pairwise_ne,List.pairwise_map];have:bt.Nodup:=by decide
  exact List.Pairwise.imp (λ{a b} j e=>j (by rw[oW]at e;simpa using e)) this
 have:=i8 _ f g (λx m=>by
  obtain⟨c,i,rfl⟩:=E2.mp m;exact l c i)
 simp[bt]at this
 lia
theorem l6{w:Str}{c:Nat}(a:bw w)(b:eK c):bw (tx (w.cps.toList.take 7++[c])):=by
 obtain⟨g,i,f⟩:=a;unfold bw;rw[av];refine⟨by simp,by simp;lia,λx e=>?_⟩;rcases D9.mp e with h|h
 ·exact f x (List.mem_of_mem_take h)
 ·have:x=c:=by simpa using h
  subst this;exact b
theorem oU{c:Nat}(h:c∈bt):eK c:=by
 unfold bt at h;rw[List.mem_range'_1]at h;exact⟨by lia,by lia⟩
end L2
namespace L2
open PySem PySem.Spec PyProof.Rows
theorem ja{g:GD}{m:TSd}{E:cx}{all:List D}(I:Nat->DE->DH->Prop)
  (step:∀(i:Nat) (d:D) (b:DE) (M:DH) (X:DE->DH->Prop),all[i]?=some d->I i b M->(∀ a j,I (i+1) a j->X a j)->∃ a,g d b=some a/\m { E with nx:=X,ct:=X,bk:=E.nx } a M)
  (f:∀ b M,I all.length b M->E.nx b M):∀(ds:List D) (i:Nat) (b:DE) (M:DH),all.drop i=ds->i<=all.length->I i b M->cJ g m E ds b M
 |[],i,b,M,e,o,h=>by
  have:i=all.length:=by
   have:=congrArg Z3 e;simp at this;lia
  subst this;simpa only[cJ]using f b M h
 |d::ds,i,b,M,e,o,h=>by
  have l:i<all.length:=by
   have:=congrArg Z3 e;simp at this;lia
  have n:all[i]?=some d:=by
   have:=congrArg List.head? e;simpa using this
  have q:all.drop (i+1)=ds:=by
   rw[<-List.tail_drop,e];rfl
  simp only[cJ];exact step i d b M _ n h λa j p=>ja I step f ds (i+1) a j q l p
theorem cn{g:GD}{f:TSd}{E:cx}{ds:List D}{b:DE}{M:DH}(I:Nat->DE->DH->Prop)(j:I 0 b M)
  (step:∀(i:Nat) (d:D) (b:DE) (M:DH) (X:DE->DH->Prop),ds[i]?=some d->I i b M->(∀ a h,I (i+1) a h->X a h)->∃ a,g d b=some a/\f { E with nx:=X,ct:=X,bk:=E.nx } a M)
  (e:∀ b M,I ds.length b M->E.nx b M):cJ g f E ds b M:=ja I step e ds 0 b M rfl (X1 _) j
theorem kj{g:GD}{tc:TTd}{te:TEd}{all:List D}{Q:List D->DH->Prop}(I:Nat->List D->DE->DH->Prop)
  (step:∀ (i:Nat) (d:D) (a:List D) (l:DE) (M:DH) (X:List D → DE → DH → Prop),all[i]? = some d → I i a l M → (∀ j f m,I (i + 1) j f m → X j f m) →
   ∃ f,g d l=some f/\tc f M λb M1=>if b=true then te f M1 λy M2=>X (a++[y]) f M2 else X a f M1)
  (n:∀a l M,I all.length a l M->Q a M):∀(ds:List D) (i:Nat) (a:List D) (l:DE) (M:DH),all.drop i=ds->i<=all.length->I i a l M->bG g tc te ds l M a Q
 |[],i,a,l,M,e,q,h=>by
  have:i=all.length:=by
   have:=congrArg Z3 e;simp at this;lia
  subst this;simpa only[bG]using n a l M h
 |d::ds,i,a,l,M,e,q,h=>by
  have o:i<all.length:=by
   have:=congrArg Z3 e;simp at this;lia
  have p:all[i]?=some d:=by
   have:=congrArg List.head? e;simpa using this
  have t:all.drop (i+1)=ds:=by
   rw[<-List.tail_drop,e];rfl
  simp only[bG];exact step i d a l M (λj f m=>bG g tc te ds f m j Q) p h λj f m s=>kj I step n ds (i+1) j f m t o s
theorem kQ{g:GD}{tc:TTd}{te:TEd}{ds:List D}{f:DE}{M:DH}{Q:List D->DH->Prop}(I:Nat->List D->DE->DH->Prop)(m:I 0 [] f M)
  (step:∀ (i:Nat) (d:D) (e:List D) (f:DE) (M:DH) (X:List D → DE → DH → Prop),ds[i]? = some d → I i e f M → (∀ h a l,I (i + 1) h a l → X h a l) →
   ∃ a,g d f=some a/\tc a M λb M1=>if b=true then te a M1 λy M2=>X (e++[y]) a M2 else X e a M1)
  (j:∀e f M,I ds.length e f M->Q e M):bG g tc te ds f M [] Q:=kj I step j ds 0 [] f M rfl (X1 _) m
theorem szB(n:Nat)(h:n<=16000000:=by decide):n<=A0:=E7 h (by decide)
theorem rJ{b:Type}{f:b->D}{a:List b}{i:Nat}{d:D}(h:(a.map f)[i]?=some d):∃x,a[i]?=some x/\d=f x:=by
 rw[N7]at h;cases e:a[i]? with
 |none=>rw[e]at h;cases h
 |some x=>rw[e]at h;cases h;exact⟨x,rfl,rfl⟩
theorem kG{K:s0}{M:DH}{H:Hp}:∀ns:List Int,ai K M H (ns.map D.int) (ns.map V.int)
 |[]=>ai.nil
 |n::ns=>ai.cons (by simp[Rep]) (kG ns)
theorem nR{K:s0}{H:Hp}{a:A1}{ns:List Int}(b:sD H)(e:SqL K H a (ns.map V.int)):ai K noM H [.scr (ns.map D.int)] [.ref a]:=by
 refine ai.cons ?_ ai.nil;simp only[Rep];refine⟨a,ns.map V.int,rfl,?_,kG ns⟩;rcases e with h|h
 ·left;rcases h with h|h
  ·rcases b a with z|⟨o,f,z⟩<;>(rw[h]at z;cases z)
  ·exact⟨h,rfl⟩
 ·right;exact .inr h
def vR(S:SpD):Prop:=∀(a:List Int) (R:D->DH->Prop),a.length<=63->(∀b,R (.bl true) b)->S [.scr (a.map .int)] noM R
theorem wL{S:SpD}(E:vR S){k:Nat}{x:Str}{l:PySem.W.OpenLaw}{q:C1}{b:List Str}{C:(Str->Option o0)->C9->Prop}{p:F8->C9->Prop}{d:DefRec}{K:Params->s0}(hr:bA k ab0)(J:l.most=some 63)(i:d.params.defaults=[])
  (A:∀(w:F8) (h:C9),p w h->(K w.params).In h)
  (F:∀ (w:F8) (g:Str → Option o0) (j:A1) (h:C9),(K w.params).In h → h.Ns B1 g → g d.name = some (.ref j) →
   ∃m:B7,(∀(s:z4) (u:o0),ab8 s m ⟨[u],[]⟩ [(x,u)])/\∀base:C9,(K w.params).In base->base.Ns B1 g->aS l.prog w (K w.params) g base CX0 k j m [x] (spD (K w.params) 1 S)) :
  PySem.W.WalkO q b C p l.row.toRowW d [] (λf G=>PySem.call f G) :=
 L2.m9 (n:=63) (k:=k) (x:=x) (CX:=λ_=>CX0) (sp:=λw=>spD (K w.params) 1 S) J (by decide) i hr A F
  (λw H a o L t I=>⟨[.scr (o.map .int)],noM,λd _=>d=.bl true,rfl,nR t I,HR.nil,E o _ L (λ_=>rfl),λd M v N e _ _ B=>by subst e;simpa only[Rep]using B⟩) λ_ _ _ _ _ z=>z
section
variable{X:Cx}
def neF(x y:D):Option D:=if dLe x 60=true/\dLe y 60=true then some (.bl (!(eqD x y)))else none
theorem xX(g:X.A.units+64<ad2):bu X (E3 .NotEq) neF:=by
 intro b s f H M x y v u dx dy dz Q I hr rx ry r1 r2 e k;unfold neF at e
 by_cases a:dLe dx 60=true/\dLe dy 60=true
 ·rw[if_pos a]at e;cases e;exact(lU I 60 (A:=X.A) (by lia) a.1 a.2 r1 r2 rx ry).2.2 X.prog X.w X.xe _ ⟨.bl (!(eqD dx dy)),H,I,rfl,k _ H (Ext.refl _ _) hr (by simp[Rep])⟩
 ·rw[if_neg a]at e;cases e
theorem uj{a b:Int}:neF (.int a) (.int b)=some (.bl (!(a==b))):=by simp[neF,dLe,eqD]
theorem u4{a b:Str}:neF (.str a) (.str b)=some (.bl (!(a==b))):=by simp[neF,dLe,eqD]
theorem um{a b:Bool}:neF (.bl a) (.bl b)=some (.bl (!(a==b))):=by simp[neF,dLe,eqD]
end
end L2
namespace HT
open PySem PyProof.Rows
section
variable{prog:C1}{w:F8}{A:D4}{E:o0->z4->Prop}{s:z4}
theorem iH{t:A1}{a:Array o0}{Q:Bool->z4->Prop}(b:ad1 s.heap t a)(h:Q true s):B3 (D3 prog w) A (E4.Tuple.tupleIsExact (.ref t)) Q E s:=by
 unfold E4.Tuple.tupleIsExact;exact u8 (aa2 b.typeIs (z7 (by simpa using h)))
theorem getItem_tuple_whole{t j:A1}{a:Array o0}{m o:o0}{lo e:Option Int}{Q:o0->z4->Prop}(b:ad1 s.heap t a)(n:s.heap.IsSliceOf j m o .none)(pl:ab6 m lo)(p:ab6 o e)
  (l:sIx a.size 0 lo=0/\sIx a.size a.size e=a.size) (h:Q (.ref t) s):B3 (D3 prog w) A (ab9 (.ref t) (.ref j)) Q E s:=by
 obtain⟨os,i,g,q⟩:=id n;have f:s.TypeIs (.ref j) "slice":=⟨os,i,g⟩;unfold ab9
 try with_reducible refine K0 ?_
 first|refine u8 (z7 ?_)|skip
 refine u8 (wpAny_sequenceKey b.typeIs (by decide) ?_);refine u8 (wpAny_callSpecial?_slot (name:=z8 "__getitem__") b.typeIs E9
  (wpAny_call_entry E9 b.typeIs entry_tuple_getitem ?_ (args_tuple_getitem _ _)))
 show B3 _ _ (E4.Tuple.tupleItemsOf (.ref t) >>= _) _ _ s;refine u8 (tupleItemsOf_ b ?_);refine u8 (aa2 f ?_);rw[if_pos (by decide)];refine u8 (cU n pl p ?_);show B3 _ _ (if(((sIx a.size 0 lo:Nat):Int)==0&&(1:Int)==1&&(sIx a.size a.size e-sIx a.size 0 lo)==a.size)=true then _ else _) _ _ s;rw[if_pos (by rw[l.1,l.2];simp)];refine u8 (iH b ?_);rw[if_pos rfl];refine u8 (wpAny_rule ?_)
 first
  |exact z7 ⟨_,rfl,z7 h⟩
  |exact u8 (z7 (z7 ⟨_,rfl,z7 h⟩))
end
end HT
namespace L2
open PySem PySem.Spec PyProof.Rows
section
variable{X:Cx}{a b c e:C5}{B:List C5}{te E G J:TEd}{t:TAd}{pos:Pos}
def slE:D->Option Int->Option Int->Option D
 |.tup b,lo,a=>some (.tup (dS b lo a))
 |d,lo,a=>slD d lo a
def ya(K:s0):V->Option Int->Option Int->Hp->VK->Prop:=λx lo e H Q=>∃a b,x=.ref a/\SqT K H a b/\(HT.sIx b.length 0 lo=0/\HT.sIx b.length b.length e=b.length)/\Q (.ref a) H
theorem qf:SlR X (ya X.K):=by
 intro l s m H x v vl vu lo hi sl Q I rx hs pl pu h;obtain⟨a,j,rfl,i,g,q⟩:=h;cases rx;obtain⟨b,r,e,n⟩:=I.tuple i;have f:b.toArray.size=j.length:=by rw[A3];exact r.length.symm
 exact⟨"tuple",_,E9.lookup,e.typeIs,HT.getItem_tuple_whole e hs pl pu (by rw[f];exact g) ⟨.ref a,H,I,rfl,q⟩⟩
theorem lB{ds:List D}{lo a:Option Int}(h:HT.sIx ds.length 0 lo=0/\HT.sIx ds.length ds.length a=ds.length):dS ds lo a=ds:=by
 unfold dS;rw[h.1,h.2];simp
def wu(te:TEd)(f e:TOd):TEd:=λa M Q=>te a M λx M1=>f a M1 λl M2=>e a M2 λu b=>∃z,slE (rdM b x) l u=some z/\Q z b
theorem wV{ds:List D}{lo a:Option Int}:slE (.tup ds) lo a=some (.tup (dS ds lo a)):=rfl
theorem wt{ds:List D}{lo a:Option Int}:slE (.lst ds) lo a=some (.lst (dS ds lo a)):=rfl
theorem xI{ds:List D}{lo a:Option Int}:slE (.scr ds) lo a=some (.lst (dS ds lo a)):=rfl
theorem wU{x:Str}{lo a:Option Int}:slE (.str x) lo a=if x.length<=A0 then some (.str (V6 x lo a))else none:=rfl
def pG:TSd:=λ_ _ _=>False
variable{g:T0}{O:List (Str×A1)}{aq:List Str}{R:C5}
end
section
variable{X:Cx}{a b c e:C5}{O:List C5}{te W Y ts:TEd}{t:TAd}{pos:Pos}
def inE(a:Bool)(x y:D):Option D:=match y with
 |.str j=>match x with
  |.str i=>some (.bl (xor a (!(Q5 j i 0 j.length 1).isEmpty)))
  |_=>none
 |y=>inD a x y
theorem td:bu X (E3 .In) (inE false):=by
 intro a s b H M x y v u dx dy dz Q I hr rx ry r1 r2 e k;cases dy with
 |str j =>
  cases dx with
  |str i =>
   cases e;exact nt a s b H x y v u Q I rx ry ⟨i,j,iF r1,iF r2,k _ H (Ext.refl _ _) hr (by simp[Rep])⟩
  |_=>cases e
 |_=>exact yq a s b H M x y v u dx _ dz Q I hr rx ry r1 r2 e k
theorem om:bu X (E3 .NotIn) (inE true):=by
 intro a s b H M x y v u dx dy dz Q I hr rx ry r1 r2 e k;cases dy with
 |str j =>
  cases dx with
  |str i =>
   cases e;exact jD a s b H x y v u Q I rx ry ⟨i,j,iF r1,iF r2,k _ H (Ext.refl _ _) hr (by simp[Rep])⟩
  |_=>cases e
 |_=>exact rg a s b H M x y v u dx _ dz Q I hr rx ry r1 r2 e k
theorem v4{b:Bool}{x:D}{ds:List D}:inE b x (.lst ds)=if aQ x=true/\ds.all aQ=true then some (.bl (xor b (ds.any λd=>eqD d x)))else none:=rfl
theorem vO{b:Bool}{x:D}{ds:List D}:inE b x (.tup ds)=if aQ x=true/\ds.all aQ=true then some (.bl (xor b (ds.any λd=>eqD d x)))else none:=rfl
theorem ou{b:Bool}{c:Nat}{y:Str}:inE b (.str (tx [c])) (.str y)=some (.bl (xor b (decide (c∈y.cps.toList)))):=by
 show some (D.bl (xor b (!(Q5 y ⟨#[c]⟩ 0 y.length 1).isEmpty)))=_;rw[StrLaws.found_one]
theorem fM:fillsNumberSlot (.type "tuple") "mul"=W1 false :=
 PySem.fillsNumberSlot_seq (id:="tuple.__mul__") (r:=some (.builtin "tuple.__rmul__")) F.slot_tuple_mul.lookup (by decide +kernel) F.slot_tuple_rmul.lookup (by decide +kernel)
theorem j0:seqRepeat? (.type "tuple")=W1 (some (.builtin "tuple.__mul__")):=by
 unfold seqRepeat?;rw[PySem.seqSlot_of (T:="tuple") (name:="__mul__") (id:="tuple.__mul__") F.slot_tuple_mul.lookup (by decide +kernel),PySem.seqSlot_of (T:="tuple") (name:="__rmul__") (id:="tuple.__rmul__") F.slot_tuple_rmul.lookup (by decide +kernel)];rfl
theorem hG(a:Int)(t:Tok)(l:A1)(b:Array o0):
  Meets (E4.«int.__rmul__» ⟨[.int a t,.ref l],[]⟩) (λ_ R s=>ad1 s.heap l b/\R (.ok (.ret o0.notImplemented)) s) :=
 .of_wp λprog w A R s h=>by
  obtain⟨m,g,d,p,os⟩:=s;obtain⟨⟨⟨cls,j,i,o⟩,q,f,n,e⟩,h⟩:=h;simp only at f e;subst f e
  wp_walk;exact⟨_,rfl,h⟩
theorem iB(l:A1)(b:Array o0)(x:Int)(u:Tok)(e:b.isEmpty=false)(E:2<=x)(t:x<2 ^ 62)(p:b.size*x.toNat<=A0):
  Meets (E4.«tuple.__mul__» ⟨[.ref l,.int x u],[]⟩) (λ_ R s=>ad1 s.heap l b/\R (.ok (.ret (.ref s.heap.objs.size))) { s with heap:=s.heap.push { cls:=.type "tuple",data:=.seq (z5 x.toNat b.toList).flatten.toArray } }) :=
 .of_wp λprog w A R s h=>by
  obtain⟨j,h⟩:=h;show B3 _ _ (do
   let n <-asIndex (.int x u)
   if n < -(2 ^ 63) || n>=2 ^ 63 then
    rule "tuple.repeat.overflow";raiseError "OverflowError" s!"cannot fit '{← typeNameOf (.int x u)}' into an index-sized integer"
   let f <-E4.Tuple.tupleItemsOf (.ref l)
   if f.isEmpty || n==1 then
    if <-E4.Tuple.tupleIsExact (.ref l)then rule "tuple.repeat.same-object";return <-ret (.ref l)
   if n<=0 || f.isEmpty then return <-ret (<-J0 #[])
   if f.size*n > (2 ^ 63-1) / 8 then rule "tuple.repeat.no-memory";raiseNew (<-newExc (.type "MemoryError") [])
   if E4.Tuple.tupleTooMany (f.size*n)then unsupported "tuple.__mul__:memory"
   ret (<-J0 ((z5 n.toNat f).foldl (·++·) #[]))) _ _ s
  refine u8 (wpAny_of_eq (a:=x) rfl ?_);dsimp only;rw[if_neg (by simp only[Bool.or_eq_true,decide_eq_true_eq];lia)];refine u8 (tupleItemsOf_ j ?_);rw[if_neg (by simp[e];lia)];rw[if_neg (by simp[e];lia)];have g:((x.toNat:Nat):Int)=x:=by lia
  have i:(b.size:Int)*x=((b.size*x.toNat:Nat):Int):=by rw[Int.natCast_mul,g]
  have q:A0=16777216:=rfl;rw[if_neg (by rw[i];lia)];rw[if_neg (by unfold E4.Tuple.tupleTooMany;rw[i];simp only[decide_eq_true_eq];lia)];have C:ac0 (λz B=>z++B) #[] (z5 x.toNat b)=(z5 x.toNat b.toList).flatten.toArray:=by
   have:=fP b.toList x.toNat [];rw[E1]at this;simpa using this
  rw[C];have o:sizeOk (.seq (z5 x.toNat b.toList).flatten.toArray):=by
   show(z5 x.toNat b.toList).flatten.toArray.size<=A0;rw[A3,js,Q4,Nat.mul_comm];exact p
  exact u8 (m:=J0 _) (N8 (z7 ⟨_,rfl,h⟩) o)
theorem ai.rep{K:s0}{M:DH}{H:Hp}{ds:List D}{a:List V}(h:ai K M H ds a):∀k:Nat,ai K M H (z5 k ds).flatten (z5 k a).flatten
 |0=>ai.nil
 |k+1=>by
  rw[E6,E6,N9,N9];exact h.append (ai.rep h k)
def ma:D->D->Option D
 |.int a,.int b=>if fG a b then some (.int (a*b))else none
 |.str x,.int n=>if x.length<=16777216/\-(2 ^ 63)<=n/\n<=16777216/\x.length*n.toNat<=16777216 then some (.str (Txt.mul x n))else none
 |.tup e,.int n=>if 2<=n/\n<2 ^ 62/\e≠[]/\e.length*n.toNat<=A0 then some (.tup (z5 n.toNat e).flatten)else none
 |.lst e,.int n=>if -(2 ^ 63)<=n/\n<2 ^ 63/\e.length*n.toNat<=A0 then some (.lst (z5 n.toNat e).flatten)else none
 |_,_=>none
theorem b7:bu X (M7 .Mult) ma:=by
 intro G s L H M x y v u dx dy dz Q I hr rx ry r1 r2 e k;cases dx with
 |int a =>
  cases dy with
  |int b=>exact uz G s L H M x y v u _ _ dz Q I hr rx ry r1 r2 e k
  |_=>cases e
 |str z =>
  cases dy with
  |int n =>
   simp only[ma]at e
   by_cases f:z.length<=16777216/\-(2 ^ 63)<=n/\n<=16777216/\z.length*n.toNat<=16777216
   ·rw[if_pos f]at e;cases e;have P:=iF r1;have C:=eN r2;subst P;subst C;obtain⟨Z,rfl⟩:=rx;obtain⟨m,rfl⟩:=ry;have w:MulOk z n:=by
     by_cases hn:0<=n
     ·exact mulOk_of z.length n.toNat (B8 _) (by lia) f.2.1 (by lia) f.2.2.2
     ·exact mulOk_of z.length 0 (B8 _) (by lia) f.2.1 (by lia) (by lia)
    exact SB.mul w λJ Y=>⟨.str _,H,I.tok _,⟨J,rfl⟩,k _ H (Ext.refl _ _) hr (by simp[Rep])⟩
   ·rw[if_neg f]at e;cases e
  |_=>cases e
 |tup j =>
  cases dy with
  |int n =>
   simp only[ma]at e
   by_cases f:2<=n/\n<2 ^ 62/\j≠[]/\j.length*n.toNat<=A0
   ·rw[if_pos f]at e;cases e;have C:=eN r2;subst C;obtain⟨m,rfl⟩:=ry;obtain⟨a,t,rfl,sq,i⟩:=r1;cases rx;obtain⟨g,E,pt,hz⟩:=I.tuple sq;have l:=E.length;have h:=i.length;have A:g.toArray.isEmpty=false:=by
     cases g with
     |nil =>
      have N:j.length=0:=by rw[h,l];rfl
      exact absurd (List.length_eq_zero_iff.mp N) f.2.2.1
     |cons _ _=>rfl
    have B:g.toArray.size*n.toNat<=A0:=by rw[A3,<-l,<-h];exact f.2.2.2
    refine wpAny_binaryOp_repeat_ref (T:="tuple") (U:="int") (by decide) pt.typeIs (λO=>aa5 O n m) fM F.fills_int_mul X0 j0 F.slot_int_index.lookup
     (V0 X0 (aa5 s n m) F.entry_int_rmul (F.args_int_rmul_2 _ _) (hG n m a g.toArray)
      ⟨pt,rfl,pt.typeIs,V0 F.slot_tuple_mul pt.typeIs F.entry_tuple_mul (F.args_tuple_mul_2 _ _) (iB a g.toArray n m A f.1 f.2.1 B) ⟨pt,?_⟩⟩)
    have S:au (z5 n.toNat t).flatten (z5 n.toNat g).flatten:=E.rep n.toNat;refine⟨.ref s.heap.objs.size,_,I.laid (t':=s.toks) (o:=.tup (z5 n.toNat t).flatten) (λb ob q=>z6 _ q) (B8 _) ?_,rfl,?_⟩
    ·refine⟨?_,_,S,by simpa using ia.new _ _⟩;rw[js,Nat.mul_comm,<-h];exact f.2.2.2
    ·exact jA hr (I.hok.fresh (B8 _)) (i.rep n.toNat) k
   ·rw[if_neg f]at e;cases e
  |_=>cases e
 |lst j =>
  cases dy with
  |int n =>
   simp only[ma]at e
   by_cases f:-(2 ^ 63)<=n/\n<2 ^ 63/\j.length*n.toNat<=A0
   ·rw[if_pos f]at e;cases e;obtain⟨a,t,rfl,sq,i⟩:=r1;exact tQ G s L H _ _ v u Q I rx ry ⟨a,n,t,rfl,eN r2,sq,f.1,f.2.1,by rw[<-i.length];exact f.2.2,λp R=>gN hr R (i.rep n.toNat) k⟩
   ·rw[if_neg f]at e;cases e
  |_=>cases e
 |_=>cases e
theorem qY{a b:Int}:ma (.int a) (.int b)=if fG a b then some (.int (a*b))else none:=rfl
def pA:D->Bool
 |.non=>true
 |_=>false
def jO(a:Bool)(x y:D):Option D:=match y with|.non=>some (.bl (xor a (pA x)))|_=>none
theorem mw{K:s0}{M:DH}{H:Hp}{d:D}{x:V}(r:aG K M H d x):decide (x=V.non)=pA d:=by
 cases d with
 |tup e=>obtain⟨a,b,rfl,_⟩:=r;rfl
 |lst e=>obtain⟨a,b,rfl,_⟩:=r;rfl
 |scr e=>obtain⟨a,b,rfl,_⟩:=r;rfl
 |emp=>simp only[aG,Rep]at r;obtain⟨a,rfl,_⟩:=r;rfl
 |box _ _=>simp only[aG,Rep]at r;obtain⟨a,_,rfl,_⟩:=r;rfl
 |_=>simp only[aG,Rep]at r;subst r;rfl
theorem rS:bu X (E3 .Is) (jO false):=by
 intro a s b H M x y v u dx dy dz Q I hr rx ry r1 r2 e k;cases dy with
 |non =>
  cases e;refine uU a s b H x y v u Q I rx ry ⟨vM r2,?_⟩;rw[mw r1];exact k _ H (Ext.refl _ _) hr (by simp[Rep])
 |_=>cases e
theorem sg:bu X (E3 .IsNot) (jO true):=by
 intro a s b H M x y v u dx dy dz Q I hr rx ry r1 r2 e k;cases dy with
 |non =>
  cases e;refine so a s b H x y v u Q I rx ry ⟨vM r2,?_⟩;rw[mw r1];exact k _ H (Ext.refl _ _) hr (by simp[Rep])
 |_=>cases e
theorem nF{b:Bool}{x:D}:jO b x .non=some (.bl (xor b (pA x))):=rfl
variable{B:T0}{cl:List (Str×A1)}{ms:List Bool}{aq:List Str}{G:List C5}{tg E J:C5}
end
@[irreducible] def QEd(X:Cx)(e:C5)(t:TEd):Prop:=PEd X e t
theorem QEd.eq{X:Cx}{e:C5}{t:TEd}:QEd X e t=(PEd X e t):=by unfold QEd;rfl
@[irreducible] def QAd(X:Cx)(e:List C5)(t:TAd):Prop:=PAd X e t
theorem QAd.eq{X:Cx}{e:List C5}{t:TAd}:QAd X e t=(PAd X e t):=by unfold QAd;rfl
@[irreducible] def QTd(X:Cx)(e:C5)(t:TTd):Prop:=PTd X e t
theorem QTd.eq{X:Cx}{e:C5}{t:TTd}:QTd X e t=(PTd X e t):=by unfold QTd;rfl
@[irreducible] def QWd(X:Cx)(e:C5)(t:TTd):Prop:=PWd X e t
theorem QWd.eq{X:Cx}{e:C5}{t:TTd}:QWd X e t=(PWd X e t):=by unfold QWd;rfl
@[irreducible] def QSd(X:Cx)(e:P9)(t:TSd):Prop:=PSd X e t
theorem QSd.eq{X:Cx}{e:P9}{t:TSd}:QSd X e t=(PSd X e t):=by unfold QSd;rfl
@[irreducible] def QSs(X:Cx)(e:List P9)(t:TSd):Prop:=qR X e t
theorem QSs.eq{X:Cx}{e:List P9}{t:TSd}:QSs X e t=(qR X e t):=by unfold QSs;rfl
@[irreducible] def QId(X:Cx)(a e:C5)(t:TId):Prop:=PId X a e t
theorem QId.eq{X:Cx}{a e:C5}{t:TId}:QId X a e t=(PId X a e t):=by unfold QId;rfl
@[irreducible] def QIf(X:Cx)(e:List C5)(t:TTd):Prop:=xi X e t
theorem QIf.eq{X:Cx}{e:List C5}{t:TTd}:QIf X e t=(xi X e t):=by unfold QIf;rfl
@[irreducible] def QOd(X:Cx)(e:Option C5)(t:TOd):Prop:=POd X e t
theorem QOd.eq{X:Cx}{e:Option C5}{t:TOd}:QOd X e t=(POd X e t):=by unfold QOd;rfl
theorem af{X:Cx}(i:Nat){x:Str}{pos:Pos}(f:X.N[i]?=some x:=by rfl)(j:Vis X.env.scope x:=by first|exact J6 rfl|exact Z9 (J6 rfl)|exact Z9 (Z9 rfl))(b:(x==("__debug__":Str))=false:=by decide)
  (a:(x==("__classdict__":Str))=false:=by decide):QEd X (.Name x pos) (qN i):=by
 simp only[QEd.eq]at *
 exact(oD f j b a).conv λo H Q ⟨n,M,R,g,l,⟨d,e,q⟩,k⟩=>let⟨v,m,h⟩:=g.2 i d e;⟨v,m,k d M v H q (Ext.refl _ _) l h⟩
theorem aj{X:Cx}{i j pos}:QEd X (.Constant (.int i) j pos) (dC (.int i)):=by
 simp only[QEd.eq]at *
 exact u5.conv λe H Q a=>a.el λg M R f b q k=>k _ M _ H q (Ext.refl _ _) b (by simp[Rep])
theorem n5{X:Cx}{i j pos}:QEd X (.Constant (.bool i) j pos) (dC (.bl i)):=by
 simp only[QEd.eq]at *
 exact xH.conv λe H Q a=>a.el λg M R f b q k=>k _ M _ H q (Ext.refl _ _) b (by simp[Rep])
theorem ao{X:Cx}{i j pos}:QEd X (.Constant (.str i) j pos) (dC (.str i)):=by
 simp only[QEd.eq]at *
 exact pI.conv λe H Q a=>a.el λg M R f b q k=>k _ M _ H q (Ext.refl _ _) b (by simp[Rep])
theorem bM{X:Cx}{j pos}:QEd X (.Constant .none j pos) (dC .non):=by
 simp only[QEd.eq]at *
 exact uc.conv λe H Q a=>a.el λg M R f b q k=>k _ M _ H q (Ext.refl _ _) b (by simp[Rep])
theorem ie{X:Cx}{x:Str}{i:Int}{pos:Pos}(hg:Gl X x)(e:∃f,X.mg x=some (.int i f))(a:(x==("__debug__":Str))=false:=by decide):QEd X (.Name x pos) (dC (.int i)):=by
 simp only[QEd.eq]at *
 obtain⟨t,b⟩:=e;exact sE hg b a
theorem kB{X:Cx}{x y:Str}{pos:Pos}(hg:Gl X x)(e:∃f,X.mg x=some (.str y f))(a:(x==("__debug__":Str))=false:=by decide):QEd X (.Name x pos) (dC (.str y)):=by
 simp only[QEd.eq]at *
 obtain⟨t,b⟩:=e;exact rM hg b a
theorem ak{X:Cx}:QAd X [] uA:=by
 simp only[QAd.eq]at *
 exact cK.conv λe H Q a=>a.el λg M R f b q k=>k _ M _ H q (Ext.refl _ _) b ai.nil
theorem ae{X:Cx}{a:C5}{b:List C5}{m:TEd}{l:TAd}(ha:QEd X a m)(hr:QAd X b l)(w:z9 (a::b) X.env=(false,M6 a X.env)::z9 b X.env:=by rfl):QAd X (a::b) (mG m l):=by
 simp only[QEd.eq,QAd.eq]at *
 exact(bp ha hr w).conv λB H Q f=>f.el λj M R n hr q k=>⟨j,M,_,n,hr,q,λd M1 v x p i g s=>⟨j,M1,_,n.ext i,g,p,λz M2 A t u o h e =>
   k _ M2 _ t u (i.trans o) h (ai.cons (s.ext o) e)⟩⟩
theorem e6{X:Cx}{f:List C5}{pos:Pos}{x1}{t:TAd}(h:QAd X f t):QEd X (.Tuple f x1 pos) (xn t):=by
 simp only[QEd.eq,QAd.eq]at *
 exact(uN h).conv λu H Q e=>e.el λm M R n o q k=>⟨m,M,_,n,o,q,λw M1 i s ⟨z,j⟩ l a g=>⟨by rw[<-g.length];exact z,λp b=>k _ M1 _ _ j (l.trans (Ext.new a b)) (a.new b) (by
   simp only[Rep];exact⟨p,i,rfl,.inl ⟨.inl aM,a.fresh b⟩,g.ext (Ext.new a b)⟩)⟩⟩
theorem dQ{X:Cx}{f:List C5}{pos:Pos}{t:TAd}(h:QAd X f t):QEd X (.List f pos) (wz t):=by
 simp only[QEd.eq,QAd.eq]at *
 exact(p6 h).conv λu H Q e=>e.el λm M R n o q k=>⟨m,M,_,n,o,q,λw M1 i s ⟨z,j⟩ l a g=>⟨by rw[<-g.length];exact z,λp b=>k _ M1 _ _ j (l.trans (Ext.new a b)) (a.new b) (by
   simp only[Rep];exact⟨p,i,rfl,⟨aM,a.fresh b⟩,g.ext (Ext.new a b)⟩)⟩⟩
theorem jw{X:Cx}{f:List C5}{pos:Pos}{t:TAd}(h:QAd X f t):QEd X (.List f pos) (sU t):=by
 simp only[QEd.eq,QAd.eq]at *
 exact(p6 h).conv λu H Q b=>b.el λl M R m n q k=>⟨l,M,_,m,n,q,λw M1 o s ⟨z,i⟩ j a g=>⟨by rw[<-g.length];exact z,λp e=>k _ _ _ _ (i p (a.fresh e)) (j.trans (Ext.own e)) (a.own e g) (by
   simp only[Rep])⟩⟩
theorem aD{X:Cx}{a:C5}{b:C5}{e:TEd}{f:TEd}{pos:Pos}{g:Operator}{r:D->D->Option D}(i:bu X (M7 g) r)(ha:QEd X a e)(h:QEd X b f):QEd X (.BinOp a g b pos) (dOp r e f):=by
 simp only[QEd.eq]at *
 exact(tM i.v ha h).conv og
theorem gc{X:Cx}{a:C5}{b:C5}{f:TEd}{g:TEd}{pos:Pos}{e:CmpOp}{r:D->D->Option D}(j:bu X (E3 e) r)(ha:QEd X a f)(h:QEd X b g)(i:S1 e b=false):QEd X (.Compare a [e] [b] pos) (dOp r f g):=by
 simp only[QEd.eq]at *
 exact(qS j.v ha h i).conv og
theorem cC{X:Cx}{a:C5}{b:C5}{e:TEd}{f:TEd}{pos:Pos}{r:D->D->Option D}(i:IxR X (opV X.K r))(ha:QEd X a e)(g:QEd X b f)(h:mq b):QEd X (.Subscript a b pos) (dOp r e f):=by
 simp only[QEd.eq]at *
 exact(xv i ha g h).conv og
theorem wx{X:Cx}{a:C5}{p:TEd}{pos:Pos}{o:UnaryOp}{r:D->Option D}(N:wm X (unaryOp o) r)(ha:QEd X a p):QEd X (.UnaryOp o a pos) (dUn r p):=by
 simp only[QEd.eq]at *
 have h:UnR X (unaryOp o) (λx H Q=>∃i g M,HR X.K M H/\aG X.K M H i x/\r i=some g/\∀w b,Ext M H M b->HR X.K M b->Rep X.K M b g w->Q w b):=λO s t H x v Q I B ⟨i,g,M,m,P,e,k⟩=>N O s t H M x v i g Q I m B P e k;exact(wF h ha).conv λt H Q j=>j.el λG M R J m q k=>⟨G,M,_,J,m,q,λx M1 v S ⟨z,u,A⟩ E f C=>⟨_,z,M1,f,C.rd f,u,λw b L l n=>k z M1 w b A (E.trans L) l n⟩⟩
theorem aH{X:Cx}{a:C5}{b:C5}{o:TEd}{l:TEd}{pos:Pos}{g:CmpOp}{r:D->D->Option D}(P:bu X (E3 g) r)(ha:QEd X a o)(J:QEd X b l)(O:S1 g b=false):QTd X (.Compare a [g] [b] pos) (qT (dOp r o l)):=by
 simp only[QEd.eq,QTd.eq]at *
 refine(qV P.v ha J O).conv λU H Q h=>?_;obtain⟨n,M,R,p,E,q,k⟩:=h;exact⟨n,M,_,p,E,q,λx M1 v S A m j C=>⟨n,M1,_,p.ext m,j,A,λy M2 u T ⟨z,t,b,N,I⟩ s e G=>⟨_,_,z,M2,e,(C.ext s).rd e,G.rd e,t,λw B L f i =>
  ⟨b,by subst N;simpa only[Rep]using i,k b M2 B I ((m.trans s).trans L) f⟩⟩⟩⟩
theorem dJ{X:Cx}{a:C5}{e:TEd}(h:QEd X a e)(he:∀b,isTrue a X.env b=(do let v <-b;ac4 a.pos;Z1 [v] (truthy v)):=by intro _;rfl):QTd X a (qT e):=by
 simp only[QEd.eq,QTd.eq]at *
 exact(tZ h he).conv vX
theorem gP{X:Cx}{a:C5}{pos:Pos}{g:TTd}(h:QTd X a g):QTd X (.UnaryOp .Not a pos) (tG g):=by
 simp only[QTd.eq]at *
 exact(uu h).conv λp H Q e=>e.el λl M R n o q k=>⟨l,M,_,n,o,q,λb M1 m i j f=>k _ M1 m i j f⟩
theorem mX{X:Cx}{a:C5}{pos:Pos}{b:TTd}(ha:QTd X a b):QWd X (.BoolOp .And [a] pos) b:=by
 simp only[QTd.eq,QWd.eq]at *
 exact rO ha
theorem jm{X:Cx}{a:C5}{pos:Pos}{b:TTd}(ha:QTd X a b):QWd X (.BoolOp .Or [a] pos) b:=by
 simp only[QTd.eq,QWd.eq]at *
 exact vB ha
theorem ot{X:Cx}{a:C5}{b:C5}{pos:Pos}{l:TTd}{e:TTd}{rest:List C5}(ha:QTd X a l)(u:QWd X (.BoolOp .And (b::rest) pos) e):QWd X (.BoolOp .And (a::b::rest) pos) (sR l e):=by
 simp only[QTd.eq,QWd.eq]at *
 exact(uM ha u).conv λx H Q i=>i.el λm M R n p q k=>⟨m,M,_,n,p,q,λc M1 o g h f=>by
   cases c with
   |true=>simp only[if_true]at g ⊢;exact⟨m,M1,R,n.ext h,f,g,λb M2 s t w j=>k b M2 s t (h.trans w) j⟩
   |false=>simp only[A6,if_false]at g ⊢;exact k _ M1 o g h f⟩
theorem kl{X:Cx}{a:C5}{b:C5}{pos:Pos}{l:TTd}{e:TTd}{rest:List C5}(ha:QTd X a l)(u:QWd X (.BoolOp .Or (b::rest) pos) e):QWd X (.BoolOp .Or (a::b::rest) pos) (wb l e):=by
 simp only[QTd.eq,QWd.eq]at *
 exact(xB ha u).conv λx H Q i=>i.el λm M R n p q k=>⟨m,M,_,n,p,q,λc M1 o g h f=>by
   cases c with
   |false=>simp only[A6,if_false]at g ⊢;exact⟨m,M1,R,n.ext h,f,g,λb M2 s t w j=>k b M2 s t (h.trans w) j⟩
   |true=>simp only[if_true]at g ⊢;exact k _ M1 o g h f⟩
theorem gm{X:Cx}{a:C5}{b:TEd}{pos:Pos}{op}(h:QEd X a b):QEd X (.BoolOp op [a] pos) b:=by
 simp only[QEd.eq]at *
 exact uv h
theorem dB{X:Cx}{a:C5}{b:C5}{n:TEd}{l:TEd}{pos:Pos}{rest:List C5}(ha:QEd X a n)(z:QEd X (.BoolOp .And (b::rest) pos) l):QEd X (.BoolOp .And (a::b::rest) pos) (vT n l):=by
 simp only[QEd.eq]at *
 exact(uO ha z).conv λC H Q i=>i.el λm M R o t q k=>⟨m,M,_,o,t,q,λd M1 v p ⟨c,e,g⟩ h f s=>⟨c,by subst e;simpa only[Rep]using s,by
   cases c with
   |true=>simp only[if_true]at g ⊢;exact⟨m,M1,R,o.ext h,f,g,λb M2 u w x A j B=>k b M2 u w x (h.trans A) j B⟩
   |false=>simp only[A6,if_false]at g ⊢;exact k _ M1 _ p g h f (by simp[Rep])⟩⟩
theorem wg{X:Cx}{a:C5}{g:TEd}{pos:Pos}(ha:QEd X a g):QEd X (.UnaryOp .Not a pos) (wN g):=by
 simp only[QEd.eq]at *
 exact(uJ ha).conv λp H Q b=>b.el λj M R m n q k=>⟨j,M,_,m,n,q,λd M1 v l ⟨c,e,h⟩ i f o =>
  ⟨c,by subst e;simpa only[Rep]using o,k _ M1 _ l h i f (by simp[Rep])⟩⟩
theorem uf{X:Cx}{a:C5}{b:C5}{c:C5}{w:TEd}{u:TEd}{pos:Pos}{t:TTd}(x:QTd X c t)(ha:QEd X a w)(A:QEd X b u):QEd X (.IfExp c a b pos) (dIf t w u):=by
 simp only[QEd.eq,QTd.eq]at *
 exact(pC x ha A).conv λC H Q n=>n.el λm M R o z q k=>⟨m,M,_,o,z,q,λc M1 B g h f=>by
   cases c with
   |true=>simp only[if_true]at g ⊢;exact⟨m,M1,R,o.ext h,f,g,λb M2 i j l p e s=>k b M2 i j l (h.trans p) e s⟩
   |false=>simp only[A6,if_false]at g ⊢;exact⟨m,M1,R,o.ext h,f,g,λb M2 i j l p e s=>k b M2 i j l (h.trans p) e s⟩⟩
theorem mh{X:Cx}{a:C5}{b:C5}{c:C5}{L:TEd}{E:TEd}{pos:Pos}{tc:TEd}{o e:CmpOp}{r G:D->D->Option D}(ho:bu X (E3 o) r)(B:bu X (E3 e) G)(ha:QEd X a L)(hb:QEd X b E)(S:QEd X c tc)
  (hm:lastMarks [o,e] [b,c]=false:=by with_unfolding_all rfl):QEd X (.Compare a [o,e] [b,c] pos) (oa r G L E tc):=by
 simp only[QEd.eq]at *
 refine(pP ho.v B.v ha hb S hm).conv λσ H Q h=>?_;obtain⟨s,M,R,A,Y,q,k⟩:=h;refine⟨s,M,_,A,Y,q,λx M1 v H1 O l C U=>⟨s,M1,_,A.ext l,C,O,λy M2 u H2 ⟨b,eb,j⟩ n g I=>⟨_,_,.bl b,M2,g,(U.ext n).rd g,I.rd g,eb,λw Z m i p =>
  ⟨b,by simpa only[Rep]using p,?_⟩⟩⟩⟩
 cases b with
 |true =>
  simp only[if_true]at j ⊢;exact⟨s,M2,_,(A.ext (l.trans n)).ext m,i,j,λz N w4 H4 ⟨d,ed,q4⟩ J f r4=>⟨_,_,d,N,f,((I.ext m).ext J).rd f,r4.rd f,ed,λw5 H5 T t P=>k d N w5 H5 q4 ((((l.trans n).trans m).trans J).trans T) t P⟩⟩
 |false =>
  simp only[A6,if_false]at j ⊢;exact k _ M2 _ Z j ((l.trans n).trans m) i (by simp[Rep])
theorem aN{X:Cx}{pos:Pos}{x:Str}{p:Pos}{e:C5}{a:List C5}{t:TAd}{id:String}{r:List D->Option D}(b:bU X (.builtin id) r)(hg:Gl X x)(g:X.mg x=none)(f:O8 x=some (.builtin id))(ha:QAd X (e::a) t)(h:x≠"__name__":=by decide)(hdb:(x==("__debug__":Str))=false:=by decide)
  (he:z9 (e::a) X.env=(false,M6 e X.env)::z9 a X.env:=by rfl) (hpl:(K6 pos (z9 a X.env)).any (·.1)=false:=by rfl):QEd X (.Call (.Name x p) (e::a) [] pos) (dCB r t):=by
 simp only[QEd.eq,QAd.eq]at *
 exact(eX b.v hg g f ha h hdb he hpl).conv tq
theorem kH{X:Cx}{pos:Pos}{x:Str}{p:Pos}{e:C5}{a:List C5}{t:TAd}{id:String}{r:List D->Option D}(b:bU X (.type id) r)(hg:Gl X x)(g:X.mg x=none)(f:O8 x=some (.type id))(ha:QAd X (e::a) t)(h:x≠"__name__":=by decide)(hdb:(x==("__debug__":Str))=false:=by decide)
  (he:z9 (e::a) X.env=(false,M6 e X.env)::z9 a X.env:=by rfl) (hpl:(K6 pos (z9 a X.env)).any (·.1)=false:=by rfl):QEd X (.Call (.Name x p) (e::a) [] pos) (dCB r t):=by
 simp only[QEd.eq,QAd.eq]at *
 exact(nI b.v hg g f ha h hdb he hpl).conv tq
theorem aO{X:Cx}:QSs X [] pD:=by
 simp only[QSs.eq]at *
 exact m7.conv λD b H a=>a.el λg M E e f q u=>u.nx g M b H q (Ext.refl _ _) f e
theorem ah{X:Cx}{st:P9}{rest:List P9}{t:TSd}{u:TSd}(g:QSd X st t)(p:QSs X rest u):QSs X (st::rest) (sF t u):=by
 simp only[QSd.eq,QSs.eq]at *
 exact(gT g p).conv λD x H a=>a.el λh M E j l q k=>⟨h,M,{ E with nx:=u E },j,l,q,⟨λf o m w n i b e=>⟨f,o,E,e,b,n,k.ext i⟩,k.bk,k.ct,k.rt⟩⟩
theorem am{X:Cx}{st:P9}{t:TSd}(a:QSd X st t):QSs X [st] t:=by
 simp only[QSd.eq,QSs.eq]at *
 exact jv a
theorem aJ{X:Cx}{e:C5}{te:TEd}{pos:Pos}(he:QEd X e te):QSd X (.Return (some e) pos) (vL te):=by
 simp only[QEd.eq,QSd.eq]at *
 exact(qp he).conv λD h H a=>a.el λb M E f g q k=>⟨b,M,_,f,g,q,k.rt⟩
theorem jL{X:Cx}{e:C5}{te:TEd}{pos:Pos}(he:QEd X e te)(j:W7 e none pos.line X.env=W1 false:=by rfl):QSd X (.Expr e pos) (tK te):=by
 simp only[QEd.eq,QSd.eq]at *
 exact(nh he j).conv λD m H a=>a.el λg M E h n q k=>⟨g,M,_,h,n,q,λd M1 v l i f b _=>k.nx g M1 m l i f b (h.ext f)⟩
theorem a7{X:Cx}{c:C5}{pos:Pos}{t:TSd}{u:TSd}{j l:List P9}{tc:TTd}(m:QTd X c tc)(ha:QSs X j t)(o:QSs X l u):QSd X (.If c j l pos) (vg tc t u):=by
 simp only[QTd.eq,QSd.eq,QSs.eq]at *
 exact(tw m ha o).conv λD s H h=>h.el λg M E i n q k=>⟨g,M,_,i,n,q,λb M1 p e f a=>by
   cases b with
   |true=>simp only[if_true]at e ⊢;exact⟨g,M1,E,i.ext f,a,e,k.ext f⟩
   |false=>simp only[A6,if_false]at e ⊢;exact⟨g,M1,E,i.ext f,a,e,k.ext f⟩⟩
theorem aI{X:Cx}{e:C5}{te:TEd}{pos:Pos}{i:Nat}{x:Str}{a:Pos}(l:X.N.Nodup)(n:X.N[i]?=some x)(u:Loc X.env.scope x)(he:QEd X e te)(s:W7 e (some (.Name x a)) pos.line X.env=W1 false:=by rfl)(w:X.fn x=true∨X.env.scope.names.lookup x=some .local:=by first|exact .inl rfl|exact .inr rfl|assumption):
  QSd X (.Assign [.Name x a] e pos) (ut i te):=by
 simp only[QEd.eq,QSd.eq]at *
 exact(uF l n u he s w).conv λD z H b=>b.el λt M E h p q k=>⟨t,M,_,h,p,q,λd M1 v m j g f o=>k.nx _ M1 _ m j g f ((h.ext g).set i o)⟩
theorem fF{X:Cx}{a:C5}{pos:Pos}{t:C5}{h:TAd}{p:Pos}(hg:Gl X "range")(A:X.mg "range"=none)(ha:QAd X [a] h)(w:z9 [a] X.env=[(false,M6 a X.env)]:=by rfl):QId X t (.Call (.Name "range" p) [a] [] pos) (oy h):=by
 simp only[QAd.eq,QId.eq]at *
 exact(nL hg A ha w).conv λJ H R b=>b.el λx M I z o q k=>⟨x,M,_,z,o,q,λE M1 G m ⟨j,C,l,B,i⟩ u f n=>by
   subst C;obtain⟨v,s,g⟩:=n.one;have e:v=.int j:=by simpa only[Rep]using g
   subst e;subst s;exact⟨j,rfl,l,B,k _ M1 _ m i u f qU⟩⟩
theorem iP{X:Cx}{pos:Pos}{T:C5}{iter:C5}{p:List P9}{wi:TId}{g:GD}{O:TSd}(hp:W8 (D3 X.prog X.w) X.A X.env X.xe)(hc:X.calm=true)(hi:QId X T iter wi)(hg:PGd X T g)(hb:QSs X p O)
  (hs:∀x,P7 iter X.env x=W1 x:=by intro _;rfl):QSd X (.For T iter p [] pos) (wR wi g O):=by
 simp only[QSd.eq,QSs.eq,QId.eq]at *
 obtain⟨gv,pg,kg⟩:=hg;refine(ve hp hc hi pg hb hs).conv λD σ H hh=>?_;obtain⟨Y,M,E,Z,hr,q,k⟩:=hh;refine⟨Y,M,_,Z,hr,q,λh M1 J H1 q1 P S it=>?_⟩;refine⟨λi m e n=>∃ a b,m=h.length-i/\i<=h.length/\Ext M1 H1 b n/\HR X.K b n/\SR X.K b n e a/\cJ g O E (h.drop i) a b,⟨h.length,Y,M1,by simp,X1 _,Ext.refl _ _,S,Z.ext P,q1⟩,?_⟩;rintro i m N H2 ⟨L,M2,rfl,a0,u,B,w,A⟩;obtain⟨go,stop⟩:=it M2 H2 u B i
 by_cases o:i<h.length
 ·have hd:h[i]?=some h[i]:=by simp[o]
  obtain⟨g1,y1⟩:=go _ hd;rw[List.drop_eq_getElem_cons o]at A;simp only[cJ]at A;obtain⟨I,eg,f3⟩:=A;refine .inr ⟨g1,λe n=>∃U,U<h.length-i/\∃ a b,U=h.length-(i+1)/\i+1<=h.length/\Ext M1 H1 b n/\HR X.K b n/\SR X.K b n e a/\cJ g O E (h.drop (i+1)) a b,λe n z=>z,λx n hy=>?_⟩;obtain⟨C,G,rx⟩:=y1 x n hy;refine kg _ x N L I M2 n _ (w.ext C) G rx eg λa1 R=>?_;refine⟨I,M2,_,R,G,f3,⟨λa b e j s t f l=>?_,λa b e j s t f l=>?_,λa b e j s t f l=>?_,λd b v j s t f Q=>?_⟩⟩
  ·exact⟨_,by lia,a,b,rfl,o,(u.trans C).trans t,f,l,s⟩
  ·exact k.nx a b e j s (((P.trans u).trans C).trans t) f l
  ·exact⟨_,by lia,a,b,rfl,o,(u.trans C).trans t,f,l,s⟩
  ·exact k.rt d b v j s (((P.trans u).trans C).trans t) f Q
 ·rw[List.drop_eq_nil_of_le (by lia)]at A;exact .inl ⟨stop (by lia),k.nx L M2 N H2 A (P.trans u) B w⟩
theorem cq{X:Cx}:QIf X [] n8:=by
 simp only[QIf.eq]at *
 exact λa s b H Q I ⟨g,M,R,f,e,q,k⟩=>qI a s b H Q I (k true M H q (Ext.refl _ _) e)
theorem u9{X:Cx}{c:C5}{tc:TTd}(h:QTd X c tc):QIf X [c] tc:=by
 simp only[QTd.eq,QIf.eq]at *
 exact rq h
theorem g6{X:Cx}{pos:Pos}{j:C5}{iter:C5}{e:C5}{a:T0}{f:List (Str×A1)}{ms:List Bool}{aq:List Str}{b:List C5}{l:TId}{g:GD}{tc:TTd}{te:TEd}(S:dX X a f ms aq)(n:X.calm=true)(o:QId X j iter l)(hg:PGa X a f aq j g)
  (h:∀C s H i,QIf (aP X a f (X.N++aq) C s H i) b tc) (he:∀C s H i,QEd (aP X a f (X.N++aq) C s H i) e te)
  (m:∀x,P7 iter X.env x=W1 x:=by intro _;rfl):QEd X (.ListComp e [⟨j,iter,b,0⟩] a pos) (dLc ms aq.length l g tc te):=by
 simp only[QEd.eq,QId.eq,QIf.eq]at *
 obtain⟨t,p,q⟩:=hg;exact(uW (tc:=upT X.K tc) S n o p h (oH (te:=up X.K te) he) m).conv (mW q)
theorem r0{X:Cx}{pos:Pos}{l:C5}{iter:C5}{f:C5}{a:T0}{j:List (Str×A1)}{ms:List Bool}{aq:List Str}{h:List C5}{i:Nat}{x:Str}{e b:Pos}{z:TId}{g:GD}{tc:TTd}{te:TEd}(Q:X.N.Nodup)(o:X.N[i]?=some x)(O:X.env.scope.names.lookup x=some .local)
  (t:W7 (.ListComp f [⟨l,iter,h,0⟩] a pos) (some (.Name x b)) e.line X.env=W1 true) (S:dX X a j ms aq) (B:X.calm=true) (G:QId X l iter z) (hg:PGa X a j aq l g)
  (m:∀C s H p,QIf (aP X a j (X.N++aq) C s H p) h tc) (he:∀C s H p,QEd (aP X a j (X.N++aq) C s H p) f te)
  (L:∀x,P7 iter X.env x=W1 x:=by intro _;rfl):QSd X (.Assign [.Name x b] (.ListComp f [⟨l,iter,h,0⟩] a pos) e) (ut i (dLc ms aq.length z g tc te)):=by
 simp only[QEd.eq,QSd.eq,QId.eq,QIf.eq]at *
 obtain⟨Z,U,J⟩:=hg;refine(nK (tc:=upT X.K tc) Q o O t S B G U m (oH (te:=up X.K te) he) L).conv λD Y H P=>?_;obtain⟨N,M,E,w,T,q,k⟩:=P;exact mW J Y H _ ⟨N,M,_,w,T,q,λd M1 v R A u n I=>k.nx _ M1 _ R A u n ((w.ext u).set i I)⟩
theorem pe{X:Cx}{e:C5}{te:TEd}{pos:Pos}{o i:C5}{C G:TEd}{p:Pos}(S:QEd X o C)(N:QEd X i G)(he:QEd X e te)
  (ha:∀ v,aa7 (.Subscript o i p) X.env v = (do
   let f <-Z1 [v] (M6 o X.env)
   let g <-Z1 [v,f] (M6 i X.env)
   ac4 p
   Z1 [v,f,g] (setItem f g v)
   release [v,f,g] []):=by intro _;rfl) (R:swapsWithSole [.Subscript o i p] e pos.line X.env=W1 false:=by rfl) (T:swappedStores [.Subscript o i p] e X.env=W1 none:=by rfl)
  (U:(assignEach [.Subscript o i p] X.env).map (·.2)=[aa7 (.Subscript o i p) X.env]:=by rfl):QSd X (.Assign [.Subscript o i p] e pos) (xh C G te):=by
 simp only[QEd.eq,QSd.eq]at *
 exact(uC he (va S N o9 ha) R T U).conv λD σ H t=>t.el λl M E n Z q k=>⟨l,M,_,n,Z,q,λd M1 v H1 I h u O=>⟨l,M1,_,n.ext h,u,I,λo M2 f H2 q2 s w B=>⟨l,M2,_,(n.ext h).ext s,w,q2,λi M3 g H3 ⟨a,ds,J,j,Y,P,m,L,Q⟩ x b A=>by
   subst Y;subst P;simp only[Rep]at B A;subst B;subst A;obtain⟨vs,hv,z⟩:=b a _ m;refine⟨a,vs,J,j,rfl,rfl,hv,by rw[<-z.length];exact L,?_⟩;exact k.nx l _ σ _ Q (((h.trans s).trans x).trans (Ext.write m)) (b.write m (z.set j ((O.ext s).ext x))) ((((n.ext h).ext s).ext x).ext (Ext.write m))⟩⟩⟩
theorem mN{X:Cx}{e:C5}{te:TEd}{o:C5}{p:TEd}{w h:Pos}(Z:QEd X o p)(he:QEd X e te)(L:F9 o "append" X.env (M6 o X.env)=M6 o X.env:=by rfl)
  (g:z9 [e] X.env=(false,M6 e X.env)::z9 [] X.env:=by rfl)
  (J:((K6 h (z9 [e] X.env)).all (λx => !x.1) && (U3 h (O2 [] X.env)).all (λx => x.1.isSome)
  &&decide ([e].length+([]:List P4).length+(if([]:List P4).isEmpty then 0 else 1)<30))=true:=by rfl)
  (S:(w.endLine==h.line)=true:=by rfl) (Y:(K6 h (z9 [] X.env)).any (·.1)=false:=by rfl):QEd X (.Call (.Attribute o "append" w) [e] [] h) (wd p te):=by
 simp only[QEd.eq]at *
 exact(mf PySem.F.plainAttrs_list PySem.F.slot_list_append PySem.F.type_list_append (show MtR X "list.append" mj from nq) Z (bp he cK g) L J S g Y).conv λσ H Q m=>m.el λt M R u E q k=>⟨t,M,_,u,E,q,λo M1 ov H1 ⟨a,l,B,T,A⟩ s i n=>by
   subst B;simp only[Rep]at n;subst n;obtain⟨O,G,rl⟩:=i a _ T;refine⟨.inl ⟨rfl,O,SqL.of G⟩,t,M1,_,u.ext s,i,A,λd M2 v H2 ⟨ds,b,P,N⟩ U j C=>?_⟩;obtain⟨I,z,f⟩:=j a _ b;refine⟨a,I,v,rfl,rfl,z,by rw[<-f.length];exact P,k _ _ _ _ N ((s.trans U).trans (Ext.write b)) (j.write b (f.append (ai.cons C ai.nil))) (by simp[Rep])⟩⟩
theorem fD{X:Cx}{a:C5}{u:TEd}{pos:Pos}{T:Str}{Tn:String}{p b:Pos}(G:okT Tn=true)(hg:Gl X "isinstance")(E:X.mg "isinstance"=none)(i:Gl X T)(j:X.mg T=none)(f:O8 T=some (.type Tn))(ha:QEd X a u)(m:T≠"__name__":=by decide)(n:(T==("__debug__":Str))=false:=by decide)
  (t:z9 [a,.Name T b] X.env=(false,M6 a X.env)::z9 [.Name T b] X.env:=by rfl) (l:z9 [.Name T b] X.env=(false,M6 (.Name T b) X.env)::z9 [] X.env:=by rfl) (hpl:(K6 pos (z9 [.Name T b] X.env)).any (·.1)=false:=by rfl) :
  QEd X (.Call (.Name "isinstance" p) [a,.Name T b] [] pos) (wa Tn u):=by
 simp only[QEd.eq]at *
 have L:cc X (.builtin "isinstance") (λw H Q=>∃v d k M,w=[v,.ty Tn]/\aG X.K M H d v/\rh Tn d=some k/\Q (.bl k) H):=by
  intro aa s S H w Z Q I g h;obtain⟨v,d,k,M,rfl,rd,o,q⟩:=h;obtain⟨Y,u2,rfl,P,U⟩:=au.two g;cases U;exact nE G I P rd o q
 refine(eX L hg E (by kernel_rfl) (bp ha (bp (mV (v:=.ty Tn) i j f rfl m n) cK l) t) (by decide) (by decide) t hpl).conv λS H Q J=>?_;obtain⟨B,M,R,C,O,q,k⟩:=J;exact⟨B,M,_,C,O,q,λd M1 v N ⟨z,o,x⟩ A e g=>⟨v,_,z,M1,rfl,g.rd e,o,k _ M1 _ N x A e (by simp[Rep])⟩⟩
theorem en{X:Cx}:QOd X none jG:=by
 simp only[QEd.eq,QAd.eq,QTd.eq,QWd.eq,QSd.eq,QSs.eq,QId.eq,QIf.eq,QOd.eq]at *
 exact rH 
theorem dZ{X:Cx}{e:C5}{te:TEd}(h:QEd X e te):QOd X (some e) (oQ te):=by
 simp only[QEd.eq,QAd.eq,QTd.eq,QWd.eq,QSd.eq,QSs.eq,QId.eq,QIf.eq,QOd.eq]at *
 exact su (h:=h)
theorem pR{X:Cx}{e:C5}{te:TEd}{o:C5}{G:TEd}{P n:Pos}(ho:QEd X o G)(he:QEd X e te)(bh:F9 o "join" X.env (M6 o X.env)=M6 o X.env:=by rfl)
  (j:z9 [e] X.env=(false,M6 e X.env)::z9 [] X.env:=by rfl)
  (dq:((K6 n (z9 [e] X.env)).all (λx => !x.1) && (U3 n (O2 [] X.env)).all (λx => x.1.isSome)
  &&decide ([e].length+([]:List P4).length+(if([]:List P4).isEmpty then 0 else 1)<30))=true:=by rfl)
  (bF:(P.endLine==n.line)=true:=by rfl) (bv:(K6 n (z9 [] X.env)).any (·.1)=false:=by rfl):QEd X (.Call (.Attribute o "join" P) [e] [] n) (sS G te):=by
 simp only[QEd.eq]at *
 have hm:MtR X "str.join" (λx S H Q=>∃b a l i g M,x=.str b/\S=[.ref a]/\H a=some (.lst l)/\ai X.K M H i l/\dg i=some g/\(g.map (·.length)).sum+g.length*b.length<=16777216/\Q (.str (ac3 b g)) H):=by
  intro aa s σ H x S v us Q I rx A h;obtain⟨b,a,l,i,g,M,rfl,rfl,U,w,es,m,q⟩:=h;obtain⟨t,rfl⟩:=rx;obtain⟨u,rfl,ru⟩:=au.one A;cases ru;obtain⟨a0,r,pl,_⟩:=I.list (SqL.of U);exact join_list pl.isList (by simpa using gJ w r es) m λt' k=>⟨.str _,H,I.tok _,⟨t',rfl⟩,q⟩
 refine(mf M0 PySem.F.slot_str_join PySem.F.type_str_join hm ho (bp he cK j) bh dq bF j bv).conv λσ H Q Y=>?_;obtain⟨J,M,R,O,hr,q,k⟩:=Y;refine⟨J,M,_,O,hr,q,λo M1 ov H1 ⟨b,Z,T⟩ L C E=>?_⟩;subst Z;simp only[Rep]at E;subst E;refine⟨rfl,J,M1,_,O.ext L,C,T,λd M2 v H2 ⟨z,f,q2⟩ e2 p A=>?_⟩;have N:=A.rd p;generalize rdM M2 d=d' at N f;cases d' with
 |lst i =>
  obtain⟨a,l,rfl,sq,w⟩:=N;simp only[i2]at f;cases B:dg i with
  |none=>rw[B]at f;cases f
  |some g =>
   rw[B]at f;dsimp only at f
   by_cases m:(g.map (·.length)).sum+g.length*b.length<=16777216
   ·rw[if_pos m]at f;cases f;exact⟨b,a,l,i,g,M2,rfl,rfl,sq,w,B,m,k _ M2 _ H2 q2 (L.trans e2) p (by simp[Rep])⟩
   ·rw[if_neg m]at f;cases f
 |_=>cases f
theorem qc{X:Cx}{e:C5}{a:List C5}{t:TAd}{pos:Pos}{p:Pos}{x:Str}{k:Nat}{n:Nat}{S:SpD}(F:FnD X.prog X.w X.K X.mg X.base x k n S)(hr:bA k X.A)(hg:Gl X x)(ha:QAd X (e::a) t)(hdb:(x==("__debug__":Str))=false:=by decide)(he:z9 (e::a) X.env=(false,M6 e X.env)::z9 a X.env:=by rfl)(hpl:(K6 pos (z9 a X.env)).any (·.1)=false:=by rfl):
  QEd X (.Call (.Name x p) (e::a) [] pos) (iM n S t):=by
 simp only[QEd.eq,QAd.eq,QTd.eq,QWd.eq,QSd.eq,QSs.eq,QId.eq,QIf.eq,QOd.eq]at *
 exact dc (F:=F) (hr:=hr) (hg:=hg) (ha:=ha) (hdb:=hdb) (he:=he) (hpl:=hpl)
theorem bS{X:Cx}{te:TEd}{tg:C5}{iter:C5}(h:QEd X iter te):QId X tg iter (sQ te):=by
 simp only[QEd.eq,QId.eq]at *
 intro aa s σ H R I hh;obtain⟨Δ,M,R',sr,hr,q,k⟩:=hh;refine thn (h aa s σ H (λv m=>∃d P M1,eW d=some P/\(P.length<=A0->R' P M1)/\Ext M H M1 m/\HR X.K M1 m/\Rep X.K M1 m d v) I ⟨Δ,M,_,sr,hr,q,λd M1 v m ⟨P,B,N⟩ O j n=>⟨d,P,M1,B,N,O,j,n⟩⟩) λu C ⟨v,m,l,r1,d,P,M1,B,N,O,j,n⟩=>?_;have lo:=aG.len (K:=X.K) l n;cases d with
 |tup es =>
  cases B;simp only[Rep]at n;obtain⟨a,z,rfl,f,G⟩:=n;cases r1;obtain⟨L,Y,p,S⟩:=l.tuple f.sq;refine wpAny_pyIter_tuple (show C.heap.IsTuple a L.toArray from p) ?_;refine⟨C.heap.objs.size,[C.heap.objs.size],_,_,m,rfl,l.kept (t':=C.toks) λb o e=>z6 _ e,lP a _,⟨_,C8 _ rfl,rfl,rfl⟩,lF (o:=default) l,?_⟩;refine k _ M1 _ m (N lo) O j λM2 H2 g w i=>⟨λd T=>?_,λZ=>⟨z,(f.ext g).sq,by rw[<-G.length];exact Z⟩⟩;obtain⟨v,J,r⟩:=G.get T;refine⟨⟨z,v,(f.ext g).sq,J⟩,λx H' ⟨U,y⟩=>?_⟩;subst U;have:=y z (f.ext g).sq;rw[J]at this;cases this;exact⟨Ext.refl _ _,w,r.ext g⟩
 |lst es =>
  cases B;simp only[Rep]at n;obtain⟨a,z,rfl,f,G⟩:=n;cases r1;obtain⟨L,Y,p,S⟩:=l.list (SqL.of f.1);refine wpAny_pyIter_list p.isList ?_;refine⟨C.heap.objs.size,[C.heap.objs.size],_,_,m,rfl,l.kept (t':=C.toks) λb o e=>z6 _ e,iT a _,⟨_,C8 _ rfl,rfl,rfl⟩,lF (o:=default) l,?_⟩;refine k _ M1 _ m (N lo) O j λM2 H2 g w i=>⟨λd T=>?_,λZ=>⟨z,SqL.of (f.ext g).1,by rw[<-G.length];exact Z⟩⟩;obtain⟨v,J,r⟩:=G.get T;refine⟨⟨z,v,SqL.of (f.ext g).1,J⟩,λx H' ⟨U,y⟩=>?_⟩;subst U;have:=y z (SqL.of (f.ext g).1);rw[J]at this;cases this;exact⟨Ext.refl _ _,w,r.ext g⟩
 |scr es =>
  cases B;simp only[Rep]at n;obtain⟨a,z,rfl,f,G⟩:=n;cases r1;obtain⟨L,Y,p,S⟩:=l.list f.sq;refine wpAny_pyIter_list p.isList ?_;refine⟨C.heap.objs.size,[C.heap.objs.size],_,_,m,rfl,l.kept (t':=C.toks) λb o e=>z6 _ e,iT a _,⟨_,C8 _ rfl,rfl,rfl⟩,lF (o:=default) l,?_⟩;refine k _ M1 _ m (N lo) O j λM2 H2 g w i=>⟨λd T=>?_,λZ=>⟨z,(f.ext g).sq,by rw[<-G.length];exact Z⟩⟩;obtain⟨v,J,r⟩:=G.get T;refine⟨⟨z,v,(f.ext g).sq,J⟩,λx H' ⟨U,y⟩=>?_⟩;subst U;have:=y z (f.ext g).sq;rw[J]at this;cases this;exact⟨Ext.refl _ _,w,r.ext g⟩
 |str x =>
  simp only[eW]at B
  by_cases S:x.length<=A0
  ·rw[if_pos S]at B;cases B;simp only[Rep]at n;subst n;obtain⟨t,rfl⟩:=r1;have hq:=k _ M1 _ m (N (by have a0:x.cps.size<=A0:=S;simpa[bR]using a0)) O j uT;cases ha:x.cps.all (·<128)
   ·exact wpAny_pyIter_wide ha (m8 l "str_iterator" (by decide) (λA hA=>Walks.strWide hA _ x t) (λA i s' Q E st q=>wpAny_pyIter_striter_wide st q) hq)
   ·exact wpAny_pyIter_ascii ha (m8 l "str_ascii_iterator" (by decide) (λA hA=>Walks.strAscii hA _ x t) (λA i s' Q E st q=>wpAny_pyIter_striter_ascii st q) hq)
  ·rw[if_neg S]at B;cases B
 |_=>cases B
theorem jn{X:Cx}{e:C5}{te:TEd}{pos:Pos}(he:QEd X e te):QSd X (.Return (some e) pos) (sY te):=by
 simp only[QEd.eq,QSd.eq]at *
 exact(qp he).conv λD o H b=>b.el λi M E l n q k=>⟨i,M,_,l,n,q,λd M1 v j ⟨M2,a,g⟩ h f m =>
  k.rt _ _ _ j g (h.trans (Ext.le a)) (f.le a) (m.ext (Ext.le a))⟩
theorem cP{X:Cx}{e:C5}{te:TEd}{pos:Pos}{lo P:Option C5}{S U:TOd}{p2:Pos}(he:QEd X e te)(hl:QOd X lo S)(Z:QOd X P U):QEd X (.Subscript e (.Slice lo P none p2) pos) (wu te S U):=by
 simp only[QEd.eq,QOd.eq]at *
 refine(o7 (SlR.or qA (SlR.or uL (SlR.or vm qf))) he hl Z).conv λσ H Q hh=>?_;obtain⟨G,M,R,J,hr,q,k⟩:=hh;refine⟨G,M,_,J,hr,q,λx M1 v H1 Y E N rv=>⟨G,M1,_,J.ext E,N,Y,λl M2 H2 q2 L O=>⟨G,M2,_,(J.ext E).ext L,O,q2,λu m C ⟨z,f,q3⟩ T b=>?_⟩⟩⟩;have n:=((rv.ext L).ext T).rd b;have ee:=(E.trans L).trans T;have o:∀w h,Ext m C m h->HR X.K m h->Rep X.K m h z w->Q w h:=λw h e4 B r4=>k z m w h q3 (ee.trans e4) B r4;generalize rdM m x=d at n f;cases d with
 |lst i =>
  cases f;obtain⟨a,j,rfl,sq,g⟩:=n;refine .inl ⟨a,j,rfl,SqL.of sq,λp t=>gN b t ?_ o⟩;unfold dS jU;rw[<-g.length];exact(g.drop _).take _
 |scr i =>
  cases f;obtain⟨a,j,rfl,sq,g⟩:=n;refine .inl ⟨a,j,rfl,sq,λp t=>gN b t ?_ o⟩;unfold dS jU;rw[<-g.length];exact(g.drop _).take _
 |str s =>
  simp only[slE,slD]at f
  by_cases I:s.length<=A0
  ·rw[if_pos I]at f;cases f;exact .inr (.inr (.inl ⟨s,iF n,I,o _ C (Ext.refl _ _) b (by simp[Rep])⟩))
  ·rw[if_neg I]at f;cases f
 |tup i =>
  cases f;have rt:=aG.tup b n;obtain⟨a,j,rfl,sq,g⟩:=n
  by_cases A:HT.sIx i.length 0 l=0/\HT.sIx i.length i.length u=i.length
  ·refine .inr (.inr (.inr ⟨a,j,rfl,sq,by rw[<-g.length];exact A,o _ C (Ext.refl _ _) b ?_⟩));rw[lB A];exact rt
  ·refine .inr (.inl ⟨a,j,rfl,sq,by rw[<-g.length];exact A,λp t=>jA b t ?_ o⟩);unfold dS jU;rw[<-g.length];exact(g.drop _).take _
 |_=>cases f
theorem si{X:Cx}{st:P9}:QSd X st pG:=by
 simp only[QSd.eq]at *
 exact λa s b H D I ⟨_,_,_,_,_,q,_⟩=>I0 q
section
variable{X:Cx}{rest:List P9}{t:TSd}{e:C5}{g:TTd}
theorem sL(h:QSs X rest t):qR X rest t:=by
 rw[QSs.eq]at h;exact h
theorem nM(h:QWd X e g):QTd X e g:=by
 simp only[QWd.eq,QTd.eq]at *
 exact PWd.pt h
end
end L2
namespace L2
open PySem PySem.Spec PyProof.Rows PySem.Builtin.Str
section
variable{prog:C1}{w:F8}{A:D4}{E:o0->z4->Prop}{s:z4}
theorem lX{x y:Str}{t u:Tok}{Q:o0->z4->Prop}(e:(y.length==0)=false)
  (h:∀(l:List (Str×Tok)) k,l.map (·.1)=J7 x y->Q (.ref s.heap.objs.size) { s with heap:=s.heap.push { cls:=.type "list",data:=.seq (strValues l).toArray },toks:=k })
  (hsz:x.length+2<=A0):B3 (D3 prog w) A (call (.builtin "str.split") [.str x t,.str y u]) Q E s:=by
 have f:(partsBetween x (occurrences x y 0 x.length (x.length+1)) y.length).length<=A0:=by
  have g:=StrLaws.occ_length_le x y 0 x.length (x.length+1);rw[length_partsBetween];lia
 cases a:(decide (x.length<y.length) || decide (strKind x<strKind y))
 ·cases b:(occurrences x y 0 x.length (x.length+1)).isEmpty
  ·refine V0 F.slot_str_split (T7 _ _ _) F.entry_str_split (F.args_str_split_2 _ _) (meets_str_split_sep x y t u a e b (by lia) f) ?_;show wants Q E _ { s with toks:=_,heap:=s.heap.push { cls:=.type "list",data:=.seq (strsFrom s.toks (partsBetween x (occurrences x y 0 x.length (x.length+1)) y.length)).toArray } };rw[strsFrom_eq];exact h (numbered s.toks _) _ ((numbered_texts _ _).trans ((if_neg (ne_true_of_eq_false a)).trans (if_neg (ne_true_of_eq_false b))).symm)
  ·exact V0 F.slot_str_split (T7 _ _ _) F.entry_str_split (F.args_str_split_2 _ _) (meets_str_split_not_found x y t u a e b)
    (h [(x,t)] s.toks ((if_neg (ne_true_of_eq_false a)).trans (if_pos b)).symm)
 ·exact V0 F.slot_str_split (T7 _ _ _) F.entry_str_split (F.args_str_split_2 _ _) (meets_str_split_cannot_occur x y t u a)
   (h [(x,t)] s.toks (if_pos a).symm)
end
theorem i9:∀(l:List (Str×Tok)),au ((l.map (·.1)).map V.str) (strValues l)
 |[]=>.nil
 |(x,t)::l=>.cons ⟨t,rfl⟩ (i9 l)
theorem lj{K:s0}{M:DH}{H:Hp}:∀a:List Str,ai K M H (a.map D.str) (a.map V.str)
 |[]=>ai.nil
 |x::a=>ai.cons (by simp[Rep]) (lj a)
section
variable{X:Cx}{e:C5}{te:TEd}{pos:Pos}
def oq(b te:TEd):TEd:=λa M Q=>b a M λo M1=>∃x,o=.str x/\te a M1 λd M2=>∃y,d=.str y/\(y.length==0)=false/\x.length+2<=A0/\Q (.lst ((J7 x y).map .str)) M2
theorem gx{o:C5}{G:TEd}{O b:Pos}(ho:QEd X o G)(he:QEd X e te)(bh:F9 o "split" X.env (M6 o X.env)=M6 o X.env:=by rfl)
  (a:z9 [e] X.env=(false,M6 e X.env)::z9 [] X.env:=by rfl)
  (dq:((K6 b (z9 [e] X.env)).all (λx => !x.1) && (U3 b (O2 [] X.env)).all (λx => x.1.isSome)
  &&decide ([e].length+([]:List P4).length+(if([]:List P4).isEmpty then 0 else 1)<30))=true:=by rfl)
  (bF:(O.endLine==b.line)=true:=by rfl) (bv:(K6 b (z9 [] X.env)).any (·.1)=false:=by rfl):QEd X (.Call (.Attribute o "split" O) [e] [] b) (oq G te):=by
 rw[QEd.eq]at *
 have hm:MtR X "str.split" (λx P H Q=>∃z y,x=.str z/\P=[.str y]/\(y.length==0)=false/\z.length+2<=A0/\(J7 z y).length<=A0/\∀p,H p=none->Q (.ref p) (upd H p (.lst ((J7 z y).map V.str)))):=by
  intro aa s σ H x P v us Q I rx f h;obtain⟨z,y,rfl,rfl,g,n,B,q⟩:=h;obtain⟨t,rfl⟩:=rx;obtain⟨u,rfl,ru⟩:=au.one f;obtain⟨t2,rfl⟩:=ru;refine lX g (λl k i=>?_) n;have rr:au ((J7 z y).map V.str) (strValues l):=by rw[<-i];exact i9 l
  exact⟨.ref s.heap.objs.size,_,I.lnew (t':=k) rr (by rw[J4];exact B),rfl,q _ I.fresh⟩
 refine(mf M0 PySem.F.slot_str_split PySem.F.type_str_split hm ho (bp he cK a) bh dq bF a bv).conv λσ H Q U=>?_;obtain⟨L,M,R,N,hr,q,k⟩:=U;refine⟨L,M,_,N,hr,q,λo M1 ov H1 ⟨z,Y,S⟩ J A E=>?_⟩;subst Y;simp only[Rep]at E;subst E;refine⟨rfl,L,M1,_,N.ext J,A,S,λd M2 v H2 ⟨y,ed,g,n,q2⟩ e2 C f=>?_⟩;subst ed;simp only[Rep]at f;subst f;have B:(J7 z y).length<=A0:=by
  have T:1<=y.length:=by
   have:¬ y.length=0:=by simpa using g
   lia
  have:=split_weight z y T
  lia
 exact⟨z,y,rfl,rfl,g,n,B,λp hp=>gN C hp (lj _) λw Z e3 j m=>k _ M2 w Z q2 ((J.trans e2).trans e3) j m⟩
def wM(b te:TEd):TEd:=λa M Q=>b a M λo M1=>∃x,o=.str x/\te a M1 λd M2=>∃y,d=.str y/\Q (.int (S5 x y)) M2
theorem jl{o:C5}{l:TEd}{w b:Pos}(J:QEd X o l)(he:QEd X e te)(P:F9 o "count" X.env (M6 o X.env)=M6 o X.env:=by rfl)
  (a:z9 [e] X.env=(false,M6 e X.env)::z9 [] X.env:=by rfl)
  (O:((K6 b (z9 [e] X.env)).all (λx => !x.1) && (U3 b (O2 [] X.env)).all (λx => x.1.isSome)
  &&decide ([e].length+([]:List P4).length+(if([]:List P4).isEmpty then 0 else 1)<30))=true:=by rfl)
  (S:(w.endLine==b.line)=true:=by rfl) (Z:(K6 b (z9 [] X.env)).any (·.1)=false:=by rfl):QEd X (.Call (.Attribute o "count" w) [e] [] b) (wM l te):=by
 rw[QEd.eq]at *
 have Y:MtR X "str.count" (λx A H Q=>∃z y,x=.str z/\A=[.str y]/\Q (.int (S5 z y)) H):=by
  intro aa s T H x A v us Q I rx f h;obtain⟨z,y,rfl,rfl,q⟩:=h;obtain⟨t,rfl⟩:=rx;obtain⟨u,rfl,N⟩:=au.one f;obtain⟨t2,rfl⟩:=N;exact SC.count ⟨.int _,H,I.tok _,⟨_,rfl⟩,q⟩
 refine(mf M0 PySem.F.slot_str_count PySem.F.type_str_count Y J (bp he cK a) P O S a Z).conv λT H Q C=>?_;obtain⟨n,M,R,p,G,q,k⟩:=C;refine⟨n,M,_,p,G,q,λo M1 ov H1 ⟨z,E,B⟩ m g j=>?_⟩;subst E;simp only[Rep]at j;subst j;refine⟨rfl,n,M1,_,p.ext m,g,B,λd M2 v L ⟨y,ed,q2⟩ U i f=>?_⟩;subst ed;simp only[Rep]at f;subst f;exact⟨z,y,rfl,rfl,k _ M2 _ L q2 (m.trans U) i (by simp[Rep])⟩
end
theorem bX(c:Nat):∀(p q:Str) (r:List Str),(N0 ⟨#[c]⟩ (p::q::r)).cps.toList=p.cps.toList++c::(N0 ⟨#[c]⟩ (q::r)).cps.toList:=λp q r=>by
 show(p++⟨#[c]⟩++N0 ⟨#[c]⟩ (q::r)).cps.toList=_;show((p.cps++#[c])++(N0 ⟨#[c]⟩ (q::r)).cps).toList=_;simp
theorem eB{a b:Str}(h:a.cps.toList=b.cps.toList):a=b:=by
 cases a;cases b;simp at h;simp[h]
theorem gK{c:Nat}:∀{a b:List Nat}{x y:List Nat},c∉a->c∉b->a++c::x=b++c::y->a=b/\x=y
 |[],[],x,y,_,_,h=>by simpa using h
 |[],b::bs,x,y,_,e,h=>by
  simp at h;exact absurd (by simp[h.1]) e
 |a::j,[],x,y,f,_,h=>by
  simp at h;exact absurd (by simp[h.1]) f
 |a::j,b::bs,x,y,f,e,h=>by
  simp only[S8,J8]at h;simp only[A5,not_or]at f e;obtain⟨g,i⟩:=gK f.2 e.2 h.2;exact⟨by rw[h.1,g],i⟩
theorem kn{c:Nat}:∀{ps qs:List Str},ps≠[]->qs≠[]->(∀p∈ps,c∉p.cps.toList)->(∀q∈qs,c∉q.cps.toList)->N0 ⟨#[c]⟩ ps=N0 ⟨#[c]⟩ qs->ps=qs
 |[],_,h,_,_,_,_=>absurd rfl h
 |_,[],_,h,_,_,_=>absurd rfl h
 |[p],[q],_,_,_,_,h=>by
  have:p=q:=h;rw[this]
 |[p],q::g::r,_,_,e,b,h=>by
  have a:=congrArg (λz:Str=>z.cps.toList) h;simp only[bX]at a;have f:p.cps.toList=q.cps.toList++c::(N0 ⟨#[c]⟩ (g::r)).cps.toList:=a;exact absurd (by rw[f];simp) (e p (by simp))
 |p::j::r,[q],_,_,e,b,h=>by
  have a:=congrArg (λz:Str=>z.cps.toList) h;simp only[bX]at a;have f:p.cps.toList++c::(N0 ⟨#[c]⟩ (j::r)).cps.toList=q.cps.toList:=a;exact absurd (by rw[<-f];simp) (b q (by simp))
 |p::j::r,q::g::l,_,_,e,b,h=>by
  have a:=congrArg (λz:Str=>z.cps.toList) h;simp only[bX]at a;obtain⟨m,n⟩:=gK (e p (by simp)) (b q (by simp)) a;rw[eB m,kn (c:=c) (ps:=j::r) (qs:=g::l) (by simp) (by simp) (λx i=>e x (B4 _ i)) (λx i=>b x (B4 _ i)) (eB n)]
theorem ql(x:Str)(c:Nat):J7 x ⟨#[c]⟩≠[]:=by
 intro h;have:=split_len x c;rw[h]at this;have b:∀l:List Nat,0<=cnt c l:=λl=>by
  induction l with
  |nil=>exact Int.le_refl _
  |cons a l ih=>rw[cnt_cons];split<;>lia
 have:=b x.cps.toList;simp at *
 lia
theorem cy{c:Nat}{ps:List Str}(a:ps≠[])(b:∀p∈ps,c∉p.cps.toList):J7 (N0 ⟨#[c]⟩ ps) ⟨#[c]⟩=ps :=
 kn (ql _ _) a (StrLaws.split_free _ _) b (StrLaws.join_split _ _)
theorem lH(c:Nat)(n:Nat):Txt.mul (tx [c]) (n:Int)=tx (z5 n c):=by
 have f:∀(k:Nat) (a:Array Nat),(z5 k #[c]).foldl (·++·) a=a++(z5 k c).toArray:=by
  intro k
  induction k with
  |zero=>intro a;simp
  |succ k ih =>
   intro a;rw[E6,List.foldl_cons,ih,E6];apply Array.ext';simp
 unfold Txt.mul
 by_cases e:n=0
 ·subst e;rfl
 ·rw[if_neg (by lia)]
  by_cases b:n=1
  ·subst b;rfl
  ·rw[if_neg (by simp[aA];lia)];show(⟨(z5 (n:Int).toNat #[c]).foldl (·++·) #[]⟩:Str)=_;rw[f];simp[tx]
theorem fT(x:Str)(c:Nat):S5 x ⟨#[c]⟩=cnt c x.cps.toList:=count_is x c
theorem gy(c d:Nat):∀n:Nat,cnt c (z5 n d)=if d=c then(n:Int)else 0
 |0=>by simp[cnt_nil]
 |n+1=>by
  rw[E6,cnt_cons,gy c d n]
  by_cases h:d=c
  ·simp[h];lia
  ·simp[h]
end L2
namespace L2
open PySem PySem.Spec PyProof.Rows
def Few(n:Int):Prop:=E4.Int.intBits n<=2 ^ 20
end L2
namespace Att
open PySem PySem.W PySem.Calls PyProof.Rows
end Att
namespace L2
open PySem PySem.Spec PyProof.Rows
section
variable{X:Cx}{pos:Pos}
def tu(i j:Int):Prop:=fG i j∨(Few i/\Few j)
theorem tu.ok{i j:Int}(h:tu i j):IntMulOk i j:=by
 rcases h with h|⟨a,b⟩
 ·exact h.ok
 ·exact .of_bits a b
def dmD:List D->Option D
 |[.int i,.int j]=>if jJ i j then some (.tup [.int (i / j),.int (i % j)])else none
 |_=>none
noncomputable def xV:List D->Option D
 |[.int i,.int j]=>some (.int (if j > i then j else i))
 |_=>none
end
open AutoSeq1 (wpAny_loadPart')
section
variable{prog:C1}{w:F8}{A:D4}{E:o0->z4->Prop}{s:z4}
end
section
variable{X:Cx}{pos:Pos}
theorem uS{i j:Int}:dmD [.int i,.int j]=if jJ i j then some (.tup [.int (i / j),.int (i % j)])else none:=rfl
theorem qW{i j:Int}:xV [.int i,.int j]=some (.int (if j > i then j else i)):=rfl
theorem oE:kc 10 60=True:=by simp[kc]
end
section
variable{X:Cx}{e:C5}{te g:TEd}{pos:Pos}
end
section
variable{g:Type} [DecidableEq g]
noncomputable def lD(a:List (g×D))(k:g):Option D:=(a.find? λb=>decide (b.1=k)).map (·.2)
theorem qr{p:g×D}{r:List (g×D)}{k:g}(e:p.1=k):lD (p::r) k=some p.2:=by simp[lD,O3,e]
theorem pT{p:g×D}{r:List (g×D)}{k:g}(e:¬ p.1=k):lD (p::r) k=lD r k:=by simp[lD,O3,e]
variable{K:s0}{M:DH}{H:Hp}
theorem KR.val{a:List (g×D)}{b:List (g×V)}(h:KR K M H a b)(k:g):(∀d,lD a k=some d->∃v,kf b k=some v/\Rep K M H d v)/\(kf b k).isSome=(lD a k).isSome:=by
 unfold KR at h
 induction h with
 |nil=>exact⟨λd e=>(nomatch e),rfl⟩
 |@cons p q f i r t ih =>
  by_cases e:p.1=k
  ·rw[qr e,kT (r.1.symm.trans e)];exact⟨λd z=>(by cases z;exact⟨_,rfl,r.2⟩),rfl⟩
  ·rw[pT e,kR (λz=>e (r.1.trans z))];exact ih
theorem KR.any{a:List (g×D)}{e:List (g×V)}(h:KR K M H a e)(k:g):(e.any λb=>decide (b.1=k))=a.any λb=>decide (b.1=k):=by
 unfold KR at h
 induction h with
 |nil=>rfl
 |cons r _ ih=>rw[P2,P2,ih,r.1]
theorem KR.length{a:List (g×D)}{b:List (g×V)}(h:KR K M H a b):a.length=b.length:=S2.length h
end
def kD:Key->D
 |.inl i=>.int i
 |.inr x=>.str x
section
variable{X:Cx}{a b c e o i:C5}{g:List C5}{te z B E G:TEd}{t:TAd}{pos:Pos}
end
section
variable{X:Cx}{a b c e o:C5}{g:List C5}{te z:TEd}{t:TAd}{pos:Pos}{B:C5}
noncomputable def xJ:List D->Option D
 |[.int i,.int j]=>some (.int (if j<i then j else i))
 |_=>none
end
section
variable{X:Cx}{E t z:C5}{pos:Pos}{g:T0}{G:List (Str×A1)}{ms:List Bool}{aq:List Str}{B:List C5}
end
end L2
namespace L2
open PySem PySem.W PyProof.Rows
section
variable{t z:Type}
variable{O:KeyOrd}{g:Nat->O.α}{n:Nat}
noncomputable def kp(O:KeyOrd)(g:Nat->O.α)(p:Array Nat)(i:Nat):O.α:=g (p.getD i 0)
end
end L2
namespace L2
open PySem PySem.W PySem.Calls PyProof.Rows
end L2
namespace L2
open PySem PySem.Spec PyProof.Rows
theorem xt{i:Int}{P:Key->Prop}:(∃k,D.int i=kD k/\P k)↔P (.inl i) :=
 ⟨λ⟨k,e,h⟩=>match k,e with|.inl _,rfl=>h,λh=>⟨_,rfl,h⟩⟩
theorem xf{x:Str}{P:Key->Prop}:(∃k,D.str x=kD k/\P k)↔P (.inr x) :=
 ⟨λ⟨k,e,h⟩=>match k,e with|.inr _,rfl=>h,λh=>⟨_,rfl,h⟩⟩
theorem rG{i j:Int}:xJ [.int i,.int j]=some (.int (if j<i then j else i)):=rfl
section
variable{X:Cx}{a b:C5}{g t:TEd}{pos:Pos}
def sX(g t:TEd):TEd:=λe M Q=>g e M λx M1=>t e M1 λy M2=>∃b a,rdM M2 x=.lst b/\rdM M2 y=.lst a/\b.length+a.length<=A0/\∀p,M2 p=none->Q (.ref p) (ay M2 p (.lst (b++a)))
theorem lu(ha:QEd X a g)(P:QEd X b t):QEd X (.BinOp a .Add b pos) (sX g t):=by
 simp only[QEd.eq]at *
 exact(tM n9 ha P).conv λσ H Q i=>i.el λn M R w I q k=>⟨n,M,_,w,I,q,λx M1 v Z A m l E=>⟨n,M1,_,w.ext m,l,A,λy M2 u H2 ⟨xs,ys,L,G,T,O⟩ z e N=>by
   have o:=(E.ext z).rd e;have s:=N.rd e;rw[L]at o;rw[G]at s;obtain⟨C,S,rfl,B,h⟩:=o;obtain⟨U,J,rfl,Y,f⟩:=s;exact⟨C,U,S,J,rfl,rfl,B,Y,by rw[<-h.length,<-f.length];exact T,λp j=>k _ _ _ _ (O p (e.fresh j)) ((m.trans z).trans (Ext.own j)) (e.own j (h.append f)) (by simp only[Rep])⟩⟩⟩
end
@[irreducible] def q0(t:TSd):TSd:=t
theorem mO{t:TSd}:q0 t=t:=by unfold q0;rfl
theorem et{t:TSd}{E:cx}{a:DE}{M:DH}(h:t E a M):q0 t E a M:=by rw[mO];exact h
theorem jd{X:Cx}{st:List P9}{t:TSd}(h:QSs X st t):QSs X st (q0 t):=by rw[mO];exact h
theorem pW{K:Params->s0}{M:List A1}{n t:Nat}{q:C1}{g:List Str}{Q:(Str->Option o0)->C9->Prop}{r:PySem.W.RowW}{d:DefRec}{m:List (Str×C5)}{run:o0->List o0->Sem o0}(Y:∀P,M=(K P).map (·.1))
  (h:PySem.W.WalkO q g Q (λw h=>(K w.params).In h) r d m run):PySem.W.WalkX q g Q (PySem.W.X.obsZ M) (PySem.W.X.valZ K n t) r d m run:=by
 intro w f s mg mb G y a o U cd C Z kV ho S J X O hg A j B L x i N H E;refine h w f s mg mb G (λb u T=>L.keeps b u ?_) a o U cd C Z kV ho S J X O hg A j B x i N H E;have R:M.map f.heap.get?=(K w.params).map λp=>some p.2:=congrArg (·.1) y;rw[Y w.params,N1]at R;have I:∀(l:s0),(l.map λp=>f.heap.get? p.1)=l.map (λp=>some p.2)->ab1 b l=some u->f.heap.get? b=some u:=by
  intro l
  induction l with
  |nil=>intro _ z;cases z
  |cons p l ih =>
   intro e z;rw[B5,B5,J8]at e;rw[F4]at z
   by_cases c:b=p.1
   ·subst c;rw[beq_self_eq_true]at z;cases z;exact e.1
   ·rw[beq_eq_false_iff_ne.mpr c]at z;exact ih e.2 z
 exact I _ R T
end L2
namespace L2
open PySem PySem.W PySem.Calls PyProof.Rows
end L2
namespace L2
open PySem PySem.Spec PyProof.Rows
section
variable{X:Cx}
end
section
variable{X:Cx}
def inF(x y:D):Option D:=match y with
 |.lst a=>if dLe x 59=true/\cv a 59=true then some (.bl (a.any λd=>eqD d x))else none
 |_=>none
theorem xx{x:D}{ds:List D}:inF x (.lst ds)=if dLe x 59=true/\cv ds 59=true then some (.bl (ds.any λd=>eqD d x))else none:=rfl
open Classical in
theorem wA(U:X.A.units+64<ad2):bu X (E3 .In) inF:=by
 intro Y s σ H M x y v u dx dy dz Q I hr rx ry r1 r2 e k;cases dy with
 |lst b =>
  simp only[inF]at e
  by_cases g:dLe dx 59=true/\cv b 59=true
  ·rw[if_pos g]at e;cases e;obtain⟨l,Z,rfl,sq,m⟩:=r2;cases ry;obtain⟨a,r,P,hz⟩:=I.list (SqL.of sq);have hl:b.length=a.length:=m.length.trans r.length;have at_:∀j (h:j<b.length) (f:j<a.length),PySem.SeqAt.EqAt X.A.in1 s a[j] v (eqD b[j] dx):=λj h f=>by
    obtain⟨T,o,B⟩:=m.get (i:=j) (d:=b[j]) (by simp[h]);obtain⟨G,N,O⟩:=r.get o;have J:a[j]=G:=by simpa[P8 f]using N
    rw[J];exact(lU I 59 (by show X.A.units+1+59<ad2;omega) (fA g.2 (i:=j) (by simp[h])) g.1 B.r r1 O rx).1
   refine SeqAt.in_listAt (λw=>decide (∃j,∃h:j<b.length,∃f:j<a.length,a[j]=w/\eqD b[j] dx=true)) P.isList (λw t=>?_) ⟨.bl _,H,I,rfl,?_⟩
   ·obtain⟨i,n,rfl⟩:=List.mem_iff_getElem.mp (show w∈a by simpa using t)
    by_cases q:∃j,∃h:j<b.length,∃f:j<a.length,a[j]=a[i]/\eqD b[j] dx=true
    ·rw[decide_eq_true q];obtain⟨j,h,f,A,E⟩:=q;rw[<-A,<-E];exact at_ j h f
    ·rw[decide_eq_false q];have:=at_ i (by omega) n
     rwa [show eqD b[i] dx=false from Bool.eq_false_iff.mpr λz=>q ⟨i,by omega,n,rfl,z⟩]at this
   ·have L:a.toArray.any (λw=>decide (∃j,∃h:j<b.length,∃f:j<a.length,a[j]=w/\eqD b[j] dx=true))=b.any λd=>eqD d dx:=by
     rw[U6,List.any_toArray,O6,O6];constructor
     ·rintro⟨w,_,h⟩;obtain⟨j,S,_,_,R⟩:=of_decide_eq_true h;exact⟨b[j],W0 _,R⟩
     ·rintro⟨d,p,h⟩;obtain⟨j,C,rfl⟩:=List.mem_iff_getElem.mp p;exact⟨a[j],W0 _,decide_eq_true ⟨j,C,by omega,rfl,h⟩⟩
    rw[L];exact k _ H (Ext.refl _ _) hr (by simp[Rep])
  ·rw[if_neg g]at e;cases e
 |_=>cases e
end
section
variable{X:Cx}{a b e:C5}{g t te:TEd}{pos:Pos}
section
open PySem.SeqAt PySem.MeetsSeq AutoSeq1
end
end
section
variable{X:Cx}{g:T0}{t:List (Str×A1)}{aq:List Str}{z:C5}{pos:Pos}
end
section
variable{X:Cx}{e:C5}{te:TEd}
def yt(a:List (Key×D)):D:=.box (.dk (a.map (·.1))) (a.map (·.2))
end
section
variable{X:Cx}{a b c e o i:C5}{z:List C5}{te B E G H:TEd}{t:TAd}{pos:Pos}{I g:C5}
end
def xF:D->Option D
 |.box (.dk a) _=>some (.lst (a.map kD))
 |_=>none
theorem qy{a:List (Key×D)}:xF (yt a)=some (.lst (a.map λp=>kD p.1)):=by
 show some (D.lst ((a.map (·.1)).map kD))=_;rw[N1];rfl
noncomputable def wC(s:P9)(i:Nat):P9:=match s with
 |.ClassDef _ _ _ b _ _ _ _ _ _ _=>b.getD i (.Pass ⟨0,0,0,0⟩)
 |_=>.Pass ⟨0,0,0,0⟩
noncomputable def yl:D->Option D
 |.int i=>some (.int i)
 |.bl k=>some (.int (if k then 1 else 0))
 |_=>none
theorem vn{k:Bool}:yl (.bl k)=some (.int (if k then 1 else 0)):=rfl
section
variable{X:Cx}
end
section
variable{X:Cx}{e:C5}{t:TEd}
end
section
variable{P:C1}{w:F8}{K:s0}{h base:C9}{z:Str->Option o0}{x g:Str}{st:P9}{f:A1}{t:B7}{k:Nat}{S:SpD}
structure bP(K:s0) (x:Str) (st:P9) (f:A1) (t:B7):Prop where
 a:C7 K B1 x=some (some (.ref f))
 F:Fun K x x st f t
theorem xl{j:o0}{m h:Option A1}{g:Array (Option o0)}{kV e i b ct:o0}(a:C7 K B1 x=some (some (.ref f)))(l:K.lookup f=some ⟨j,m,.func (P0 x x (cF st) (bI st) (ag st) .none kV e i h b ct),g⟩)
  (c:V2 K b x=true) (k:M8 K (.ref f)=true):bP K x st f (P0 x x (cF st) (bI st) (ag st) .none kV e i h b ct):=⟨a,lG l c k⟩
theorem usS{p:List o0->Prop}{n:Nat}(h:∀a b,b.length=n->p (a::b)):∀b:List o0,b.length=n+1->p b:=by
 intro b e;cases b with
 |nil=>cases e
 |cons a b=>exact h a b (Nat.succ.inj e)
theorem us0{p:List o0->Prop}(h:p []):∀b:List o0,b.length=0->p b:=by
 intro b e;cases b with
 |nil=>exact h
 |cons a b=>cases e
def Bd(x g:Str)(st:P9)(ps:List Str)(e:List o0):Prop:=∀(kV a i:o0) (h:Option A1) (b f:o0),bindArgs (P0 x g (cF st) (bI st) (ag st) .none kV a i h b f) ⟨e,[]⟩=W1 (ps.zip e)
theorem tm{ps:List Str}(F:Fun K x g st f t)(b:∀a:List o0,a.length=ps.length->Bd x g st ps a):cg K t ps []:=F.binds λkV e m l h j a i=>b a i kV e m l h j
variable{B E H I J:Str}
theorem bd1(F:Fun K x g st f t)(b:∀a,Bd x g st [B] [a]):cg K t [B] []:=tm F (usS λa=>us0 (b a))
theorem bd2(F:Fun K x g st f t)(b:∀a c,Bd x g st [B,E] [a,c]):cg K t [B,E] []:=tm F (usS λa=>usS λc=>us0 (b a c))
theorem fg{ps:List Str}{n:Nat}(X:K.In h)(G:h.Ns B1 z)(i:bP K x st f t)(o:aS P w K z base CX0 k f t ps (spD K n S))(b:cg K t ps []):FnD P w K z base x k n S:=⟨_,_,_,o,D7 X G i.a,i.F.kp,b⟩
theorem uq{m:A1}{sp:Sp}{n:C1}(X:K.In h)(G:h.Ns B1 z)(g:z "law"=some (.ref m))(i:bP K "law" st f t)(b:∀a,Bd "law" "law" st [B] [a])(o:∀base:C9,aS n w K z base CX0 k f t [B] sp):
  ∃t:B7,(∀(s:z4) (v:o0),ab8 s t ⟨[v],[]⟩ [(B,v)])/\∀base:C9,K.In base->base.Ns B1 z->aS n w K z base CX0 k m t [B] sp:=by
 have e:=g.symm.trans (D7 X G i.a);cases e;refine⟨t,λs v=>?_,λbase _ _=>o base⟩;obtain⟨E,H,kV,j,u,q,l,A,x,rfl,C,p⟩:=i.F.ex;exact .of_eq (b v kV j u q l A)
end
theorem nbh{a:CmpOp}{b:C5}(h:a≠.In:=by decide)(e:a≠.NotIn:=by decide):S1 a b=false:=oA b h e
theorem fsc{N P:List Str}{h:T0}(a:h.kind=.function:=by exact rfl)(b:h.isCoroutine=false:=by exact rfl)(c:h.isGenerator=false:=by exact rfl)(d:N.Nodup:=by decide +kernel)(e:N.take P.length=P:=by exact rfl)
  (f:∀x∈P,h.names.lookup x=some .local∨h.names.lookup x=some .cell:=by decide +kernel) (g:∀y∈h.names,y.2≠.free:=by decide +kernel):ax N P h:=⟨a,b,c,d,e,f,g⟩
section
variable{X:Cx}{e:C5}{g:List C5}{t:TAd}{pos p:Pos}{x:Str}{j k n:Nat}{S:SpD}
theorem qd(F:FnD X.prog X.w X.K X.mg X.base x j n S)(hr:bA k X.A)(ha:QAd X (e::g) t)(h:j<=k:=by decide)(hg:Gl X x:=by exact rfl)(hdb:(x==("__debug__":Str))=false:=by decide)(he:z9 (e::g) X.env=(false,M6 e X.env)::z9 g X.env:=by rfl)(hpl:(K6 pos (z9 g X.env)).any (·.1)=false:=by rfl):
  QEd X (.Call (.Name x p) (e::g) [] pos) (iM n S t):=qc F (hr.mono h) hg ha hdb he hpl
end
end L2
namespace L2
open PySem
end L2
namespace L2
open PySem PySem.SetTable
def rs(g:Nat)(h:Int):Nat->Nat×Nat
 |0=>(bits h % (g+1),bits h)
 |n+1=>leap g (rs g h n).1 (rs g h n).2
variable{g:Nat}{h:Int}
end L2
namespace L2
open PySem PySem.Spec PyProof.Rows
section
variable{X:Cx}{o i:C5}{g t:TEd}{pos:Pos}
end
section
variable{P:C1}{w:F8}{K:s0}{z:Str->Option o0}{base:C9}{f:A1}{g:B7}
theorem Fun.okR{x b:Str}{st:P9}{f:A1}{g:B7}{N ps:List Str}{k n:Nat}{S:SpD}(F:Fun K x b st f g)(p:ps.length=n)(o:ax N ps (ag st))
  (h:∀ (e:o0) (A:D4) (a:List Env) (s:z4) (H:Hp) (E:XK),bA k (A.deeper (U2 b (ag st) s.heap.objs.size f e)) →
   ∃t:TSd,QSs (hJ CX0 P w K z base N b (ag st) f e A a s H E).nox (bI st) t/\∀ds M R (G:Prop),S ds M R->(t { nx:=λ_ l=>R .non l,rt:=R } (cY N ds) M->G)->G):aS P w K z base CX0 (k+1) f g ps (spD K n S):=by
 refine F.okD p o λe A a s H E j=>?_;obtain⟨t,i,q⟩:=h e A a s H E j;exact⟨t,sL i,λds M R _ m=>q ds M R _ m id⟩
end
end L2
namespace L2
open PySem PyProof.Rows
section
variable{prog:C1}{w:F8}{A:D4}{E:o0->z4->Prop}{s:z4}{O:KeyOrd}{z:Keyed->O.α}{g:List Keyed}{t:SortKind}
structure SB(g:List Keyed) (t:SortKind) (st:SortSt):Prop where
 perm:(arrOf st).toList.Perm g
 kind:Y7 st=t
 fail:failedOf st=none
theorem SB.size{st:SortSt}(h:SB g t st):(arrOf st).size=g.length:=by rw[<-Q4];exact h.perm.length_eq
end
end L2
namespace L2
open PySem PySem.SetTable
variable{g:Nat}{h:Int}
variable{g:Nat}
end L2
namespace L2
open PySem PySem.SetTable PySem.SeqAt
structure TK(prog:C1) (w:F8) (g:Type) where
 is:C9->g->o0->Prop
 hash:g->Int
 room:D4->Prop
 pyHash:∀{A:D4} {E:o0->z4->Prop} {s:z4} {x:g} {v:o0} {Q:Int->z4->Prop},room A->is s.heap x v->(∀t,s.toks<=t->Q (hash x) { s with toks:=t })->B3 (D3 prog w) A (PySem.pyHash v) Q E s
 eqB:∀{A:D4} {s:z4} {x y:g} {v u:o0},room A->is s.heap x v->is s.heap y u->∃b:Bool,(b=true↔x=y)/\EqAt A s v u b
 quiet:∀{A:D4} {E:o0->z4->Prop} {s:z4} {x:g} {v:o0} {Q:Bool->z4->Prop},room A->is s.heap x v->Q true s->B3 (D3 prog w) A (eqIsQuiet 8 v) Q E s
 noCls:∀{A:D4} {E:o0->z4->Prop} {s:z4} {x:g} {v:o0} {Q:Bool->z4->Prop},room A->is s.heap x v->Q false s->B3 (D3 prog w) A (ofAClassStatement 8 v) Q E s
 byV:∀{A:D4} {E:o0->z4->Prop} {s:z4} {x:g} {v:o0} {Q:Bool->z4->Prop},room A->is s.heap x v->(∀b,Q b s)->B3 (D3 prog w) A (hashByValue 8 v) Q E s
 ref:∀{h:C9} {x:g} {v:o0},is h x v->∃a,v=.ref a
variable{prog:C1}{w:F8}{g:Type}{z:TK prog w g}{A:D4}{E:o0->z4->Prop}{s:z4}
variable{prog:C1}{w:F8}{g:Type}{z:TK prog w g}{A:D4}{E:o0->z4->Prop}{s:z4}
end L2
namespace L2
open PySem PySem.Spec PyProof.Rows PySem.SeqAt
inductive KD where
 |int (i:Int)|str (x:Str)|tup (ks:List KD)
 deriving Inhabited
def hK(w:F8):Nat->KD->Int
 |_,.int i=>hashInt i
 |_,.str x=>hashStr w x
 |0,.tup _=>0
 |n+1,.tup a=>reduceHash (E4.Tuple.tupleHashOf (a.map (hK w n)))
end L2
namespace L2
open PySem PySem.Spec PyProof.Rows
end L2
namespace L2
open PySem PySem.Spec PyProof.Rows PySem.SeqAt
mutual
def Cm:KD->KD->Prop
 |.int _,.int _=>True
 |.str _,.str _=>True
 |.tup a,.tup b=>Cms a b
 |_,_=>False
def Cms:List KD->List KD->Prop
 |a::e,b::bs=>Cm a b/\Cms e bs
 |_,_=>True
end
end L2
namespace L2
open PySem PySem.W PySem.Calls PyProof.Rows PySem.SeqAt
end L2
namespace L2
open PySem PySem.Spec PyProof.Rows PySem.Calls PySem.SeqAt
mutual
def kd:KD->D
 |.int i=>.int i
 |.str x=>.str x
 |.tup a=>.tup (kds a)
def kds:List KD->List D
 |[]=>[]
 |k::a=>kd k::kds a
end
mutual
theorem vh:∀{a b:KD},kd a=kd b->a=b
 |.int _,.int _,h=>by simp[kd]at h;rw[h]
 |.int _,.str _,h=>by simp[kd]at h
 |.int _,.tup _,h=>by simp[kd]at h
 |.str _,.int _,h=>by simp[kd]at h
 |.str _,.str _,h=>by simp[kd]at h;rw[h]
 |.str _,.tup _,h=>by simp[kd]at h
 |.tup _,.int _,h=>by simp[kd]at h
 |.tup _,.str _,h=>by simp[kd]at h
 |.tup a,.tup b,h=>by simp only[kd,D.tup.injEq]at h;rw[mr h]
theorem mr:∀{a b:List KD},kds a=kds b->a=b
 |[],[],_=>rfl
 |[],_::_,h=>by simp[kds]at h
 |_::_,[],h=>by simp[kds]at h
 |a::e,b::bs,h=>by
  simp only[kds,J8]at h;rw[vh h.1,mr h.2]
end
end L2
namespace L2
open PySem PySem.Spec PyProof.Rows PySem.Calls PySem.SeqAt PySem.W
open Classical in
instance decKs:DecidableEq (List KD):=λ_ _=>propDecidable _
end L2
namespace L2
open PySem PySem.Spec PyProof.Rows PySem.Calls PySem.SeqAt
end L2
namespace L2
open PySem PySem.Spec PyProof.Rows
end L2
namespace L2
open PySem PySem.Spec PyProof.Rows PySem.Calls PySem.SeqAt
end L2
namespace L2
open PySem PySem.Spec PyProof.Rows
section
open PySem.Calls PySem.SeqAt
variable{X:Cx}{g:List (A1×Obj)}{s:z4}{σ:St}{H:Hp}{M:DH}{K:s0}
end
end L2
namespace L2
open PySem PySem.Spec PyProof.Rows PySem.Calls PySem.SeqAt
end L2
namespace L2
open PySem PySem.Spec PyProof.Rows PySem.Builtin PySem.Builtin.Str StrLaws
end L2
namespace L2
open PySem PySem.Spec PyProof.Rows
open AutoSeq1 (wpAny_loadPart')
def ib(a:Obj->Prop):Prop:=∀o v,a o->a (o.mapFields (·.setIfInBounds 1 v))
def vA(h base:C9)(e:A1)(j:Obj->Prop)(i:o0):Prop :=
 ∃a b T g f,h.get? e=some a/\j a/\a.data=.fields b/\b[1]?=some (.ref T)/\base.get? T=none/\T≠e/\h.get? T=some g/\g.data=.fields f/\f[3]?=some i
def GoX(base:C9)(l:List Env)(e:A1)(a:Obj->Prop)(b:o0)(h h':C9):Prop:=base.StaysIn h'/\h'.FunFrames base l/\vA h' base e a b/\h.UpToSlots h'
section
variable{M:ac2}{A:D4}{E:o0->z4->Prop}{s:z4}{base:C9}{env:Env}{g l:List Env}{L e:A1}{t:Obj->Prop}{Q:Unit->z4->Prop}
theorem pH{N:Obj}{w:Array o0}{n:o0}{m:Bool}(st:ib t)
  (a0:A.frames=some (env::g)) (O:s.heap.FunFrames base (env::g)) (hf:env.frame=some L)
  (he:s.heap.get? e=some N) (Y:base.StaysIn s.heap) (P:base.get? e=none) (J:N.data=.fields w) (hsz:1<w.size) (h0:t N)
  (h:∀h',GoX base (env::g) e t (ac1 L) s.heap h'->Q () { s with heap:=h' }) :
  B3 M A (do let a <-frameOf env;let pl <-entryPlaceOf L m;let b <-EntryCells.newEntry n a .none (ac1 L) .none pl;setField (.ref e) 1 b) Q E s:=by
 have H:e∉(env::g).filterMap (·.frame):=λhm=>by
  obtain⟨_,o,ho,f⟩:=O.mem hm;rw[he]at ho;cases ho;exact f w J
 refine u8 (wpAny_frameOf_fun a0 O hf λj u=>?_);refine u8 (wpAny_entryPlaceOf λpl S=>?_);unfold EntryCells.newEntry newFields;refine u8 (N8 ?_ (S.sizeOk5 _ _ _ _ _));have C:j.get? e=some N:=(u.2.1 e H).trans he;have z:base.StaysIn j:=λb o i=>(u.2.1 b λhm=>by rw[(O.mem hm).1]at i;cases i).trans (Y b o i);have I:([n,.ref L,.none,ac1 L,.none]++(if pl.isEmpty then z5 6 C4 else pl)).toArray[3]?=some (ac1 L):=by simp
 generalize ([n,.ref L,.none,ac1 L,.none]++(if pl.isEmpty then z5 6 C4 else pl)).toArray=T at I ⊢;have x:=z6 (h:=j) { cls:=.type "traceback",dict:=none,data:=.fields T } C;refine wpAny_setField x J hsz (h _ ?_);have G:j.objs.size≠e:=X9 (A7 C);have B:=U7 J (·.setIfInBounds 1 (A9 j.objs.size));have X:=J5 (Q8 (·.setIfInBounds 1 (A9 j.objs.size))) x (Obj.isFreed_of_fields B);have Z:=(B9 (j.push { cls:=.type "traceback",dict:=none,data:=.fields T }) (Q8 (·.setIfInBounds 1 (A9 j.objs.size))) (N6 G)).trans (C8 j rfl);have keep:∀b o,b≠e->j.get? b=some o->((j.push { cls:=.type "traceback",dict:=none,data:=.fields T }).update e (Q8 (·.setIfInBounds 1 (A9 j.objs.size)))).get? b=some o:=λb o R p=>by
  rw[B9 _ _ (N6 R)];exact z6 _ p
 have l:∀b o,s.heap.get? b=some o->(∀w,o.data≠.fields w)->b≠e:=λb o p f q=>by
  rw[q,he]at p;cases p;exact f w J
 refine⟨λb o i=>keep b o (λq=>by rw[q,P]at i;cases i) (z b o i),O.of_keeps λb o p f=>?_,?_,λb o p f=>?_⟩
 ·obtain⟨sl,U⟩:=u.2.2 b o p;exact⟨_,keep b _ (l b o p f) U,rfl⟩
 ·exact⟨_,_,j.objs.size,_,_,X,st _ _ h0,B,by simp[hsz],z.fresh,G,Z,rfl,I⟩
 ·obtain⟨sl,U⟩:=u.2.2 b o p;exact⟨sl,keep b _ (l b o p f) U⟩
theorem my{L:o0}(B:base.StaysIn s.heap)(R:s.heap.FunFrames base l)(J:vA s.heap base e t L)(h:∀h',GoX base l e t .none s.heap h'->Q () { s with heap:=h' }):B3 M A (setFlight (.ref e) none) Q E s:=by
 obtain⟨N,w,T,S,G,I,P,C,H,p,u,z,j,O⟩:=J;have m:3<G.size:=(K2.mp O).1;have a:∀b,b≠T->(s.heap.update T (Q8 λx=>x.setIfInBounds 3 C4)).get? b=s.heap.get? b:=λb i=>B9 _ _ (N6 i);have g:∀b o,s.heap.get? b=some o->(∀w,o.data≠.fields w)->b≠T:=λb o i f q=>by
  rw[q,z]at i;cases i;exact f G j
 refine wpAny_setFlight_none I C H z j m (h _ ⟨λb o n=>(a b λq=>by rw[q,p]at n;cases n).trans (B b o n),R.of_keeps λb o i f=>⟨o,(a b (g b o i f)).trans i,rfl⟩,?_,λb o i f=>⟨o.slots,(a b (g b o i f)).trans i⟩⟩);exact⟨N,w,T,_,_,(a e (N6 u)).trans I,P,C,H,p,u,J5 _ z (Obj.isFreed_of_fields (U7 j _)),U7 j _,by simp[m]⟩
theorem kS{b:Obj}{m:Array o0}(st:ib t)(i:A.frames=some (env::g))(H:s.heap.FunFrames base (env::g))(n:env.frame=some L)
  (he:s.heap.get? e=some b) (f:base.StaysIn s.heap) (a:base.get? e=none) (j:b.data=.fields m) (l:m[1]?=some .none) (x:t b)
  (h:∀h',GoX base (env::g) e t .none s.heap h'->Q () { s with heap:=h' }):B3 M A (leaving env (.ref e)) Q E s:=by
 unfold leaving ab7;simp only[n];refine u8 (u8 (W9 he j l ?_));rw[if_neg (by decide)];exact pH st i H n he f a j (K2.mp l).1 x λI ⟨o,q,G,p⟩=>my o q G λw ⟨C,B,u,z⟩=>h w ⟨C,B,u,p.trans z⟩
theorem wY(st:ib t)(z:A.frames=some (env::g))(R:s.heap.FunFrames base (env::g))(J:env.frame=some L)(N:vA s.heap base e t .none)(x:base.StaysIn s.heap)(n:base.get? e=none)
  (h:∀h',GoX base (env::g) e t (ac1 L) s.heap h'->Q () { s with heap:=h' }):B3 M A (ab7 (.ref e) env) Q E s:=by
 obtain⟨Z,I,T,oT,U,H,O,B,C,u,w,p,l,G⟩:=N;unfold ab7;simp only[J];refine u8 (W9 H B C ?_);rw[if_pos (show(A9 T != C4)=true from by simp)];refine u8 (W9 p l G ?_);rw[if_neg (show ¬ ((C4==ac1 L)=true)from by simp[ac1])];refine u8 (wpAny_setField p l (K2.mp G).1 ?_);have a:∀b,b≠T->(s.heap.update T (Q8 (·.setIfInBounds 3 C4))).get? b=s.heap.get? b:=λb j=>B9 _ _ (N6 j);have i:∀b o,s.heap.get? b=some o->(∀I,o.data≠.fields I)->b≠T:=λb o j f q=>by
  rw[q,p]at j;cases j;exact f U l
 refine pH st z (R.of_keeps λb o j f=>⟨o,(a b (i b o j f)).trans j,rfl⟩) J ((a e (N6 w)).trans H)
  (λb o m=>(a b λq=>by rw[q,u]at m;cases m).trans (x b o m)) n B (K2.mp C).1 O
  λh' ⟨Y,P,X,S⟩=>h h' ⟨Y,P,X,λb o j f=>S b o ((a b (i b o j f)).trans j) f⟩
end
theorem gn{prog:C1}{w:F8}{A:D4}{E:o0->z4->Prop}{h:C9}{g:Array ab5}{d:Drawn}{t:Nat}{os:OsState}{nm q:Str}{C N:A1}{bs bm s:List o0}{hdct:Bool}
  {sn:List Str} {sub:List o0} {ab:Bool} {col:Option Bool} {dd:Option A1} {k0 k1 k2 k3 k5:Option o0} {B newId i:String} (F:ExcBaseFacts B newId i s) (T:ac9 h s bm)
  {K:s0} {rest:List o0} {H:A1} {x:Obj} {Q:PySem.Fin->z4->Prop} (p:h.get? C=some (K8 nm q C N bs bm hdct sn sub ab col dd k0 k1 k2 k3 k5 newId)) (M:K.In h)
  (I:F2 K (.ref C) "__init__"=some (some (A9 H))) (G:h.get? H=some x) (u:x.cls=D5 "function")
  (L:∀(h':C9) (e:A1),h.objs.size<=e->h.MadeExcOf h' e (A9 C) rest->B3 (D3 prog w) A (call (A9 H) (A9 e::rest)) (λr s'=>r=C4/\Q (Fin.done (Flow.ret (A9 e))) s') E { heap:=h',gens:=g,drawn:=d,toks:=t,os:=os })
  (l:rest.length<=A0):B3 (D3 prog w) A (E4.«type.__call__» { pos:=A9 C::rest }) Q E { heap:=h,gens:=g,drawn:=d,toks:=t,os:=os }:=by
 unfold E4.«type.__call__»;dsimp only;refine F6 (X4 (decide ((A9 C==D5 "type")=true))) (u8 ?_);show B3 _ _ (F0 _ _) _ _ _;refine u8 ?_;show B3 _ _ (F0 _ _) _ _ _;refine u8 (Z5 p (z7 (z7 ?_)));refine F6 (X4 (decide ({ name:=nm,bases:=bs,mro:=A9 C::bm,ns:=N,qualname:=q,hasDict:=hdct,slotNames:=sn,subclasses:=sub,abstract:=ab,collection:=col:ClassData }.mro.isEmpty=true))) ?_;refine u8 (wpAny_madeBy_exc p (u8 (z7 (u8 (K0 (T6 ?_))))));refine codeAny_call_builtin_code (Code.quiet_builtin { pos:=A9 C::rest } F.quiet) (wpAny_check_new_subT F T p (codeAny_exc_new_subT F T p ?_ l));have m:=z6 { cls:=A9 C,data:=T1 #[A9 h.objs.size,C4,C4,C4,U8 false,C4] } (z6 { cls:=D5 "tuple",data:=aa6 rest.toArray } p);have j:=z6 { cls:=A9 C,data:=T1 #[A9 h.objs.size,C4,C4,C4,U8 false,C4] } (z6 { cls:=D5 "tuple",data:=aa6 rest.toArray } G);have kp:∀b o,h.get? b=some o->((h.push { cls:=D5 "tuple",data:=aa6 rest.toArray }).push { cls:=A9 C,data:=T1 #[A9 h.objs.size,C4,C4,C4,U8 false,C4] }).get? b=some o:=λb o e=>z6 _ (z6 _ e);have n:=M.keeps kp;have f:=C9.get?_push_at (h:=h.push { cls:=D5 "tuple",data:=aa6 rest.toArray }) (a:=h.objs.size+1) (o:={ cls:=A9 C,data:=T1 #[A9 h.objs.size,C4,C4,C4,U8 false,C4] }) (by rw[C9.size_push]) rfl;show B3 _ _ (F0 _ _) _ _ _;refine u8 (u8 ?_);show B3 _ _ (F0 _ _) _ _ _;refine u8 (K1 f (z7 (T3 m ?_)));rw[show(A9 C::bm).contains (A9 C)=true by simp];refine F6 (X4 (decide ((!true)=true))) (u8 (K0 ?_));show B3 _ _ (F0 _ _) _ _ _;refine u8 ?_;show B3 _ _ (F0 _ _) _ _ _;refine u8 ?_;show B3 _ _ (F0 _ _) _ _ _;refine u8 (K1 f (z7 ?_));refine PySem.W.Looks.here (PySem.W.looks_findIn n I) ?_;refine K0 (u8 ?_);show B3 _ _ (F0 _ _) _ _ _;refine u8 (aa2 ⟨x,j,u⟩ ?_);refine V3 (X4 (decide ((D5 "function"==D5 "function" || D5 "function"==D5 "method_descriptor" || D5 "function"==D5 "wrapper_descriptor")=true))) (z7 ?_);refine u8 (F3 (L _ (h.objs.size+1) (ab3 _) ⟨kp,?_,h.objs.size,f,?_,?_⟩) ?_ λ_ _ z=>z)
 ·exact L9 (ab3 _)
 ·exact L9 (B8 _)
 ·exact z6 _ (C8 _ rfl)
 ·rintro r s' ⟨rfl,J⟩;exact z7 (F6 (X4 (decide ((C4 != C4)=true))) (z7 J))
theorem lA{prog:C1}{w:F8}{A:D4}{E:o0->z4->Prop}{h:C9}{g:Array ab5}{d:Drawn}{t:Nat}{os:OsState}{nm q:Str}{C N:A1}{bs bm f:List o0}{hdct:Bool}
  {sn:List Str} {sub:List o0} {ab:Bool} {col:Option Bool} {dd:Option A1} {k0 k1 k2 k3 k5:Option o0} {B newId a:String} (F:ExcBaseFacts B newId a f) (T:ac9 h f bm)
  {K:s0} {rest:List o0} {m:A1} {n:Obj} {Q:o0->z4->Prop} (i:h.get? C=some (K8 nm q C N bs bm hdct sn sub ab col dd k0 k1 k2 k3 k5 newId)) (G:K.In h)
  (p:F2 K (.ref C) "__init__"=some (some (A9 m))) (l:h.get? m=some n) (j:n.cls=D5 "function")
  (u:∀(h':C9) (e:A1),h.objs.size<=e->h.MadeExcOf h' e (A9 C) rest->B3 (D3 prog w) (A.under (Code.builtin "type.__call__" { pos:=A9 C::rest })) (call (A9 m) (A9 e::rest)) (λr s'=>r=C4/\Q (A9 e) s') E { heap:=h',gens:=g,drawn:=d,toks:=t,os:=os })
  (b:rest.length<=A0):B3 (D3 prog w) A (call (A9 C) rest) Q E { heap:=h,gens:=g,drawn:=d,toks:=t,os:=os }:=by
 have s:=tc_lookup;have x:=tc_bind (A9 C);have o:z4.TypeIs { heap:=h,gens:=g,drawn:=d,toks:=t,os:=os } (A9 C) "type":=⟨_,i,rfl⟩;refine T6 (codeAny_of_tree ?_);show B3 _ _ (F0 _ _) _ _ _;refine u8 (Z5 i ?_);show B3 _ _ (F0 _ _) _ _ _;refine u8 (wpAny_specialOf o s (u8 (wpAny_of_eq x (u8 ?_))));refine z7 (V3 (X4 (decide (("type.__call__"=="type.__call__")=true))) ?_);refine z7 ⟨rfl,codeAny_call_builtin_at (Code.quiet_builtin _ (by decide +kernel)) entry_typeCall (wpAny_check_type_call_sub i (gn F T i G p l j (λh' e z H=>u h' e z H) b))⟩
theorem gF{prog:C1}{w:F8}{A:D4}{E:o0->z4->Prop}{h:C9}{g:Array ab5}{d:Drawn}{t:Nat}{os:OsState}{nm q:Str}{C N e:A1}{bs bm m:List o0}{hdct:Bool}
  {sn:List Str} {sub:List o0} {ab:Bool} {col:Option Bool} {dd:Option A1} {k0 k1 k2 k3 k5:Option o0} {B newId a:String} (F:ExcBaseFacts B newId a m) (T:ac9 h m bm)
  {rest:List o0} {l:Obj} {J s u L p G:o0} {Q:o0->z4->Prop} (M:h.get? C=some (K8 nm q C N bs bm hdct sn sub ab col dd k0 k1 k2 k3 k5 newId))
  (he:h.get? e=some l) (j:l.cls=.ref C) (H:l.data=.fields #[J,s,u,L,p,G])
  (P:∀(h':C9) (t':A1),(∀b o,b≠e->h.get? b=some o->h'.get? b=some o)->h'.get? e=some { l with data:=.fields #[.ref t',s,u,L,p,G] }->Q .none { heap:=h',gens:=g,drawn:=d,toks:=t,os:=os })
  (i:rest.length<=A0):B3 (D3 prog w) A (call (U5 a) (A9 e::rest)) Q E { heap:=h,gens:=g,drawn:=d,toks:=t,os:=os }:=by
 refine T6 (P5 F.init.plain F.initEntry (wpAny_check_init_subT F T M he j ?_));unfold E4.«BaseException.__init__»;dsimp only;refine F6 (X4 (decide ((!({ pos:=A9 e::rest }:Args).kw.isEmpty)=true))) ?_;refine u8 ?_;unfold newTuple;obtain⟨S,U,z,R⟩:=l;obtain rfl:S=.ref C:=j;obtain rfl:z=_:=H;have f:=z6 { cls:=D5 "tuple",data:=aa6 rest.toArray } he;refine F6 (by rw[decide_eq_false_iff_not];simpa using i) ?_;refine u8 (wpAny_alloc' (z7 ?_));refine u8 ?_;unfold E4.BaseException.bexcPut;refine u8 ?_;show B3 _ _ (F0 _ _) _ _ _;refine u8 ?_;show B3 _ _ (F0 _ _) _ _ _;refine u8 (Z5 f (z7 (z7 (u8 ?_))));show B3 _ _ (F0 _ _) _ _ _;refine u8 (Z5 f ?_);dsimp only;refine V3 (X4 (decide (0<#[J,s,u,L,p,G].size))) (wpAny_update' f ?_);have n:Q C4 { heap:=(h.push { cls:=D5 "tuple",data:=aa6 rest.toArray }).update e (Q8 λx=>x.setIfInBounds 0 (A9 h.objs.size)),gens:=g,drawn:=d,toks:=t,os:=os }:=by
  refine P _ h.objs.size (λb o O I=>?_) ?_
  ·rw[B9 _ _ (N6 O)];exact z6 _ I
  ·exact J5 _ f rfl
 cases J
 all_goals first
  |exact wpAny_letGo (z7 n)
  |exact z7 (z7 n)
theorem lL{M:ac2}{A:D4}{E:o0->z4->Prop}{env:Env}{nm q:Str}{C N:A1}{bs bm:List o0}{hdct:Bool}{sn:List Str}{sub:List o0}{ab:Bool}{col:Option Bool}{dd:Option A1}
  {k0 k1 k2 k3 k5:Option o0} {newId:String} {s:z4} {x:C5} {pos:Pos} {Q:Flow->z4->Prop} (p:bm.contains (D5 "BaseException")=true) (o:A.handled=none)
  (h:B3 M A (M6 x env) (λv a => ∃ e n m i,v = A9 e ∧ a.heap.get? C = some (K8 nm q C N bs bm hdct sn sub ab col dd k0 k1 k2 k3 k5 newId) ∧
   a.heap.get? e=some { cls:=A9 C,dict:=n,data:=T1 #[m,C4,C4,C4,U8 false,C4],slots:=i }/\E (A9 e) a) E s) :
  B3 M A (exec (P9.Raise (some x) none pos) env) Q E s:=by
 have l:(A9 C::bm).contains (D5 "BaseException")=true:=by
  rw[List.contains_cons,p,Bool.or_true]
 rw[arm_exec_Raise];show B3 _ _ (F0 _ _) _ _ _;refine u8 ?_;refine W3 ?_;show B3 _ _ (F0 _ _) _ _ _;refine u8 (u8 (F3 h (λv a f=>?_) λ_ _ z=>z));obtain⟨e,n,m,i,rfl,j,b,t⟩:=f;obtain⟨u,g,d,w,os⟩:=a;dsimp only at j b;refine u8 (W3 (z7 ?_));refine u8 (z7 (u8 (K0 ?_)));show B3 _ _ (F0 _ _) _ _ _;refine u8 ?_;show B3 _ _ (F0 _ _) _ _ _;refine u8 ?_;show B3 _ _ (F0 _ _) _ _ _;refine u8 ?_;refine K1 b (z7 (F6 ?_ (z7 (F6 (X4 (decide (false=true))) ?_))))
 ·rfl
 refine u8 ?_;show B3 _ _ (F0 _ _) _ _ _;refine u8 ?_;show B3 _ _ (F0 _ _) _ _ _;refine u8 (K1 b (z7 (T3 j ?_)));rw[l];refine V3 (X4 (decide (true=true))) (z7 (u8 ?_));show B3 _ _ (F0 _ _) _ _ _;refine u8 ?_;refine K1 b (z7 (F6 ?_ (u8 ?_)))
 ·rfl
 show B3 _ _ (F0 _ _) _ _ _;refine u8 ?_;show B3 _ _ (F0 _ _) _ _ _;refine u8 (K1 b (z7 (u8 ?_)));show B3 _ _ (F0 _ _) _ _ _;refine u8 (K1 j (z7 (V3 ?_ (z7 (u8 ?_)))))
 ·rfl
 show B3 _ _ (F0 _ _) _ _ _;refine u8 ?_;show B3 _ _ (F0 _ _) _ _ _;refine u8 ?_;show B3 _ _ (F0 _ _) _ _ _;refine u8 (Z5 b (z7 (z7 (F6 ?_ (z7 (wpAny_raiseNew_none o t))))));rfl
abbrev veM:List o0:=[.type "ValueError",.type "Exception",.type "BaseException",.type "object"]
theorem n6(self:o0)(C W:A1):refuseLoop self "__setattr__" [.ref C,.ref W,.type "ValueError",.type "Exception",.type "BaseException",.type "object"]=W1 ():=by
 kernel_rfl
def jk(C e:A1)(h:C9):Prop:=∃b a,h.get? e=some { cls:=.ref C,dict:=none,data:=.fields #[b,.none,.none,.none,.bool false,.none],slots:=a }
theorem mm{P:C1}{w:F8}{H:Hp}{h:C9}{C e:A1}(x:jk C e h):bK P w H h e (.ext (jk C e)):=by
 obtain⟨i,f,g⟩:=x;exact⟨⟨i,f,g⟩,⟨_,g⟩,λj l ⟨a,b,q⟩ k=>⟨a,b,k _ q⟩⟩
structure iE(K:s0) (mg:Str->Option o0) (xC xW fld:Str) (C W fI:A1):Prop where
 gC:mg xC=some (.ref C)
 gW:mg xW=some (.ref W)
 kC:M8 K (.ref C)=true
 lC:∃nm q N bs sn sub ab col dd k0 k1 k2 k3 k5,K.lookup C=some (K8 nm q C N bs [.ref W,.type "ValueError",.type "Exception",.type "BaseException",.type "object"] true sn sub ab col dd k0 k1 k2 k3 k5 "ValueError.__new__")
 iC:F2 K (.ref C) "__init__"=some (some (.ref fI))
 lW:∃c0 dW cdW slW cN dN es ep sN,K.lookup W=some ⟨c0,dW,.cls cdW,slW⟩/\K.lookup cdW.ns=some ⟨cN,dN,.dict es ep,sN⟩/\es.toList.all (λe=>e.key.isStr "__init__"==false&&match e.key with|.str _ _=>true|_=>false)=true
 sW:V1 K (.ref W) "__getattribute__"=some (some (.builtin "type.__getattribute__"))
 rW:PySem.W.readsIn K W (.type "type")=true
 fW:PySem.W.findCls K (.ref W) (.type "type") "__init__"=some (.val (.builtin "ValueError.__init__"))
 sC:F2 K (.ref C) "__setattr__"=some (some (.builtin "object.__setattr__"))
 mC:W5 K C (.type "object")=some true
 tC:F2 K (.ref C) fld=some none
theorem iE.tail{K:s0}{s:Str->Option o0}{l o fld:Str}{C W m:A1}{h:C9}(Y:iE K s l o fld C W m)(f:K.In h):ac9 h veM (.ref W::veM):=by
 obtain⟨E,x,p,u,A,B,g,j,z,i,w,a⟩:=Y.lW;rw[F5]at a;refine ac9.own (f _ _ i) (mA:=nsFind g) ⟨_,g,j,f _ _ w,rfl,λe b=>?_,λ_=>rfl⟩ ?_ ac9.base
 ·have:=a e (by simpa using b);rw[B2]at this;cases q:e.key with
  |str n t=>exact⟨n,t,rfl⟩
  |_=>rw[q]at this;simp at this
 ·unfold nsFind findBy;rw[Option.map_eq_none_iff,Array.find?_eq_none];intro e b;have:=a e (by simpa using b);rw[B2]at this;simpa using this.1
section
variable{X:Cx}{G B E:Str}{C W J:A1}
def tWI(C:A1)(i:Nat):TE:=λa H Q=>∃e,a[i]?=some (some (.ref e))/\H e=some (.ext (jk C e))/\Q .non H
theorem v7(Y:iE X.K X.mg G B E C W J)(i:Nat){x:Str}{pl:Sem Bool}{p R ps pos l:Pos}{a:Str}{j:Nat}(hg:Gl X B)(hx:PE X (.Name x ps) (lY i))(ht:PE X (.Constant (.str a) j l) (tC (.str a)))
  (hdb:(B==("__debug__":Str))=false:=by decide)
  (P:z9 [.Name x ps,.Constant (.str a) j l] X.env=(false,M6 (.Name x ps) X.env)::z9 [.Constant (.str a) j l] X.env:=by rfl) (hpl:(K6 pos (z9 [.Constant (.str a) j l] X.env)).any (·.1)=false:=by rfl)
  (L:M6 (.Call (.Attribute (.Name B p) "__init__" R) [.Name x ps,.Constant (.str a) j l] [] pos) X.env = (do
   let Z <-M6 (.Name B p) X.env
   ac4 R.atName
   let(f,first) <-Z1 [Z] (getMethod Z "__init__" pl)
   callWith pos f first (K6 pos (z9 [.Name x ps,.Constant (.str a) j l] X.env)) (U3 pos (O2 [] X.env))):=by rfl) :
  PE X (.Call (.Attribute (.Name B p) "__init__" R) [.Name x ps,.Constant (.str a) j l] [] pos) (tWI C i):=by
 intro aa s σ H Q I h;obtain⟨e,ei,M,q⟩:=h;refine PySem.W.methodCall_KW (pl:=pl) (ft I hg Y.gW ?_ hdb) L;refine PySem.W.method_cls I.kIn Y.sW (PySem.W.cls_value I.kIn Y.rW Y.fW rfl ?_);have I1:=I.tok (s.toks+1);have ha:PA X [.Name x ps,.Constant (.str a) j l] (jc (lY i) (jc (tC (.str a)) ur)):=bp hx (bp ht cK);refine PyProof.Rows.callWith_builtin1 (thn (ha pos aa _ σ H (λvs n=>vs=[.ref e,.str a]/\n=H) I1 ?_) λus s1 hs=>?_) P hpl
 ·exact⟨.ref e,ei,rfl,rfl⟩
 obtain⟨vs,n,w,m,rfl,rfl⟩:=hs;obtain⟨A,S,rfl,O,r2⟩:∃A S,us=[A,S]/\aF (.ref e) A/\aF (.str a) S:=by
  cases m with
  |cons O m =>
   cases m with
   |cons r2 m =>
    cases m;exact⟨_,_,rfl,O,r2⟩
 obtain rfl:A=.ref e:=O;obtain⟨⟨a0,a1,g⟩,_⟩:=w.hok e _ M;obtain⟨nm,q',N,bs,sn,sub,ab,a2,dd,k0,k1,k2,k3,k5,lC⟩:=Y.lC;obtain⟨hp,gs,d,t,os⟩:=s1;refine gF F.excBase_ValueError (Y.tail w.kIn) (w.kIn _ _ lC) g rfl rfl (λU t' kp T=>?_) (X8 (i3 (by simp)));have I3:=w.write (t':=t) (h':=U) (x:=e) (e:=e) (o:=.ext (jk C e)) (by rw[M];trivial) (.inl rfl) (λb u hb hu=>kp b u hb hu) ⟨_,T⟩ (mm ⟨_,_,T⟩);have eu:upd n e (.ext (jk C e))=n:=by
  funext b;unfold upd
  split
  ·next z=>rw[z,M]
  ·rfl
 rw[eu]at I3;exact⟨.non,n,I3,rfl,q⟩
end
section
variable{X:Cx}{B E t:Str}{C W G:A1}{g:List (A1×Obj)}{σ:St}{H:Hp}{s:z4}
theorem Inv.forget{e:A1}{φ:C9->Prop}(I:Inv X g σ (upd H e (.ext φ)) s)(l:H e=none):Inv X g σ H s:=by
 have i:∀{b o},upd H e (.ext φ) b=some o->(∀ E,o≠.ext E)->H b=some o:=λ{b o} q z=>by
  by_cases h:b=e
  ·subst h;rw[aM]at q;cases q;exact absurd rfl (z φ)
  ·rw[az h]at q;exact q
 have j:∀{b},upd H e (.ext φ) b=none->H b=none:=λ{b} q=>by
  by_cases h:b=e
  ·subst h;exact l
  ·rw[az h]at q;exact q
 refine⟨I.ok,I.os,I.bare,⟨I.base.keep,I.base.slot,λb o q n x=>j (I.base.free b o q n x),I.base.there,λb m q=>i (I.base.tups b m q) (λ_ z=>by cases z),λb o u q=>i (I.base.frzs b o u q) (λ_ z=>by cases z),λb A q=>?_⟩,I.loc,I.cell,j I.free,λx c q=>j (I.freeC x c q),λp B=>?_,λa o q=>?_,I.len⟩
 ·obtain⟨f,G⟩:=I.base.tbls b A q;exact⟨f,i G (λ_ z=>by cases z)⟩
 ·obtain⟨t,J,w⟩:=I.pin p B;exact⟨t,j J,w⟩
 ·have C:a≠e:=by rintro rfl;rw[l]at q;cases q
  refine(I.hok a o (by rw[az C];exact q)).stay (λc v _ r=>r) (λc r=>i r (λ_ z=>by cases z)) λc m r=>i r (λ_ z=>by cases z)
end
theorem bK.is{P:C1}{w:F8}{H:Hp}{h:C9}{a:A1}{o:HO}(x:bK P w H h a o):∃u,h.get? a=some u:=by
 cases o with
 |lst i=>obtain⟨_,_,_,_,e⟩:=x;exact⟨_,e⟩
 |tup i=>obtain⟨_,_,_,g,e,_⟩:=x;exact⟨_,e⟩
 |dK b=>obtain⟨_,_,_,_,o,_,_,e,_⟩:=x;exact⟨_,e⟩
 |dT b=>obtain⟨_,_,_,_,o,_,_,e,_⟩:=x;exact⟨_,e⟩
 |set S n=>obtain⟨o,_,_,_,e,_⟩:=x;exact⟨_,e⟩
 |ins C l fs=>obtain⟨_,_,_,e,_⟩:=x;exact⟨_,e⟩
 |own y=>exact x
 |xd fs=>obtain⟨_,⟨_,_,_,e,_⟩,_⟩:=x;exact⟨_,e⟩
 |rng lo m=>obtain⟨_,_,_,e⟩:=x;exact⟨_,e⟩
 |frz g u=>obtain⟨e,_⟩:=x;exact⟨_,e⟩
 |tbl j=>exact⟨_,x⟩
 |met f y=>exact⟨_,x⟩
 |ext p=>exact x.2.1
def ExF(C:A1)(o:Obj):Prop:=o.cls=.ref C/\∃a,o.data=.fields a/\a[2]?=some .none
theorem lJ{C:A1}:ib (ExF C):=λo v ⟨a,f,e,b⟩=>⟨(Obj.cls_mapFields _ _).trans a,_,U7 e _,by rw[Array.getElem?_setIfInBounds_ne (by decide)];exact b⟩
section
variable{X:Cx}{B:List (A1×Obj)}{σ:St}{E g:Hp}{t s':z4}{C a T:A1}
theorem kE{h:C9}{Z:List A1}(x:Inv X B σ E t)(os:s'.os=t.os)(a:V9 s'.gens)(un:Un (frs X.stack) [] E g t.heap s'.heap)(m:HOk X.prog X.w g s'.heap)
  (kp:∀b o,s'.heap.get? b=some o->b∉Z->b∉frs X.stack->h.get? b=some o) (G:∀b o,b∈frs X.stack->s'.heap.get? b=some o->∃C,h.get? b=some { o with slots:=C })
  (w:∀b∈Z,t.heap.get? b=none/\g b=none):Inv X B σ g { s' with heap:=h }:=by
 have I:Inv X B σ g s':=x.call' (ch:=[]) os un m a λb z=>absurd z (by simp);have i:=I.stkFree;have A:∀{b o},t.heap.get? b=some o->b∉Z:=λ{b o} e z=>by rw[(w b z).1]at e;cases e
 refine x.call' (s':={ s' with heap:=h }) (ch:=[]) os ⟨λb o e n j p=>kp b o (un.keep b o e n j p) (A e) j,λb o e n j p=>?_,un.free,λb o e p=>?_,un.tups,un.frzs,un.tbls⟩ (λb o e=>?_) a λb z=>absurd z (by simp)
 ·obtain⟨C,q⟩:=un.slot b o e n j p;obtain⟨l,s⟩:=G b _ j q;exact⟨l,s⟩
 ·obtain⟨u,q⟩:=un.there b o e p
  by_cases H:b∈frs X.stack
  ·obtain⟨l,s⟩:=G b _ H q;exact⟨_,s⟩
  ·exact⟨u,kp b u q (A e) H⟩
 ·refine(m b o e).stay (λc v f r=>kp c v r (λz=>?_) (λz=>?_)) (λc r=>r) λc J r=>r
  ·have:=(w c z).2;rcases f with rfl|f
   ·rw[this]at e;cases e
   ·rw[this]at f;cases f
  ·have:=i c z;rcases f with rfl|f
   ·rw[this]at e;cases e
   ·rw[this]at f;cases f
end
theorem iE.cls{K:s0}{h:Str->Option o0}{e g fld:Str}{C W f:A1}(Y:iE K h e g fld C W f):∃nm q N bs bm a sn sub ab col dd k0 k1 k2 k3 k5 newId,K.lookup C=some (K8 nm q C N bs bm a sn sub ab col dd k0 k1 k2 k3 k5 newId)/\bm.contains (.type "BaseException")=true:=by
 obtain⟨nm,q,N,bs,sn,sub,ab,col,dd,k0,k1,k2,k3,k5,b⟩:=Y.lC;exact⟨nm,q,N,bs,_,_,sn,sub,ab,col,dd,k0,k1,k2,k3,k5,_,b,rfl⟩
theorem gY{b:Type}{p:b->Bool}:∀(l:List b) (i:Nat),(∀x,l[i]?=some x->p x=false)->(l.eraseIdx i).find? p=l.find? p
 |[],_,_=>rfl
 |a::l,0,h=>by simp[O3,h a rfl]
 |a::l,i+1,h=>by
  simp only[List.eraseIdx_cons_succ,O3];rw[gY l i (λx e=>h x (by simpa using e))]
theorem kI{b:Array ac6}{name x:Str}{i:Nat}(g:b.findIdx? (·.key.isStr name)=some i)(h:x≠name):nsFind (b.eraseIdxIfInBounds i) x=nsFind b x:=by
 unfold nsFind findBy;rw[<-Array.find?_toList,<-Array.find?_toList];obtain⟨f,a,j⟩:=Array.findIdx?_eq_some_iff_getElem.mp g;rw[Array.eraseIdxIfInBounds,dif_pos f,Array.toList_eraseIdx,gY];intro y e;rw[Array.getElem?_toList,Array.getElem?_eq_getElem f]at e;cases e;have a:b[i].key.isStr name=true:=a;show b[i].key.isStr x=false;cases q:b[i].key<;>rw[q]at a<;>simp only[o0.isStr]at a ⊢<;>first|(cases a;done)|skip
 all_goals first|(rw[beq_iff_eq]at a;rw[beq_eq_false_iff_ne];exact λz=>h (z.symm.trans a))|rfl
section
variable{M:ac2}{A:D4}{E:o0->z4->Prop}{s:z4}
theorem u7{a:A1}{m}{name:Str}{Q:Bool->z4->Prop}(P:s.heap.Ns a m)
  (O:∀h' j,h'.Ns a j->(∀x,x≠name->j x=m x)->V5 a s.heap h'->Q (m name).isSome { s with heap:=h' }):B3 M A (nsDel a name) Q E s:=by
 obtain⟨o,l,N,w,L,z,C⟩:=id P;have q:l.any (·.refKey)=false:=by
  rw[Array.any_eq_false'];intro e R;obtain⟨n,t,h⟩:=z e R;simp[ac6.refKey,h]
 have g:(m name).isSome=l.any (·.key.isStr name):=by
  rw[<-C name];simp only[nsFind,findBy,Option.isSome_map];rw[U6];simp only[Array.find?_isSome,Array.any_eq_true];constructor
  ·rintro⟨x,G,B⟩;obtain⟨i,f,rfl⟩:=Array.mem_iff_getElem.mp G;exact⟨i,f,B⟩
  ·rintro⟨i,f,B⟩;exact⟨_,Array.getElem_mem f,B⟩
 have p:nsHas name o=W1 (l.any (·.key.isStr name)):=by
  rw[nsHas_eq];unfold nsHasByArray;rw[L];show(if(l.any λx=>x.key.isStr name)=true then _ else _)=_;generalize (l.any λx=>x.key.isStr name)=b;cases b<;>simp[q]
 unfold nsDel;refine u8 (V4 w ?_);rw[p];refine u8 (z7 ?_);rw[<-g];cases u:(m name).isSome
 ·have:=O s.heap m P (λ_ _=>rfl) (.refl ..);rw[u]at this;exact z7 this
 ·refine u8 (wpAny_updatePart w (z7 ?_));have H:∃j,(s.heap.update a (Obj.dropName name)).Ns a j/\∀x,x≠name->j x=m x:=by
   obtain⟨T,d,dt,S⟩:=o;subst L;cases f:l.findIdx? (·.key.isStr name)with
   |some i=>exact⟨_,⟨_,_,N+1,J5 _ w (by simp only[X5,T4,f]<;>rfl),(by simp only[X5,T4,f]<;>rfl),z.erase i,λ_=>rfl⟩,λx G=>by rw[kI f G,C]⟩
   |none=>exact⟨_,⟨_,_,N,J5 _ w (by simp only[X5,T4,f]<;>rfl),(by simp only[X5,T4,f]<;>rfl),z,λ_=>rfl⟩,λx _=>C x⟩
  obtain⟨j,I,J⟩:=H;have:=O _ j I J (V5.update ..);rw[u]at this;exact this
end
end L2
namespace L2
open PySem PySem.Spec PySem.Calls PyProof.Rows PySem.W PySem.Builtin PySem.Builtin.ObjectAttr PySem.Builtin.Getset_descriptor
def ju(C e:A1)(h:C9):Prop:=∃o,h.get? e=some o/\ExF C o
theorem ju.type{M:ac2}{h:C9}{C e:A1}(x:ju C e h):Looks M h (typeOf (.ref e)) (.ref C):=by
 obtain⟨o,g,r,_⟩:=x;exact r▸(Looks.ld g).andThen .now
section
variable{prog:C1}{w:F8}{A:D4}{E:o0->z4->Prop}{s:z4}{K:Frag}{x C D:A1}{name:Str}
theorem ki{M:ac2}{a:o0}{Q:Unit->z4->Prop}(X:K.In s.heap)(I:ju D x s.heap)(j:mroIn K D (.type "BaseException")=some true)(h:Q () s):
  B3 M A (checkBuiltinCall "BaseException.__getattribute__" ⟨[.ref x,a],[]⟩) Q E s:=by
 obtain⟨p,g,d,t,os⟩:=s;have n:builtinKind "BaseException.__getattribute__"=some .slot:=by decide +kernel
 have b:splitId "BaseException.__getattribute__"=some ("BaseException","__getattribute__"):=by decide +kernel
 have i:=F.args_bexc_ga (.ref x) a;have l:=I.type (M:=M);have m:=looks_mroIn (M:=M) X j;simp only[checkBuiltinCall,n,b];unfold isInstance;refine u8 (u8 (l.at (m.at ?_)));simp only[Bool.not_true,A6,if_false];cases f:Manifest.signature? "BaseException.__getattribute__" with
 |none=>exact z7 h
 |some e =>
  simp only[argsOk,f]at i;have o:Bind.checkArgs "BaseException.__getattribute__" e ⟨[.ref x,a],[]⟩=W1 ():=i;show B3 M A (Bind.checkArgs "BaseException.__getattribute__" e ⟨[.ref x,a],[]⟩) Q E _;rw[o];exact z7 h
theorem sv{M:ac2}{h:C9}{a g:o0}(X:K.In h)(ha:findIn K (.ref D) name=some (some a))(hg:specialIn K a "__get__"=some (some g))(b:takesIn K a=some true):
  Looks M h (find (.ref x) (.ref D) name) (.bind g a):=by
 have e:=looks_findIn (M:=M) X ha;have f:Looks M h (getOf (some a)) (some g):=looks_specialIn X hg;have i:=looks_takesIn (M:=M) X b;refine e.andThen (f.andThen ?_);exact(show Looks M h (dataDescriptor? (some a) (some g)) (some (g,a))from i.andThen .now).andThen (Looks.tag .now)
theorem oG{g a:o0}{j:Tok}{P:o0->z4->Prop}(X:K.In s.heap)(I:ju D x s.heap)(ha:findIn K (.ref D) name=some (some a))(hg:specialIn K a "__get__"=some (some g))(e:takesIn K a=some true)
  (h:B3 (D3 prog w) A (call g [a,.ref x,.ref D]) P E s) :
  B3 (D3 prog w) A (E4.«object.__getattribute__» ⟨[.ref x,.str name j],[]⟩) (λb s'=>match b with|.done (.ret v)=>P v s'|_=>False) E s:=by
 obtain⟨l,m,d,t,os⟩:=s;have f:=I.type (M:=D3 prog w);have i:=sv (M:=D3 prog w) (x:=x) X ha hg e;refine u8 (z7 (u8 (z7 (u8 (f.at (u8 (i.at ?_)))))));show B3 _ _ (Z1 [a] (call g [a,.ref x,.ref D]) >>= ret) _ _ _;exact u8 (K0 (F3 h (λv s' z=>z7 z) λ_ _ z=>z))
theorem rb{g a:o0}{Q:Option o0->z4->Prop}(X:K.In s.heap)(I:ju D x s.heap)(e:findIn K (.ref D) "__getattribute__"=some (some (.builtin "BaseException.__getattribute__")))(j:findIn K (.ref D) "__getattr__"=some none)(q:mroIn K D (.type "BaseException")=some true)
  (ha:findIn K (.ref D) name=some (some a)) (hg:specialIn K a "__get__"=some (some g)) (l:takesIn K a=some true)
  (h:∀A o,B3 (D3 prog w) A (call g [a,.ref x,.ref D]) (λv s'=>B3 (D3 prog w) o (handedOut v) (λv b=>Q (some v) b) (λ_ _=>False) s') (λ_ _=>False) { s with toks:=s.toks+1 }) :
  B3 (D3 prog w) A (getAttr? (.ref x) name) Q E s:=by
 obtain⟨m,n,d,t,os⟩:=s;have u:=I.type (M:=D3 prog w);have B:=looks_findIn (M:=D3 prog w) X e;have C:=looks_findIn (M:=D3 prog w) X j;unfold getAttr? getAttrBy? getAttrBy;refine u8 (wpAny_mkText (u8 (wpAny_attempt (K0 (u8 (u.at (u8 (B.at ?_))))))));have f:(U5 "BaseException.__getattribute__"==U5 "object.__getattribute__")=false:=by decide +kernel
 simp only[f,S6,A6,if_false];unfold getAttrByItsOwn hookBefore;refine u8 (C.at (u8 (wpAny_attempt (K0 ?_))));unfold callGetattribute boundAndCalled;simp only[R1,A6,if_false];rw[show bindSpecial (.builtin "BaseException.__getattribute__") (.ref x)=W1 (.builtin "BaseException.__getattribute__",[.ref x])from S4.ga.bind _];refine u8 (z7 (T6 ?_));refine P5 S4.ga.plain F.entry_bexc_ga (ki X I q ?_);refine F3 (oG (s:=⟨m,n,d,t+1,os⟩) X I ha hg l (h _ A)) (λi s' z=>?_) (λ_ _ z=>z.elim);rcases i with(_|_|_|_)|_<;>first|exact F3 z (λv b p=>z7 p) (λ_ _ z=>z.elim)|exact z.elim
theorem vv{b:o0}{R:Result->z4->Prop}(X:K.In s.heap)(I:ju C x s.heap)(a:mroIn K C (.type "object")=some true)
  (h:R (.ok (.ret (.ref C))) s):aa1 (D3 prog w) A (.call (.builtin "getset_descriptor.__get__") ⟨[.builtin "object.__class__",.ref x,b],[]⟩) R s:=by
 obtain⟨e,g,j,t,os⟩:=s;have f:=I.type (M:=D3 prog w);have i:=looks_mroIn (M:=D3 prog w) X a;refine P5 KF.slot_gs.plain KF.entry_gs (KF.slot_gs.check _ _ _ _ _ _ _ _ KF.type_class (KF.args_gs _ _ _) ?_);unfold E4.«getset_descriptor.__get__» descrGet;rw[dga_obj];refine u8 (z7 ?_);unfold descrGetter descrCheckInstance descrNameAndClass isInstance;simp only[KF.owner_class]
 repeat lk
 refine⟨Code.quiet_builtin _ (by decide +kernel),codeAny_builtin KF.entry_class ?_⟩;unfold E4.«object.__class__» shownTypeOf
 repeat lk
 exact h
theorem oX(l:findIn K (.ref D) "__getattribute__"=some (some (.builtin "BaseException.__getattribute__")))(o:findIn K (.ref D) "__getattr__"=some none)(t:mroIn K D (.type "BaseException")=some true)(hdct:(clsIn K D).isSome=true)(ha:findIn K (.ref D) "__class__"=some (some (.builtin "object.__class__")))
  (B:specialIn K (.builtin "object.__class__") "__get__"=some (some (.builtin "getset_descriptor.__get__"))) (b:takesIn K (.builtin "object.__class__")=some true) (A:mroIn K D (.type "object")=some true) :
  KitX K (.ref x) (.ref D) (ju D x) where
 ty:=λ_ _ _ I=>I.type
 it:=λ_ _ X _=>by
  obtain⟨j,a⟩:=E8.mp hdct;unfold clsIn at a
  split at a
  ·rename_i C u f i m;intro G N L H k q;unfold isType loadHead;exact u8 (V4 (k _ _ (X _ _ m)) (z7 q))
  ·cases a
 ne:=λh E M w n J X g=>by
  obtain⟨j,a⟩:=E8.mp hdct;refine Bool.eq_false_iff.mpr λq=>?_;have e:D=E:=A9.inj (beq_iff_eq.mp q);subst e;unfold clsIn at a
  split at a
  ·rename_i C u f i m;have z:=(X _ _ m).symm.trans g;cases z
  ·cases a
 ca:=λ{_ _ _ _ _ s} X I k=>rb X I l o t ha B b λ_ _=>T6 (vv (s:={ s with toks:=s.toks+1 }) X I A (handed_on rfl k))
end
end L2
namespace L2
open PySem PySem.Spec PyProof.Rows
section
variable{X:Cx}{g:List (A1×Obj)}{σ:St}{H:Hp}{s:z4}
theorem gu{M:ac2}{A:D4}{E:o0->z4->Prop}{i:Nat}{x:Str}{pos:Pos}{Q:Unit->z4->Prop}(I:Inv X g σ H s)(U:X.N.Nodup)(N:X.N[i]?=some x)(t:X.env.scope.names.lookup x=some .local)
  (h:∀s',Inv X g (σ.set i none) H s'->Q () s'):B3 M A (do bindName X.env x .none;unbindBehindTheSuite X.env x pos) Q E s:=by
 refine u8 (wpAny_bindName (fi I U N (.inl t) (v:=.non) (u:=.none) rfl (λs1 a=>?_) (.inr t)));have w:i<σ.length:=by rw[I.len];exact(D8.mp N).1
 unfold unbindBehindTheSuite;refine wpAny_onRaise ?_;unfold unbindName;refine u8 (wpAny_point (u8 ?_));unfold deleteName;have hl:X.env.kindOf x=some .local:=t;have G:(X.env.scope.kind==.class || (X.env.scope.kind==.module&&X.env.locals != X.env.globals))=false:=by rw[I.ok.kind];rfl
 simp only[hl,G];rw[if_neg (by decide)];obtain⟨m,Z,J⟩:=id a.loc;have hm:(m x).isSome=true:=by
  obtain⟨u,r,q⟩:=J i x .non N (by rw[K3 w]) (.inl t);rcases q with⟨_,e⟩|⟨k,_⟩
  ·rw[e];rfl
  ·rw[hl]at k;rcases k with k|k<;>cases k
 refine u8 (u7 Z λh2 m2 R T B=>?_);rw[hm];simp only[Bool.not_true,A6,if_false];refine z7 (wpAny_point (h _ ?_));have cne:=a.cne;obtain⟨oL,_,_,a0,_⟩:=id Z;have f:HOk X.prog X.w H h2:=λb ob e=>by
  refine(a.hok b ob e).stay (λc w' L q=>(B.2 c ?_).trans q) (λ_ q=>q) λ_ _ q=>q;rintro rfl;have l:=a.free;rcases L with rfl|L
  ·rw[l]at e;cases e
  ·rw[l]at L;cases L
 refine⟨a.ok,a.os,a.bare,⟨λb o e n S t=>?_,λb o e n S t=>?_,a.base.free,λb o e t=>?_,a.base.tups,a.base.frzs,a.base.tbls⟩,⟨_,R,λj y v' C P e3=>?_⟩,λy c e=>?_,a.free,a.freeC,λp hp=>?_,f,by simpa using I.len⟩
 ·exact(B.2 b (D1 (A8 (A7 e) I.ok.above))).trans (a.base.keep b o e n S t)
 ·obtain⟨sl,C⟩:=a.base.slot b o e n S t;exact⟨sl,(B.2 b (D1 (A8 (A7 e) I.ok.above))).trans C⟩
 ·obtain⟨o',C⟩:=a.base.there b o e t;exact⟨o',(B.2 b (D1 (A8 (A7 e) I.ok.above))).trans C⟩
 ·by_cases O:j=i
  ·subst O;rw[K3 w]at P;cases P
  ·rw[N4 (N6 O)]at P;obtain⟨u',r',q⟩:=J j y v' C (by rw[N4 (N6 O)];exact P) e3;refine⟨u',r',?_⟩;rcases q with⟨k,e⟩|⟨k,c,e,z⟩
   ·refine .inl ⟨k,?_⟩;have:y≠x:=λe=>O (g8 U C (e▸N));rw[T y this];exact e
   ·exact .inr ⟨k,c,e,z.sameBut B (cne y c e)⟩
 ·obtain⟨w',z⟩:=a.cell y c e;exact⟨w',z.sameBut B (cne y c e)⟩
 ·obtain⟨e,n,Y,nf,d⟩:=a.pin p hp;exact⟨(B.2 p.1 Y).trans e,n,Y,nf,d⟩
theorem Inv.track{a:A1}{φ:C9->Prop}(I:Inv X g σ H s)(G:H a=none)(J:bK X.prog X.w (upd H a (.ext φ)) s.heap a (.ext φ))(B:X.s₀.heap.get? a=none)(C:a≠X.env.locals)(t:∀x c,X.env.cells.lookup x=some c->c≠a)
  (w:∀p∈X.pn++g,p.1≠a):Inv X g σ (upd H a (.ext φ)) s:=by
 have f:∀{b o},H b=some o->upd H a (.ext φ) b=some o:=λ{b o} q=>by
  by_cases z:b=a
  ·rw[z,G]at q;cases q
  ·rw[az z];exact q
 refine⟨I.ok,I.os,I.bare,⟨I.base.keep,I.base.slot,λb o e n x=>?_,I.base.there,λb j q=>f (I.base.tups b j q),λb o u q=>f (I.base.frzs b o u q),λb m q=>?_⟩,I.loc,I.cell,?_,λx c e=>?_,λp z=>?_,λb o e=>?_,I.len⟩
 ·have:b≠a:=λz=>by rw[z,B]at e;cases e
  rw[az this];exact I.base.free b o e n x
 ·obtain⟨h,E⟩:=I.base.tbls b m q;exact⟨h,f E⟩
 ·rw[az (N6 C)];exact I.free
 ·rw[az (t x c e)];exact I.freeC x c e
 ·obtain⟨l,L,A⟩:=I.pin p z;exact⟨l,by rw[az (w p z)];exact L,A⟩
 ·by_cases i:b=a
  ·subst i;rw[aM]at e;cases e;exact J
  ·rw[az i]at e;exact(I.hok b o e).stay (λc v _ r=>r) (λc r=>f r) λc j r=>f r
end
theorem SR.setN{K:s0}{M:DH}{H:Hp}{σ:St}{a:DE}(h:SR K M H σ a)(i:Nat):SR K M H (σ.set i none) (a.set i none):=by
 refine⟨by simp[h.1],λj e q=>?_⟩
 by_cases b:j=i
 ·subst b
  by_cases f:j<a.length
  ·rw[K3 f]at q;cases q
  ·rw[R7 (by simpa using f)]at q;cases q
 ·rw[N4 (N6 b)]at q ⊢;exact h.2 j e q
def tY(j:Nat)(E:cx):cx where
 nx:=λb M=>∃a,LeM a M/\E.nx (b.set j none) a
 bk:=λb M=>∃a,LeM a M/\E.bk (b.set j none) a
 ct:=λb M=>∃a,LeM a M/\E.ct (b.set j none) a
 rt:=λd M=>∃a,LeM a M/\E.rt d a
abbrev Cx.caught(X:Cx)(a:A1):Cx:={ X with A:=X.A.mark (some (.ref a)),calm:=false,xe:=λ_ _=>False }
structure nS(K:s0) (C:A1):Prop where
 ga:F2 K (.ref C) "__getattribute__"=some (some (.builtin "BaseException.__getattribute__"))
 gk:F2 K (.ref C) "__getattr__"=some none
 mb:W5 K C (.type "BaseException")=some true
 cl:(PySem.W.clsIn K C).isSome=true
 ha:F2 K (.ref C) "__class__"=some (some (.builtin "object.__class__"))
 hn:V1 K (.builtin "object.__class__") "__get__"=some (some (.builtin "getset_descriptor.__get__"))
 tk:PySem.W.takesIn K (.builtin "object.__class__")=some true
 mo:W5 K C (.type "object")=some true
end L2
namespace L2
open PySem PySem.Spec PySem.Calls PyProof.Rows
end L2
namespace L2
open PySem PySem.Spec PyProof.Rows
end L2
namespace L2
open PySem PySem.Spec PyProof.Rows PySem.Calls PySem.SeqAt
end L2
namespace L2
open PySem PySem.Spec PyProof.Rows PySem.Calls PySem.SeqAt PySem.W
end L2
namespace L2
open PySem PySem.Spec PyProof.Rows PySem.Calls
end L2
namespace L2
open PySem PySem.Spec PyProof.Rows
end L2
namespace L2
open PySem PySem.Spec PyProof.Rows PySem.Calls PySem.SeqAt
end L2
namespace L2
open PySem PySem.Spec PyProof.Rows
end L2
namespace L2
open PySem PySem.Spec PySem.Calls PyProof.Rows PySem.W PySem.Builtin PySem.Builtin.ObjectAttr
section
variable{prog:C1}{w:F8}{A:D4}{E:o0->z4->Prop}{s:z4}{K:Frag}{x D:A1}{z:Obj}{g:Option Obj}{name:Str}
theorem vb{a:Bool}{v:o0}{Q:o0->z4->Prop}(X:K.In s.heap)(I:InstAt s.heap x z D g)(b:findIn K (.ref D) "__getattribute__"=some (some (.builtin "BaseException.__getattribute__")))(f:findIn K (.ref D) "__getattr__"=some none)(m:mroIn K D (.type "BaseException")=some true)
  (J:ju D x s.heap) (q:findObj K D g name=some (.value v)) (j:handedIn v=true) (h:Q v { s with toks:=s.toks+1 }) :
  B3 (D3 prog w) A (getAttr (.ref x) name a) Q E s:=by
 obtain⟨p,u,d,t,os⟩:=s;have i:=I.type (M:=D3 prog w);have n:=looks_findIn (M:=D3 prog w) X b;have o:=looks_findIn (M:=D3 prog w) X f;have l:=looks_find (M:=D3 prog w) X I q;unfold getAttr getAttrBy;refine u8 (wpAny_mkText (K0 (u8 (i.at (u8 (n.at ?_))))));have e:(U5 "BaseException.__getattribute__"==U5 "object.__getattribute__")=false:=by decide +kernel
 simp only[e,S6,A6,if_false];unfold getAttrByItsOwn hookBefore;refine u8 (o.at (u8 (wpAny_attempt (K0 ?_))));unfold callGetattribute boundAndCalled;simp only[onTheHeap,S6,A6,if_false];rw[show bindSpecial (.builtin "BaseException.__getattribute__") (.ref x)=W1 (.builtin "BaseException.__getattribute__",[.ref x])from S4.ga.bind _];refine u8 (z7 (T6 ?_));refine P5 S4.ga.plain F.entry_bexc_ga (ki X J m ?_);refine u8 (z7 (u8 (z7 (u8 (i.at (u8 (l.at ?_)))))));refine z7 ?_;show B3 _ _ (handedOut v) _ _ _;rw[handedOut_of j];exact z7 h
end
end L2
namespace L2
open PySem PySem.Spec PyProof.Rows
theorem jQ{prog:C1}{w:F8}{A:D4}{E:o0->z4->Prop}{s:z4}{K:W.Frag}{x C:A1}{p:Obj}{name:Str}{v:o0}{J:Array o0}{cd:ClassData}{Q:Unit->z4->Prop}
  (X:K.In s.heap) (he:s.heap.get? x=some p) (m:p.cls=.ref C) (f:p.dict=none) (j:p.data=.fields J)
  (Z:W.findIn K (.ref C) "__setattr__"=some (some (.builtin "object.__setattr__"))) (U:W.clsIn K C=some cd) (M:W.mroIn K C (.type "object")=some true)
  (q:∀self,refuseLoop self "__setattr__" cd.mro=W1 ()) (ha:W.findIn K (.ref C) name=some none) (hh:cd.hasDict=true)
  (h:∀(h':C9) (d:A1),(∀b o,b≠x->s.heap.get? b=some o->h'.get? b=some o)->s.heap.objs.size<=d->h'.get? x=some { p with dict:=some d }->(∃o,h'.get? d=some o/\W.lookIn name o=some (some v))->Q () { s with heap:=h',toks:=s.toks+2 }) :
  B3 (D3 prog w) A (setAttr (.ref x) name v) Q E s:=by
 have I:W.InstAt s.heap x p C none:=⟨he,m,by unfold W.notCls;rw[j],by rw[f];trivial⟩;refine W.set_plain X I Z ?_;have B:=F.store_object;have sub:X6 (D3 prog w) s.heap (isInstance (.ref x) (.type "object")) true:=X6.andThen (W.InstAt.type I) (W.looks_mroIn X M);refine P5 B.slot.plain B.entry ?_;have Y:=B.kind;have S:=B.split;have O:=B.args (A9 x) (aa0 name s.toks) v;refine W.check_slot (i:="object.__setattr__") (owner:="object") (self:=.ref x) (rest:=[aa0 name s.toks,v]) (kw:=[]) Y S sub O ?_;rw[W.osa_eq,refuse_eq];have hm:X6 (D3 prog w) s.heap (mroOf (.ref C)) cd.mro:=X6.andThen (W.looks_clsIn X U) X6.now;refine u8 (u8 (V7 (W.InstAt.type I) (u8 (V7 hm ?_))));rw[q];refine z7 (u8 (V7 (W.InstAt.type I) (u8 (V7 (W.looks_findIn X ha) (u8 (V7 (r:=none) X6.now ?_))))));obtain⟨oc,od,P,u⟩:=p;obtain rfl:oc=.ref C:=m;obtain rfl:od=none:=f;obtain rfl:P=.fields J:=j;obtain⟨a,g,d,t,os⟩:=s;refine u8 (z7 (u8 (u8 (V4 he (u8 (V7 (W.looks_clsIn X U) ?_))))));rw[hh];refine F6 (X4 (decide ((!true)=true))) ?_;refine F6 (X4 (decide ((!true || !typeHasDict (A9 C))=true))) ?_;refine u8 (wpAny_alloc (u8 (wpAny_update (z6 _ he) ?_)));dsimp only;have l:a.get? a.objs.size=none:=L9 (B8 _);have G:a.objs.size≠x:=λz=>by rw[z]at l;dsimp only at he;rw[he]at l;cases l
 refine z7 ?_;have R:(a.push { cls:=D5 "dict",data:=Z0 #[] }).get? x=some { cls:=.ref C,data:=.fields J,slots:=u }:=z6 _ he;have N:((a.push { cls:=D5 "dict",data:=Z0 #[] }).update x λo=>{ cls:=o.cls,dict:=some a.objs.size,data:=o.data,slots:=o.slots }).get? x=some { cls:=.ref C,dict:=some a.objs.size,data:=.fields J,slots:=u } :=
  J5 _ R rfl
 have n:((a.push { cls:=D5 "dict",data:=Z0 #[] }).update x λo=>{ cls:=o.cls,dict:=some a.objs.size,data:=o.data,slots:=o.slots }).get? a.objs.size=some { cls:=D5 "dict",data:=Z0 #[] }:=by
  rw[B9 _ _ (N6 G)];exact C8 _ rfl
 have L:∀b o,b≠x->a.get? b=some o->((a.push { cls:=D5 "dict",data:=Z0 #[] }).update x λo=>{ cls:=o.cls,dict:=some a.objs.size,data:=o.data,slots:=o.slots }).get? b=some o:=λb o T e=>by
  rw[B9 _ _ (N6 T)];exact z6 _ e
 generalize ((a.push { cls:=D5 "dict",data:=Z0 #[] }).update x λo=>{ cls:=o.cls,dict:=some a.objs.size,data:=o.data,slots:=o.slots })=h1 at *
 refine u8 (z7 (u8 ?_));show B3 _ _ (F0 _ _) _ _ _;refine u8 (u8 (wpAny_askSetting (z7 ?_)));refine u8 (wpAny_mkText (u8 (V4 n ?_)));dsimp only;refine F6 (show decide (aRefKeyMayBeTheName name #[]=true)=false from rfl) (wpAny_updatePart n ?_);dsimp only;have H:=J5 (Obj.putName name (if name.cps.isEmpty=true then 0 else reduceHash ((D3 prog w).w.params.strHash name.cps)) (aa0 name (t+1)) v) n rfl;refine u8 (u8 (V4 H ?_));refine z7 (z7 ?_);refine h _ a.objs.size (λb o T e=>?_) (B8 _) ?_ ⟨_,H,?_⟩
 ·rw[B9 _ _ (λz=>by subst z;dsimp only at e;rw[l]at e;cases e)];exact L b o T e
 ·rw[B9 _ _ G];exact N
 ·exact(congrArg (W.lookIn name) (W.putName_dict name _ _ v [] 0)).trans (by rw[W.lookIn_dict];simp[W.putL,W.getL,o0.isStr])
def gq(f:Str)(dd:A1)(v:V)(h:C9):Prop:=∃o u,h.get? dd=some o/\PySem.W.lookIn f o=some (some u)/\aF v u
theorem rA{P:C1}{w:F8}{H:Hp}{h:C9}{f:Str}{dd:A1}{v:V}(x:gq f dd v h):bK P w H h dd (.ext (gq f dd v)):=by
 obtain⟨o,u,g,l,r⟩:=x;exact⟨⟨o,u,g,l,r⟩,⟨_,g⟩,λa b ⟨o,u,q,l,r⟩ k=>⟨o,u,k _ q,l,r⟩⟩
def jB(x:Option A1)(C e:A1)(h:C9):Prop:=∃b a,h.get? e=some { cls:=.ref C,dict:=x,data:=.fields #[b,.none,.none,.none,.bool false,.none],slots:=a }
theorem rK{P:C1}{w:F8}{H:Hp}{h:C9}{y:Option A1}{C e:A1}(x:jB y C e h):bK P w H h e (.ext (jB y C e)):=by
 obtain⟨f,a,g⟩:=x;exact⟨⟨f,a,g⟩,⟨_,g⟩,λi j ⟨b,c,q⟩ k=>⟨b,c,k _ q⟩⟩
section
variable{X:Cx}{B E t:Str}{C W G:A1}
def tSF(t:Str)(C:A1)(i j:Nat):TS:=λD b H=>∃e v,b[i]?=some (some (.ref e))/\b[j]?=some (some v)/\H e=some (.ext (jk C e))/\∀a,H a=none->D.nx b (upd (upd H e (.ext (jB (some a) C e))) a (.ext (gq t a v)))
theorem xE(Y:iE X.K X.mg B E t C W G)(i j:Nat){x y:Str}{R U pa pos:Pos}(hx:PE X (.Name x R) (lY i))(hy:PE X (.Name y U) (lY j))
  (hs:W7 (.Name y U) (some (.Attribute (.Name x R) t pa)) pos.line X.env=W1 false:=by rfl):PS X (.Assign [.Attribute (.Name x R) t pa] (.Name y U) pos) (tSF t C i j):=by
 intro aa s Q H D I h;obtain⟨e,v,ei,ej,M,q⟩:=h;refine plainObj_wpAny_Assign_Attribute (thn (hy aa s Q H (λJ Z=>J=v/\Z=H) I ⟨v,ej,rfl,rfl⟩) λu s1 a1=>?_) hs;obtain⟨v0,_,I1,rv,ev,rfl⟩:=a1;subst ev;refine thn (hx aa s1 Q _ (λJ Z=>J=.ref e/\Z=_) I1 ⟨_,ei,rfl,rfl⟩) λu2 S O=>?_;obtain⟨_,H2,l,P,rfl,rfl⟩:=O;obtain rfl:u2=.ref e:=P;obtain⟨⟨a0,a2,g⟩,_⟩:=l.hok e _ M;obtain⟨nm,q',N,bs,sn,sub,ab,L,dd,k0,k1,k2,k3,k5,lC⟩:=Y.lC;refine jQ l.kIn g rfl rfl rfl Y.sC (cd:={ name:=nm,bases:=bs,mro:=[.ref C,.ref W,.type "ValueError",.type "Exception",.type "BaseException",.type "object"],ns:=N,qualname:=q',hasDict:=true,slotNames:=sn,subclasses:=sub,abstract:=ab,collection:=L }) ?_ Y.mC (λw=>n6 w C W) Y.tC rfl λh' n kp T ge gd=>?_
 ·unfold PySem.W.clsIn;rw[lC]
 ·have I3:=l.write (t':=S.toks+2) (x:=e) (e:=e) (o:=.ext (jB (some n) C e)) (by rw[M];trivial) (.inl rfl) (λb u hb hu=>kp b u hb hu) ⟨_,ge⟩ (rK ⟨_,_,ge⟩);have A:H2 n=none:=l.hok.fresh T;have ne:n≠e:=λz=>by rw[z,M]at A;cases A
  obtain⟨o,go,lo⟩:=gd;have n0:S.heap.get? n=none:=L9 T;have f:∀{b o},S.heap.get? b=some o->b≠n:=λe z=>by rw[z,n0]at e;cases e
  refine⟨Q,_,I3.track (a:=n) (φ:=gq t n v0) (by rw[az ne];exact A) (rA ⟨o,_,go,lo,rv⟩) (L9 (E7 l.sz T)) ?_ (λx c e=>?_) (λp hp=>?_),q n A⟩
  ·obtain⟨m,⟨o,es,ep,g,_⟩,_⟩:=l.loc;exact(f g).symm
  ·obtain⟨v,o,g,_⟩:=l.cell x c e;exact f g
  ·exact f (l.pin p hp).1
end
def spF(fld:Str)(C:A1):Sp:=λb H Q _=>∃e v,b=[.ref e,v]/\H e=some (.ext (jk C e))/\∀a,H a=none->Q .non (upd (upd H e (.ext (jB (some a) C e))) a (.ext (gq fld a v)))
section
variable{X:Cx}{E J g:Str}{C W G:A1}{B:List (A1×Obj)}{σ:St}{H:Hp}{s:z4}
def rfQ(g:Str)(XW:A1->Hp->Prop):List V->Hp->Prop
 |[x],b=>∀a,b a=none->XW a (upd b a (.ext (gq g a x)))
 |_,_=>False
def tRF(g:Str)(XW:A1->Hp->Prop)(te:TE):TS:=λ_ σ H=>te σ H λx a=>rfQ g XW [x] a
theorem wW{XW:A1->Hp->Prop}{k:Nat}{fd:B7}{ps:List Str}{e:C5}{te:TE}{p pos pc:Pos}(Y:iE X.K X.mg E J g C W G)(F:aS X.prog X.w X.K X.mg X.base CX0 k G fd ps (spF g C))(hb:cg X.K fd ps [])(hf:∃Z,X.K.lookup G=some Z/\Z.cls=D5 "function")
  (hr:bA (k+1) X.A) (hg:Gl X E) (hc:X.calm=true) (he:PE X e te)
  (hx:∀B σ H s a dd,Inv X B σ H s->XW dd H->H a=none->jB (some dd) C a s.heap->X.s₀.heap.get? a=none->X.xe (.ref a) s)
  (hdb:(E==("__debug__":Str))=false:=by decide) (L:z9 [e] X.env=(false,M6 e X.env)::z9 [] X.env:=by rfl) :
  PS X (.Raise (some (.Call (.Name E p) [e] [] pc)) none pos) (tRF g XW te):=by
 intro B s σ H D I h;obtain⟨nm,q',N,bs,sn,sub,ab,o,dd,k0,k1,k2,k3,k5,lC⟩:=Y.lC;obtain⟨Z,lI,cI⟩:=hf;refine lL (C:=C) (bm:=[.ref W,.type "ValueError",.type "Exception",.type "BaseException",.type "object"]) (hdct:=true) (nm:=nm) (q:=q') (N:=N) (bs:=bs) (sn:=sn) (sub:=sub) (ab:=ab) (col:=o) (dd:=dd) (k0:=k0) (k1:=k1) (k2:=k2) (k3:=k3) (k5:=k5) (newId:="ValueError.__new__") rfl (I.ok.hd hc) (R5 (ft I hg Y.gC ?_ hdb));have ha:PA X [e] (jc te ur):=bp he cK L;refine PySem.W.callWith_K (h₀:=X.base) I.ok.mod.kin Y.kC (thn (ha pc B s σ H (rfQ g XW) I h) λj s1 hs=>⟨?_,?_⟩) L rfl
 ·obtain⟨vs,l,i,P,_⟩:=hs;exact i.kIn
 obtain⟨vs,l,i,P,q⟩:=hs;obtain⟨v,rfl⟩:∃v,vs=[v]:=by
  match vs,q with
  |[v],_=>exact⟨v,rfl⟩
 obtain⟨hp,gs,d,t,os⟩:=s1;have a1:j.length=1:=by rw[<-P.length];rfl
 refine lA PySem.F.excBase_ValueError (Y.tail i.kIn) (i.kIn _ _ lC) i.kIn Y.iC (i.kIn _ _ lI) cI (λh' a m A=>?_) ?_
 ·obtain⟨kp,new,t',ge,_,_⟩:=A;have S:Inv X B σ (upd l a (.ext (jk C a))) { heap:=h',gens:=gs,drawn:=d,toks:=t,os:=os }:=i.laid (t':=t) kp m (mm ⟨_,_,ge⟩);have T:l a=none:=i.hok.fresh m;have r2:au [V.ref a,v] (A9 a::j):=.cons rfl P;have x:spF g C [V.ref a,v] (upd l a (.ext (jk C a))) (λu H2=>u=.non/\∃dd,l dd=none/\dd≠a/\H2=upd (upd l dd (.ext (gq g dd v))) a (.ext (jB (some dd) C a))) E0:=⟨a,v,rfl,aM,λdd M=>by
   have ne:dd≠a:=λz=>by rw[z,aM]at M;cases M
   rw[az ne]at M;refine⟨rfl,dd,M,ne,?_⟩;rw[rm];funext b;unfold upd
   by_cases z1:b=dd
   ·subst z1;simp[ne]
   ·simp[z1]⟩
  have R:(A9 a::j++[]).length=ps.length:=by
   rw[R6,<-r2.length];exact F.len _ _ _ _ x
  refine T6 (Y6 (F.run _ X.stack _ _ ⟨A9 a::j,[]⟩ (A9 a::j) _ _ E0 (hr.make C j []) (S.env0.make C j []) (by simpa using hb _ (A9 a::j) S.kIn R) r2 x) λr s' f=>?_);cases r with
  |error e=>exact f.elim
  |ok fl =>
   cases fl with
   |ret u =>
    obtain⟨v3,H3,I3,Q,rfl,O,U,a2,rfl⟩:=S.after f;obtain rfl:u=C4:=Q;obtain⟨a0,n,g3⟩:=(I3.hok a _ aM).1;refine⟨rfl,a,_,a0,n,rfl,I3.kIn _ _ lC,g3,?_⟩;have w:upd l O (.ext (gq g O v)) a=none:=by rw[az (N6 a2)];exact T
    refine hx B σ _ s' a O (I3.forget w) (q O U) w ⟨a0,n,g3⟩ ?_;exact L9 (E7 i.sz m)
   |next=>exact I0 f
   |brk=>exact I0 f
   |cont=>exact I0 f
 ·rw[E1,a1];exact X8 (i3 (by decide))
end
def ExG(x:Option A1)(C:A1)(o:Obj):Prop:=ExF C o/\o.dict=x
theorem ij{x:Option A1}{C:A1}:ib (ExG x C):=λo v ⟨b,e⟩=>⟨lJ o v b,by
 obtain⟨c,d,a,f⟩:=o;cases a<;>exact e⟩
def xG(x:Option A1)(C a T:A1)(i h:C9):Prop:=∃b e g f,h.get? a=some b/\ExG x C b/\b.data=.fields e/\e[1]?=some (.ref T)/\i.get? T=none/\T≠a/\h.get? T=some g/\g.data=.fields f/\f[3]?=some .none
def CX2(P:C1)(w:F8)(Cs:List A1):CXT:=λb H s E e f=>∃(i:Nat) (C:A1) (x:Option A1) (a T:A1) (g:Hp),Cs[i]?=some C/\e=.ref a/\f.os=s.os/\V9 f.gens/\Un (frs b) [] H g s.heap f.heap/\HOk P w g f.heap/\s.heap.get? a=none/\g a=none/\g T=none/\xG x C a T s.heap f.heap/\E (.ref C) x g
section
variable{P:C1}{w:F8}{K:s0}{J:Str->Option o0}{base:C9}{N:List Str}{G:Str}{B:T0}{f:A1}{cd:o0}{A:D4}{t:List Env}{s:z4}{H:Hp}{E:XK}{Cs:List A1}
theorem uw{aa:List (A1×Obj)}{σ:St}{M:Hp}{j:z4}{a C:A1}{x0:Option A1}{i:Nat}(I:Inv (hJ (CX2 P w Cs) P w K J base N G B f cd A t s H E) aa σ M j)(hC:Cs[i]?=some C)(q:E (.ref C) x0 M)(hn:M a=none)(x:jB x0 C a j.heap)(h0:s.heap.get? a=none):
  (hJ (CX2 P w Cs) P w K J base N G B f cd A t s H E).xe (.ref a) j:=by
 obtain⟨a0,a4,g⟩:=x;have Z:=I.stack;have m:∀b∈frs (U2 G B s.heap.objs.size f cd::t),∃o,j.heap.get? b=some o/\∀vs:Array o0,o.data≠T1 vs:=λb l=>(Z.mem l).2;have a3:a∉frs (U2 G B s.heap.objs.size f cd::t):=λl=>by
  obtain⟨o,e,d⟩:=m a l;rw[g]at e;cases e;exact d _ rfl
 refine kS ij (base:=PySem.W.hideAll j.heap (a::frs (U2 G B s.heap.objs.size f cd::t))) I.ok.frames ?_ (L:=s.heap.objs.size) rfl g ?_ ?_ rfl rfl ⟨⟨rfl,_,rfl,rfl⟩,rfl⟩ λh' lf=>?_
 ·exact PySem.W.funFrames_hide Z λa1 he b l=>B4 _ (O9.mpr ⟨a1,he,l⟩)
 ·exact λb o e=>PySem.W.of_hideAll _ e
 ·exact S3 _ F1
 obtain⟨st,ff,⟨oe,vs,T,oT,ts,t1,t2,t3,t4,t5,t6,t7,t8,t9⟩,up⟩:=lf;have keep:∀b o,j.heap.get? b=some o->b≠a->b∉frs (U2 G B s.heap.objs.size f cd::t)->h'.get? b=some o:=λb o e l p=>st b o (Q3 _ e (λz=>(A5.mp z).elim l p));have hT:j.heap.get? T=none:=by
  cases e:j.heap.get? T with
  |none=>rfl
  |some o =>
   by_cases p:T∈frs (U2 G B s.heap.objs.size f cd::t)
   ·obtain⟨o',R,S⟩:=m T p;obtain⟨sl,U⟩:=up T o' R S;rw[t7]at U;cases U;exact absurd t8 (S ts)
   ·rw[Q3 _ e (λz=>(A5.mp z).elim t6 p)]at t5;cases t5
 have un:Un (frs t) [] H M s.heap j.heap:=I.base;have O:∀b∈frs (U2 G B s.heap.objs.size f cd::t),M b=none:=I.stkFree;have a2:∀b o,s.heap.get? b=some o->b∈frs (U2 G B s.heap.objs.size f cd::t)->b∈frs t:=λb o e l=>by
  rcases A5.mp l with z|z
  ·subst z;exact absurd (A7 e) (O7 _)
  ·exact z
 refine⟨i,C,x0,a,T,M,hC,rfl,I.os,I.bare,⟨λb o e n X Q=>?_,λb o e n X Q=>?_,λb o e n Q=>un.free b o e n Q,λb o e Q=>?_,un.tups,un.frzs,un.tbls⟩,λb o e=>?_,h0,hn,?_,⟨oe,vs,oT,ts,t1,t2,t3,t4,?_,t6,t7,t8,t9⟩,q⟩
 ·exact keep b o (un.keep b o e n X Q) (λz=>by rw[z,h0]at e;cases e) λz=>X (a2 b o e z)
 ·obtain⟨sl,h⟩:=un.slot b o e n X Q;obtain⟨o',R,S⟩:=m b (B4 _ X);rw[h]at R;cases R;obtain⟨Y,U⟩:=up b _ h S;exact⟨Y,U⟩
 ·obtain⟨o1,h⟩:=un.there b o e Q
  by_cases p:b∈frs (U2 G B s.heap.objs.size f cd::t)
  ·obtain⟨o',R,S⟩:=m b p;obtain⟨Y,U⟩:=up b _ R S;exact⟨_,U⟩
  ·exact⟨o1,keep b o1 h (λz=>by rw[z,h0]at e;cases e) p⟩
 ·refine(I.hok b o e).stay (λc v u r=>keep c v r ?_ ?_) (λc r=>r) λc xs r=>r
  ·rintro rfl;rcases u with rfl|u
   ·rw[hn]at e;cases e
   ·rw[hn]at u;cases u
  ·intro p;have:=O c p;rcases u with rfl|u
   ·rw[this]at e;cases e
   ·rw[this]at u;cases u
 ·cases e:M T with
  |none=>rfl
  |some o =>
   obtain⟨o1,h⟩:=(I.hok T o e).is;rw[hT]at h;cases h
 ·cases e:s.heap.get? T with
  |none=>rfl
  |some o =>
   obtain⟨o1,h⟩:=un.there T o e (by simp);rw[hT]at h;cases h
end
def xA(i:Nat)(x:Option A1):D:=.box (.dk [.inl (i:Int)]) (match x with|none=>[]|some d=>[.ref d,.ref d])
def isX:D->Option (Nat×Option A1)
 |.box (.dk [.inl i]) []=>some (i.toNat,none)
 |.box (.dk [.inl i]) [.ref d,.ref _]=>some (i.toNat,some d)
 |_=>none
theorem lO{i:Nat}{x:Option A1}:isX (xA i x)=some (i,x):=by cases x<;>simp[xA,isX]
theorem pw{d:D}{i:Nat}{x:Option A1}(h:isX d=some (i,x)):(∃j:Int,d=.box (.dk [.inl j]) [])∨∃(j:Int) (a b:A1),d=.box (.dk [.inl j]) [.ref a,.ref b]:=by
 unfold isX at h
 split at h
 ·exact .inl ⟨_,rfl⟩
 ·exact .inr ⟨_,_,_,rfl⟩
 ·cases h
theorem sI{K:s0}{M:DH}{H:Hp}{v:V}{d:D}(h:Rep K M H d v):isX d=none:=by
 cases e:isX d with
 |none=>rfl
 |some p =>
  rcases pw (i:=p.1) (x:=p.2) e with⟨j,rfl⟩|⟨j,a,b,rfl⟩
  ·obtain⟨a,g,_,⟨f,_⟩,r⟩:=h;simp only[ai]at r;subst r;cases f
  ·obtain⟨a,g,_,⟨f,_⟩,r⟩:=h;have:=r.length;simp at this f
   lia
def xU(f:Str)(dd:A1):List V->C9->Prop
 |[v]=>gq f dd v
 |_=>λ_=>False
def ik(f:Str)(dd:A1)(d:D):HD:=.ext (xU f dd) [d]
def vU(K:s0)(Cs:List A1)(XW:A1->Option A1->Hp->Prop)(t:TSd):TS:=λD b H=>∃(a:DE) (M:DH) (E:cx),SR K M H b a/\HR K M H/\t E a M/\UpE K E D M H/\∀(i:Nat) (x:Option A1) (C:A1) M' H',E.rt (xA i x) M'->Cs[i]?=some C->Ext M H M' H'->HR K M' H'->XW C x H'
def PSy(X:Cx)(Cs:List A1)(XW:A1->Option A1->Hp->Prop)(st:P9)(t:TSd):Prop:=PS X st (vU X.K Cs XW t)
def lM(X:Cx)(Cs:List A1)(XW:A1->Option A1->Hp->Prop)(st:List P9)(t:TSd):Prop:=PSs X st (vU X.K Cs XW t)
section
variable{X:Cx}{XW:A1->Option A1->Hp->Prop}{Cs:List A1}{a b c e:C5}{te:TEd}{pos:Pos}{st:P9}{rest:List P9}{t u:TSd}{z G g:Str}{C W B:A1}
theorem vQ(h:QSd X st t):PSy X Cs XW st t:=by
 rw[QSd.eq]at h;exact PS.conv h λD f H ⟨e,M,E,a,b,q,k,_⟩=>⟨e,M,E,a,b,q,k⟩
theorem vD:lM X Cs XW [] pD:=m7.conv λD a H ⟨f,M,E,b,e,q,u,_⟩=>u.nx f M a H q (Ext.refl _ _) e b
theorem mv(j:PSy X Cs XW st t)(G:lM X Cs XW rest u):lM X Cs XW (st::rest) (sF t u) :=
 (gT j G).conv λD N H ⟨s,M,E,z,m,q,k,x⟩=>⟨s,M,{ E with nx:=u E },z,m,q,⟨λe o n J A h f b=>⟨e,o,E,b,f,A,k.ext h,λi B I g a C l p w=>x i B I g a C l (h.trans p) w⟩,k.bk,k.ct,k.rt⟩,x⟩
theorem oB(a:PSy X Cs XW st t):lM X Cs XW [st] t:=jv a
theorem xM{z B:List P9}{tc:TTd}(A:QTd X c tc)(ha:lM X Cs XW z t)(C:lM X Cs XW B u):PSy X Cs XW (.If c z B pos) (vg tc t u):=by
 rw[QTd.eq]at A;exact(tw A ha C).conv λD J H ⟨j,M,E,o,G,q,k,x⟩=>⟨j,M,_,o,G,q,λb M1 I h f g=>by
  cases b with
  |true=>simp only[if_true]at h ⊢;exact⟨j,M1,E,o.ext f,g,h,k.ext f,λi p w e a s l n m=>x i p w e a s l (f.trans n) m⟩
  |false=>simp only[A6,if_false]at h ⊢;exact⟨j,M1,E,o.ext f,g,h,k.ext f,λi p w e a s l n m=>x i p w e a s l (f.trans n) m⟩⟩
def ml(g:Str)(i:Nat)(te:TEd):TSd:=λE b M=>te b M λd M1=>∀a,M1 a=none->∃M2,LeM M2 (ay M1 a (ik g a d))/\E.rt (xA i (some a)) M2
theorem xQ(i:Nat){k:Nat}{u:B7}{ps:List Str}{p R:Pos}(J:Cs[i]?=some C)(Y:iE X.K X.mg z G g C W B)(F:aS X.prog X.w X.K X.mg X.base CX0 k B u ps (spF g C))(O:cg X.K u ps [])(U:∃w,X.K.lookup B=some w/\w.cls=D5 "function")
  (hr:bA (k+1) X.A) (hg:Gl X z) (I:X.calm=true) (he:QEd X e te)
  (T:∀n σ H s a x,Inv X n σ H s->XW C x H->H a=none->jB x C a s.heap->X.s₀.heap.get? a=none->X.xe (.ref a) s)
  (hdb:(z==("__debug__":Str))=false:=by decide) (m:z9 [e] X.env=(false,M6 e X.env)::z9 [] X.env:=by rfl) :
  PSy X Cs XW (.Raise (some (.Call (.Name z p) [e] [] R)) none pos) (ml g i te):=by
 rw[QEd.eq]at he;refine(wW (XW:=λb H=>XW C (some b) H) Y F O U hr hg I he (λn σ H s a b=>T n σ H s a (some b)) hdb m).conv λD σ H ⟨Q,M,E,S,hr,q,k,x⟩=>⟨Q,M,_,S,hr,q,λd M1 v j A P h L b t=>?_⟩;obtain⟨M2,f,N⟩:=A b (h.fresh t);have o:Ext M1 j (ay M1 b (ik g b d)) (upd j b (.ext (gq g b v))):=Ext.own t;have l:HR X.K (ay M1 b (ik g b d)) (upd j b (.ext (gq g b v))):=h.put o ⟨[v],aM,by simp only[ai];exact⟨_,_,rfl,L.ext o,rfl⟩⟩;exact x i (some b) C M2 _ N J ((P.trans o).trans (Ext.le f)) (l.le f)
end
def spY(K:s0)(n:Nat)(S:SpD)(Cs:List A1):Sp:=λf H Q E=>∃(e:List D) (M:DH) (R:D->DH->Prop),e.length=n/\ai K M H e f/\HR K M H/\S e M R/\(∀d a v b,R d a->Ext M H a b->HR K a b->Rep K a b d v->Q v b) /\
 ∀(i:Nat) (x:Option A1) (C:A1) a b,R (xA i x) a->Cs[i]?=some C->Ext M H a b->HR K a b->E (.ref C) x b
section
variable{P:C1}{w:F8}{K:s0}{z:Str->Option o0}{base:C9}{f:A1}{g:B7}
theorem Fun.okY{x b:Str}{st:P9}{f:A1}{g:B7}{N ps:List Str}{k n:Nat}{S:SpD}{Cs:List A1}(F:Fun K x b st f g)(hn:ps.length=n)(X:ax N ps (ag st))
  (j:∀ (e:o0) (A:D4) (a:List Env) (s:z4) (H:Hp) (E:XK),bA k (A.deeper (U2 b (ag st) s.heap.objs.size f e)) →
   ∃t:TSd,lM (hJ (CX2 P w Cs) P w K z base N b (ag st) f e A a s H E) Cs (λC x o=>E (.ref C) x o) (bI st) t/\∀ds M R,ds.length=n->S ds M R->t { nx:=λ_ m=>R .non m,rt:=R } (cY N ds) M):aS P w K z base (CX2 P w Cs) (k+1) f g ps (spY K n S Cs):=by
 obtain⟨oc,od,kV,Z,pm,an,e,ct,U,rfl,J,B⟩:=F.ex;refine tD J B X (λvs H Q E h=>?_) λA a s H vs Q E hr h=>?_
 ·obtain⟨ds,M,R,G,r,_⟩:=h;rw[hn,<-r.length];exact G
 obtain⟨t,Y,hq⟩:=j e A a s H E hr;obtain⟨ds,M,R,G,r,p,q,I,T⟩:=h;exact⟨_,Y,cY N ds,M,_,ku r,p,hq ds M R G q,⟨λO m a0 o l u i _=>I .non m .non o l u i (by simp[Rep]),λ_ _ _ _ l=>I0 l,λ_ _ _ _ l=>I0 l,λd m v o l u i L=>I d m v o l u i L⟩,T⟩
end
structure FnY(P:C1) (w:F8) (K:s0) (mg:Str->Option o0) (base:C9) (x:Str) (k n:Nat) (S:SpD) (Cs:List A1):Prop where
 ex:∃(f:A1) (fd:B7) (ps:List Str),aS P w K mg base (CX2 P w Cs) k f fd ps (spY K n S Cs)/\mg x=some (.ref f)/\M8 K (.ref f)=true/\cg K fd ps []
theorem fgY{P:C1}{w:F8}{K:s0}{e:Str->Option o0}{base h:C9}{x:Str}{st:P9}{f:A1}{Cs:List A1}{a:B7}{S:SpD}{k:Nat}{ps:List Str}{n:Nat}(X:K.In h)(G:h.Ns B1 e)(i:bP K x st f a)(o:aS P w K e base (CX2 P w Cs) k f a ps (spY K n S Cs))(b:cg K a ps []):FnY P w K e base x k n S Cs:=⟨_,_,_,o,D7 X G i.a,i.F.kp,b⟩
section
variable{M:ac2}{A:D4}{E:o0->z4->Prop}
variable{nm q J q2:Str}{C N W N2:A1}{bs bm O B:List o0}{hdct G:Bool}{sn R:List Str}{sub H:List o0}{ab Y:Bool}{col I:Option Bool}{dd dd2:Option A1}{k0 k1 k2 k3 k5 l0 l1 l2 l3 l5:Option o0}{newId z:String}
theorem rD{h:C9}{g:Array ab5}{d:Drawn}{t:Nat}{os:OsState}{e:A1}{j:Obj}{Q:Bool->z4->Prop}
  (l:h.get? C=some (K8 nm q C N bs bm hdct sn sub ab col dd k0 k1 k2 k3 k5 newId)) (m:h.get? W=some (K8 J q2 W N2 O B G R H Y I dd2 l0 l1 l2 l3 l5 z)) (he:h.get? e=some j) (a:j.cls=.ref C)
  (n:B.contains (.type "BaseException")=true) (b:(A9 C::bm).contains (.ref W)=true)
  (o:Q true ⟨h,g,d,t,os⟩):B3 M A (excMatches (.ref e) (.ref W)) Q E ⟨h,g,d,t,os⟩:=by
 have i:(A9 W::B).contains (.type "BaseException")=true:=by rw[List.contains_cons,n,Bool.or_true]
 have f:=tc_notTuple;unfold excMatches
 repeat (first|(with_reducible refine K1 he ?_;rw[a])|with_reducible refine K1 m ?_|with_reducible refine K1 l ?_|(with_reducible refine T3 m ?_;rw[i])|(with_reducible refine T3 l ?_;rw[b])|wp_step)
 exact o
end
def ExX(x:Option A1)(C a:A1)(h:C9):Prop:=∃o,h.get? a=some o/\ExG x C o
def ExY(Cs:List A1)(i:Nat)(x:Option A1)(a:A1)(h:C9):Prop:=∃C,Cs[i]?=some C/\ExX x C a h
theorem ui{P:C1}{w:F8}{H:Hp}{h:C9}{Cs:List A1}{i:Nat}{x:Option A1}{a:A1}(z:ExY Cs i x a h):bK P w H h a (.ext (ExY Cs i x a)):=by
 obtain⟨C,b,o,g,r⟩:=z;exact⟨⟨C,b,o,g,r⟩,⟨_,g⟩,λe f ⟨C,b,o,q,r⟩ k=>⟨C,b,o,k _ q,r⟩⟩
def exY(Cs:List A1)(i:Nat)(x:Option A1)(a:A1):HD:=.ext (λ_=>ExY Cs i x a) []
section
variable{X:Cx}{G:List (A1×Obj)}{σ:St}{H t:Hp}{B s':z4}{C a T:A1}{y:Option A1}{Cs:List A1}{E:Nat}
theorem rT{xW n:Str}{W:A1}{p pos:Pos}{b0:P9}{s:List P9}{Q:Flow->z4->Prop}{E':o0->z4->Prop}(I:Inv X G σ H B)(S:X.stack=X.env::X.outer)(b':X.env.frame=some X.env.locals)(hg:Gl X xW)(hm:X.mg xW=some (.ref W))
  (lC:∃nm q N bs bm hd sn sub ab col dd k0 k1 k2 k3 k5 newId,X.K.lookup C=some (K8 nm q C N bs bm hd sn sub ab col dd k0 k1 k2 k3 k5 newId)/\(A9 C::bm).contains (.ref W)=true)
  (lW:∃nm q N bs bm hd sn sub ab col dd k0 k1 k2 k3 k5 newId,X.K.lookup W=some (K8 nm q W N bs bm hd sn sub ab col dd k0 k1 k2 k3 k5 newId)/\bm.contains (.type "BaseException")=true)
  (os:s'.os=B.os) (u:V9 s'.gens) (un:Un (frs X.stack) [] H t B.heap s'.heap) (A:HOk X.prog X.w t s'.heap) (ha:B.heap.get? a=none) (M:t a=none) (O:t T=none) (a5:Cs[E]?=some C) (fl:xG y C a T B.heap s'.heap) (hex:X.ex=[])
  (k:∀ h,Inv X G σ (upd t a (.ext (ExY Cs E y a))) { s' with heap:=h } → B3 (D3 X.prog X.w) (X.A.mark (some (.ref a))) (storeName X.env n (.ref a)) (λ_ s2 => B3 (D3 X.prog X.w) (X.A.mark (some (.ref a))) (execs (b0 :: s) X.env)
   (λf s3=>B3 (D3 X.prog X.w) X.A (do bindName X.env n .none;unbindBehindTheSuite X.env n pos) (λ_ s4=>Q f s4) E' s3) (λ_ _=>False) s2) (λ_ _=>False) { s' with heap:=h }) (hdb:(xW==("__debug__":Str))=false:=by decide) :
  B3 (D3 X.prog X.w) X.A (ab7 (.ref a) X.env) (λ_ s2=>B3 (D3 X.prog X.w) X.A (setFlight (.ref a) none) (λ_ s3=>B3 (D3 X.prog X.w) X.A (handleBy (.ref a) X.env [.ExceptHandler (some (.Name xW p)) (some n) (b0::s) pos]) Q E' s3) E' s2) E' s':=by
 obtain⟨oe,vs,oT,ts,f1,f2,f3,f4,f5,f6,f7,f8,f9⟩:=fl;have I':Inv X G σ t s':=I.call' (ch:=[]) os un A u λb z=>absurd z (by simp);have a0:=I'.stack;have a1:∀b∈frs X.stack,∃o,s'.heap.get? b=some o/\∀vs:Array o0,o.data≠T1 vs:=λb i=>(a0.mem i).2;have hA:X.A.frames=some (X.env::X.outer):=by rw[<-S];exact I.ok.frames
 refine wY ij (base:=PySem.W.hideAll s'.heap (a::T::frs X.stack)) hA (by rw[<-S];exact PySem.W.funFrames_hide a0 λc0 he b i=>B4 _ (B4 _ (O9.mpr ⟨c0,he,i⟩))) b'
  ⟨oe,vs,T,oT,ts,f1,f2,f3,f4,S3 _ (by simp),f6,f7,f8,f9⟩ (λb o e=>PySem.W.of_hideAll _ e) (S3 _ (by simp)) λh1 g=>my g.1 g.2.1 g.2.2.1 λh2 U=>?_
 have up1:=g.2.2.2;obtain⟨b9,c',⟨a9,d5,l,d2,b4,t1,t2,t3,t4,t5,t6,t7,t8,t9⟩,b3⟩:=U;have a2:∀b o,s'.heap.get? b=some o->b∉[a,T]->b∉frs X.stack->h2.get? b=some o:=λb o e hz hf=>b9 b o (Q3 _ e λz=>by
  rcases A5.mp z with z|z
  ·exact hz (by simp[z])
  rcases A5.mp z with z|z
  ·exact hz (by simp[z])
  ·exact hf z)
 have P:∀b o,b∈frs X.stack->s'.heap.get? b=some o->∃sl,h2.get? b=some { o with slots:=sl }:=λb o i e=>by
  obtain⟨o',e',d'⟩:=a1 b i;rw[e]at e';cases e';obtain⟨sl,q1⟩:=up1 b o e d';obtain⟨a4,q2⟩:=b3 b _ q1 d';exact⟨a4,q2⟩
 have c1:∀b∈[a,T],B.heap.get? b=none/\t b=none:=λb i=>by
  rcases A5.mp i with rfl|i
  ·exact⟨ha,M⟩
  ·obtain rfl:=D6.mp i;exact⟨f5,O⟩
 have R:=kE I os u un A a2 P c1;obtain⟨nm,q,N,bs,bm,hd,sn,sub,ab,col,dd,k0,k1,k2,k3,k5,newId,lC,b2⟩:=lC;obtain⟨d4,q',N',d6,e0,d0,d7,c3,c4,c2,d1,c6,c5,d9,d8,d3,a3,lW,Y⟩:=lW;refine wpAny_handleBy_cons (codeAny_handlers_test (Calls.Name_function_global R.ok.kind hg (Calls.loadGlobal_global (by rw[R.ok.glob];exact R.mod.glob.keeps R.bk) hm ?_) hdb)) (by intro z;cases z);refine rD (R.kIn _ _ lC) (R.kIn _ _ lW) t1 t2.1.1 Y b2 ?_;refine codeAny_handlers_suite_as ?_;have b8:3<b4.size:=(K2.mp t9).1;refine wpAny_setFlight_none t1 t3 t4 t7 t8 b8 ?_;have L:l∉frs X.stack:=λi=>by
  obtain⟨o',e',d'⟩:=a1 l i;obtain⟨sl,q2⟩:=P l o' i e';rw[t7]at q2;cases q2;exact d' _ t8
 have a':l=T∨s'.heap.get? l=none:=by
  by_cases z:l=T
  ·exact .inl z
  ·right;cases e:s'.heap.get? l with
   |none=>rfl
   |some o =>
    rw[Q3 _ e λw=>by
     rcases A5.mp w with w|w
     ·exact t6 w
     rcases A5.mp w with w|w
     ·exact z w
     ·exact L w]at t5
    cases t5
 have b5:∀b∈[a,T,l],B.heap.get? b=none/\t b=none:=λb i=>by
  rcases A5.mp i with rfl|i
  ·exact⟨ha,M⟩
  rcases A5.mp i with rfl|i
  ·exact⟨f5,O⟩
  obtain rfl:=D6.mp i;rcases a' with rfl|z
  ·exact⟨f5,O⟩
  ·constructor
   ·cases e:B.heap.get? b with
    |none=>rfl
    |some o =>
     obtain⟨o1,J⟩:=un.there b o e (by simp);rw[z]at J;cases J
   ·cases e:t b with
    |none=>rfl
    |some o =>
     obtain⟨o1,J⟩:=(A b o e).is;rw[z]at J;cases J
 have I3:=kE (h:=h2.update l (Q8 λx=>x.setIfInBounds 3 C4)) I os u un A (Z:=[a,T,l]) (λb o e hz hf=>by
   rw[B9 _ _ (λz=>hz (by simp[z]))];exact a2 b o e (λz=>hz (by
    rcases A5.mp z with z|z
    ·simp[z]
    ·simp[D6.mp z])) hf)
  (λb o i e => by
   rw[B9 _ _ (λz=>L (by rw[z];exact i))];exact P b o i e) b5
 have j:∀{b o},B.heap.get? b=some o->b≠a:=λe z=>by rw[z,ha]at e;cases e
 have b1:ExY Cs E y a (h2.update l (Q8 λx=>x.setIfInBounds 3 C4)):=⟨C,a5,a9,by rw[B9 _ _ t6];exact t1,t2⟩;have I4:=I3.track (a:=a) (φ:=ExY Cs E y a) M (ui b1) (by
   cases e:X.s₀.heap.get? a with
   |none=>rfl
   |some o =>
    obtain⟨o1,J⟩:=I.base.there a o e (by rw[hex];simp);rw[ha]at J;cases J) (by
   obtain⟨m,⟨o,es,ep,g,_⟩,_⟩:=I.loc;exact(j g).symm) (λx c e=>by
   obtain⟨v,o,g,_⟩:=I.cell x c e;exact j g) (λp hp=>j (I.pin p hp).1)
 exact F3 (k _ I4) (λ_ s2 z=>F3 z (λf s3 z=>z) λ_ _ z=>z.elim) λ_ _ z=>z.elim
end
abbrev TXd:=DE->DH->(D->DH->Prop)->(Nat->Option A1->DH->Prop)->Prop
abbrev TYd:=cx->(Nat->Option A1->DH->Prop)->DE->DH->Prop
def oz(X:Cx)(Cs:List A1)(h:List (A1×Obj))(σ:St)(M:DH)(H:Hp)(j:Nat->Option A1->DH->Prop)(e:o0)(s':z4):Prop :=
 ∃b g,Inv X h σ g b/\CX2 X.prog X.w Cs X.stack g b (λc x f=>∃(i:Nat) (C:A1) (a:DH),c=.ref C/\Cs[i]?=some C/\j i x a/\Ext M H a f/\HR X.K a f) e s'
def PXe(X:Cx)(Cs:List A1)(e:C5)(t:TXd):Prop:=∀(g:List (A1×Obj)) (s:z4) (a:St) (H:Hp) (j:VK) (h:DE) (M:DH) (Q:D->DH->Prop) (i:Nat->Option A1->DH->Prop),Inv X g a H s->SR X.K M H a h->HR X.K M H->t h M Q i ->
 (∀d b v f,Q d b->Ext M H b f->HR X.K b f->Rep X.K b f d v->j v f)->B3 (D3 X.prog X.w) X.A (M6 e X.env) (EP X g a j) (oz X Cs g a M H i) s
def PTy(X:Cx)(Cs:List A1)(st:P9)(t:TYd):Prop:=∀(a:List (A1×Obj)) (s:z4) (b:St) (H:Hp) (D:ip) (e:DE) (M:DH) (E:cx) (f:Nat->Option A1->DH->Prop),Inv X a b H s->SR X.K M H b e->HR X.K M H->t E f e M->UpE X.K E D M H ->
 B3 (D3 X.prog X.w) X.A (exec st X.env) (SP X a D) (oz X Cs a b M H f) s
theorem oz.ext{X:Cx}{Cs:List A1}{l:List (A1×Obj)}{σ:St}{M M1:DH}{H f:Hp}{g:Nat->Option A1->DH->Prop}{e:o0}{s':z4}(x:Ext M H M1 f)(h:oz X Cs l σ M1 f g e s'):oz X Cs l σ M H g e s':=by
 obtain⟨z,E,I,i,C,y,a,T,t,o,P,s,N,L,O,G,p,m,b,j,q,u,n,J,A,w,B⟩:=h;exact⟨z,E,I,i,C,y,a,T,t,o,P,s,N,L,O,G,p,m,b,j,q,u,n,J,A,x.trans w,B⟩
def dXC(n:Nat)(S:SpD)(t:TAd):TXd:=λb M Q e=>t b M λa M1=>a.length=n/\S a M1 λd M2=>(isX d=none->Q d M2)/\∀i x,isX d=some (i,x)->e i x M2
section
variable{X:Cx}{Cs:List A1}{e c:C5}{g:List C5}{t:TAd}{S:SpD}{B G nm:Str}{W:A1}{O:A1->TSd}{te:TXd}{st Y sb:P9}{ta R:TYd}{tc:TTd}{pos:Pos}
theorem qM{k n:Nat}{p2 Y:Pos}(FX:FnY X.prog X.w X.K X.mg X.base B k n S Cs)(hr:bA k X.A)(P:Gl X B)(N:∀e s,¬ X.xe e s)(ha:QAd X (e::g) t)
  (a2:(B==("__debug__":Str))=false:=by decide) (he:z9 (e::g) X.env=(false,M6 e X.env)::z9 g X.env:=by rfl) (hpl:(K6 Y (z9 g X.env)).any (·.1)=false:=by rfl) :
  PXe X Cs (.Call (.Name B p2) (e::g) [] Y) (dXC n S t):=by
 rw[QAd.eq]at ha;intro aa s σ H QV Δ M Q XH I sr Z q kk;obtain⟨f,fd,ps,F,a1,a0,T⟩:=FX.ex;refine R5 (ft I P a1 ?_ a2);refine PySem.W.callWith_K (h₀:=X.base) I.ok.mod.kin a0 (F3 (ha Y aa s σ H (λo a=>∃h M1,h.length=n/\S h M1 (λd M2=>(isX d=none->Q d M2)/\∀i x,isX d=some (i,x)->XH i x M2)/\Ext M H M1 a/\HR X.K M1 a/\ai X.K M1 a h o) I
  ⟨Δ,M,_,sr,Z,q,λh M1 o a ⟨hl,O⟩ L l U=>⟨h,M1,hl,O,L,l,U⟩⟩) (λJ s1 hs=>⟨?_,?_⟩) λe s' z=>(N e s' z).elim) he hpl
 ·obtain⟨o,a,m,_⟩:=hs;exact m.kIn
 obtain⟨o,a,m,rv,h,M1,hl,O,L,l,U⟩:=hs;have E:spY X.K n S Cs o a QV (λc x w=>∃(i:Nat) (C:A1) (b:DH),c=.ref C/\Cs[i]?=some C/\XH i x b/\Ext M H b w/\HR X.K b w) :=
  ⟨h,M1,_,hl,U,l,O,λd b v w q' R j p=>kk d b v w (q'.1 (sI p)) (L.trans R) j p,λi x C b w q' hC R j=>⟨i,C,b,rfl,hC,q'.2 i x lO,L.trans R,j⟩⟩
 have A:(J++[]).length=ps.length:=by
  rw[R6,<-rv.length];exact F.len _ _ _ _ E
 refine T6 (Y6 (F.run X.A X.stack s1 a ⟨J,[]⟩ J o _ _ hr m.env0 (by simpa using T s1 J m.kIn A) rv E) λr s' G=>?_);cases r with
 |error e=>exact⟨s1,a,m,G⟩
 |ok fl =>
  cases fl with
  |ret u=>exact m.after G
  |next=>exact I0 G
  |brk=>exact I0 G
  |cont=>exact I0 G
def dYE(te:TXd):TYd:=λE b a M=>te a M (λ_ M2=>E.nx a M2) b
theorem qH(he:PXe X Cs e te)(A:W7 e none pos.line X.env=W1 false:=by rfl):PTy X Cs (.Expr e pos) (dYE te):=by
 intro z s b H D B M E t I h p q j;exact wpAny_Expr_any (thn (he z s b H (λv w=>D.nx b w) B M _ t I h p q λd u v n C g f m=>j.nx _ u _ n C g f (h.ext g)) λv G a=>a.el λx o l J i=>⟨b,o,l,i⟩) I.quiet A
def xb(Cs:List A1)(j:Nat)(R:TYd)(O:A1->TSd):TSd:=λE b M=>R E (λi x M2=>∀a,M2 a=none->O a (tY j E) (b.set j (some (.ref a))) (ay M2 a (exY Cs i x a))) b M
theorem vy{j:Nat}{p5 p9 b8:Pos}{b0:P9}{A:List P9}(b9:∀e s,¬ X.xe e s)(a4:X.stack=X.env::X.outer)(b3:X.env.frame=some X.env.locals)(hex:X.ex=[])
  (hg:Gl X G) (hm:X.mg G=some (.ref W))
  (lC:∀C∈Cs,∃nm q N bs bm hd sn sub ab col dd k0 k1 k2 k3 k5 newId,X.K.lookup C=some (K8 nm q C N bs bm hd sn sub ab col dd k0 k1 k2 k3 k5 newId)/\(A9 C::bm).contains (.ref W)=true)
  (lW:∃nm q N bs bm hd sn sub ab col dd k0 k1 k2 k3 k5 newId,X.K.lookup W=some (K8 nm q W N bs bm hd sn sub ab col dd k0 k1 k2 k3 k5 newId)/\bm.contains (.type "BaseException")=true)
  (hN:X.N.Nodup) (hj:X.N[j]?=some nm) (hy:X.env.scope.names.lookup nm=some .local) (ha:PTy X Cs st R) (hb:∀a,QSs (X.caught a) (b0::A) (O a)) (hdb:(G==("__debug__":Str))=false:=by decide) :
  QSd X (.Try [st] [.ExceptHandler (some (.Name G p5)) (some nm) (b0::A) p9] [] [] b8) (xb Cs j R O):=by
 simp only[QSd.eq,QSs.eq]at *
 intro aa s σ H D I hh;obtain⟨Δ,M,E,sr,a5,q,kk⟩:=hh;refine wpAny_Try_except (wpAny_execs_cons (F3 (ha aa s σ H D Δ M E _ I sr a5 q kk) (λf s1 z=>?_) λev s' z=>?_))
 ·cases f with
  |next=>exact T8 (T8 z)
  |ret v=>exact z
  |brk=>exact z
  |cont=>exact z
 ·obtain⟨s1,H1,I1,i,C,y,a,T,w,a3,rfl,os,a2,un,b4,h0,S,b2,fl,L,C',M2,eC,b5,qx,e2,a0⟩:=z;cases eC;refine rT I1 a4 b3 hg hm (lC C (N5 a3)) lW os a2 un b4 h0 S b2 b5 fl hex (λh I3=>?_) hdb;refine fi I3 hN hj (.inl hy) (v:=.ref a) rfl (λs2 g=>?_) (.inr hy);have J:Inv (X.caught a) aa (σ.set j (some (.ref a))) (upd w a (.ext (ExY Cs L y a))) s2:=⟨⟨g.ok.mod,g.ok.kind,g.ok.glob,g.ok.blt,g.ok.above,g.ok.inj,g.ok.has,g.ok.cab,λz=>(by cases z),g.ok.frames,g.ok.stk,g.ok.exf,g.ok.bs,g.ok.bsz,g.ok.noex,g.ok.exfs,g.ok.funs,g.ok.frf⟩,g.os,g.bare,g.base,g.loc,g.cell,g.free,g.freeC,g.pin,g.hok,g.len⟩;have e3:Ext M2 w (ay M2 a (exY Cs L y a)) (upd w a (.ext (ExY Cs L y a))):=Ext.own S;have b1:HR X.K (ay M2 a (exY Cs L y a)) (upd w a (.ext (ExY Cs L y a))):=a0.put e3 ⟨[],aM,by simp[ai]⟩;have e4:=e2.trans e3;have a':SR X.K (ay M2 a (exY Cs L y a)) (upd w a (.ext (ExY Cs L y a))) (σ.set j (some (.ref a))) (Δ.set j (some (.ref a))):=(sr.ext e4).set j (by simp[Rep])
  let D2:ip:={ nx:=λm w=>D.nx (m.set j none) w,bk:=λm w=>D.bk (m.set j none) w,ct:=λm w=>D.ct (m.set j none) w,rt:=D.rt }
  have a8:UpE X.K (tY j E) D2 (ay M2 a (exY Cs L y a)) (upd w a (.ext (ExY Cs L y a))) :=
   ⟨λa1 M' m n ⟨U,b,P⟩ Q o x=>kk.nx _ U _ n P ((e4.trans Q).trans (Ext.le b)) (o.le b) ((x.ext (Ext.le b)).setN j),λa1 M' m n ⟨U,b,P⟩ Q o x=>kk.bk _ U _ n P ((e4.trans Q).trans (Ext.le b)) (o.le b) ((x.ext (Ext.le b)).setN j),
    λa1 M' m n ⟨U,b,P⟩ Q o x=>kk.ct _ U _ n P ((e4.trans Q).trans (Ext.le b)) (o.le b) ((x.ext (Ext.le b)).setN j),λd M' v n ⟨U,b,P⟩ Q o a9=>kk.rt d U v n P ((e4.trans Q).trans (Ext.le b)) (o.le b) (a9.ext (Ext.le b))⟩
  refine F3 (hb a aa s2 _ _ D2 J ⟨_,_,_,a',b1,qx a (a0.fresh S),a8⟩) (λfl s3 z=>?_) λ_ _ z=>z;have p:∀{t B},Inv (X.caught a) aa t B s3->Inv X aa t B s3:=λl=>⟨I.ok,l.os,l.bare,l.base,l.loc,l.cell,l.free,l.freeC,l.pin,l.hok,l.len⟩;cases fl with
  |next=>obtain⟨t,B,l,Z⟩:=z;exact gu (p l) hN hj hy λs4 Y=>⟨_,B,Y,Z⟩
  |brk=>obtain⟨t,B,l,Z⟩:=z;exact gu (p l) hN hj hy λs4 Y=>⟨_,B,Y,Z⟩
  |cont=>obtain⟨t,B,l,Z⟩:=z;exact gu (p l) hN hj hy λs4 Y=>⟨_,B,Y,Z⟩
  |ret u=>obtain⟨v2,t,B,l,r2,Z⟩:=z;exact gu (p l) hN hj hy λs4 Y=>⟨v2,_,B,Y,r2,Z⟩
end
theorem ExY.c{Cs:List A1}{i:Nat}{y:Option A1}{a:A1}{h:C9}(z:ExY Cs i y a h):∃C,Cs[i]?=some C/\ju C a h:=by
 obtain⟨C,b,o,g,r,_⟩:=z;exact⟨C,b,o,g,r⟩
def qP(Cs:List A1)(bs:List Bool)(b:TEd):TEd:=λe M Q=>b e M λd M1=>∃a i y,d=.ref a/\M1 a=some (exY Cs i y a)/\Q (.bl (bs.getD i false)) M1
section
variable{X:Cx}{a:C5}{B:TEd}{pos p t:Pos}{Cs:List A1}{bs:List Bool}{T:Str}
theorem kU{c:o0}{vc:V}(Z:∀C∈Cs,nS X.K C)(e:∀(i:Nat) C,Cs[i]?=some C->C3 X.K (.ref C) c=some (bs.getD i false))(n:∀u,aF vc u->u=c):cc X (.builtin "isinstance") (λb H Q=>∃x i y,b=[.ref x,vc]/\H x=some (.ext (ExY Cs i y x))/\Q (.bl (bs.getD i false)) H):=by
 intro w s A H b t Q I m h;obtain⟨x,i,y,rfl,p,q⟩:=h;obtain⟨f,B,rfl,g,l⟩:=au.two m;cases(show f=A9 x from g);cases n _ l;obtain⟨C,a,j⟩:=(I.hok x _ p).1.c;have z:=Z C (N5 a);exact PySem.W.kia_one (oX z.ga z.gk z.mb z.cl z.ha z.hn z.tk z.mo) I.kIn j (e i C a) (λz=>nomatch z) λo=>⟨.bl (bs.getD i false),H,I.tok o,rfl,q⟩
theorem w9{f:A1}(Z:∀C∈Cs,nS X.K C)(hg:Gl X "isinstance")(L:X.mg "isinstance"=none)(m:Gl X T)(g:X.mg T=some (.ref f))(e:∀(i:Nat) C,Cs[i]?=some C->C3 X.K (.ref C) (.ref f)=some (bs.getD i false))(ha:QEd X a B)(l:(T==("__debug__":Str))=false:=by decide)
  (n:z9 [a,.Name T t] X.env=(false,M6 a X.env)::z9 [.Name T t] X.env:=by rfl) (j:z9 [.Name T t] X.env=(false,M6 (.Name T t) X.env)::z9 [] X.env:=by rfl) (hpl:(K6 pos (z9 [.Name T t] X.env)).any (·.1)=false:=by rfl) :
  QEd X (.Call (.Name "isinstance" p) [a,.Name T t] [] pos) (qP Cs bs B):=by
 rw[QEd.eq]at *
 refine(eX (kU (vc:=.ref f) Z e λu h=>h) hg L (by kernel_rfl) (bp ha (bp (jF (v:=.ref f) m g rfl l) cK j) n) (by decide) (by decide) n hpl).conv λS H Q s=>?_;obtain⟨G,M,R,J,A,q,k⟩:=s;refine⟨G,M,_,J,A,q,λd M1 v w ⟨x,i,y,O,I,o⟩ E b z=>?_⟩;subst O;obtain rfl:v=.ref x:=by simpa only[Rep]using z
 obtain⟨P,N,_⟩:=b x _ I;exact⟨x,i,y,rfl,N,k _ M1 _ w o E b (by simp[Rep])⟩
theorem de(Z:∀C∈Cs,nS X.K C)(hg:Gl X "isinstance")(m:X.mg "isinstance"=none)(f:Gl X T)(h:∃g,X.mg T=some (.ref g)/\∀(i:Nat) C,Cs[i]?=some C->C3 X.K (.ref C) (.ref g)=some (bs.getD i false))(ha:QEd X a B)(e:(T==("__debug__":Str))=false:=by decide)
  (l:z9 [a,.Name T t] X.env=(false,M6 a X.env)::z9 [.Name T t] X.env:=by rfl) (b:z9 [.Name T t] X.env=(false,M6 (.Name T t) X.env)::z9 [] X.env:=by rfl) (hpl:(K6 pos (z9 [.Name T t] X.env)).any (·.1)=false:=by rfl) :
  QEd X (.Call (.Name "isinstance" p) [a,.Name T t] [] pos) (qP Cs bs B):=by
 obtain⟨g,j,n⟩:=h;exact w9 Z hg m f j n ha e l b hpl
theorem vC{Tn:String}(Z:∀C∈Cs,nS X.K C)(hg:Gl X "isinstance")(N:X.mg "isinstance"=none)(n:Gl X T)(g:X.mg T=none)(f:O8 T=some (.type Tn))(e:∀(i:Nat) C,Cs[i]?=some C->C3 X.K (.ref C) (.type Tn)=some (bs.getD i false))(ha:QEd X a B)(l:T≠"__name__":=by decide)(m:(T==("__debug__":Str))=false:=by decide)
  (o:z9 [a,.Name T t] X.env=(false,M6 a X.env)::z9 [.Name T t] X.env:=by rfl) (j:z9 [.Name T t] X.env=(false,M6 (.Name T t) X.env)::z9 [] X.env:=by rfl) (hpl:(K6 pos (z9 [.Name T t] X.env)).any (·.1)=false:=by rfl) :
  QEd X (.Call (.Name "isinstance" p) [a,.Name T t] [] pos) (qP Cs bs B):=by
 rw[QEd.eq]at *
 refine(eX (kU (vc:=.ty Tn) Z e λu h=>h) hg N (by kernel_rfl) (bp ha (bp (mV (v:=.ty Tn) n g f rfl l m) cK j) o) (by decide) (by decide) o hpl).conv λU H Q w=>?_;obtain⟨I,M,R,L,E,q,k⟩:=w;refine⟨I,M,_,L,E,q,λd M1 v z ⟨x,i,y,P,J,s⟩ G b A=>?_⟩;subst P;obtain rfl:v=.ref x:=by simpa only[Rep]using A
 obtain⟨S,O,_⟩:=b x _ J;exact⟨x,i,y,rfl,O,k _ M1 _ z s G b (by simp[Rep])⟩
structure xk(K:s0) (C:A1) (f:Str):Prop where
 hd:PySem.W.hasDictIn K C=true
 fn:F2 K (.ref C) f=some none
def xa(Cs:List A1)(i:Nat)(f:Str)(B:TEd):TEd:=λe M Q=>B e M λd M1=>∃a b z,d=.ref a/\M1 a=some (exY Cs i (some b) a)/\M1 b=some (ik f b z)/\Q z M1
theorem xo(i:Nat){C:A1}{f:Str}(Y:Cs[i]?=some C)(Z:nS X.K C)(G:xk X.K C f)(he:QEd X a B)(hb:F9 a f X.env (M6 a X.env)=M6 a X.env:=by rfl):QEd X (.Attribute a f pos) (xa Cs i f B):=by
 rw[QEd.eq]at *
 intro aa s σ H Q I hh;obtain⟨Δ,M,R,sr,hr,q,k⟩:=hh;refine sM hb (thn (he aa s σ H (λv e=>∃x h z w M1,v=.ref x/\e x=some (.ext (ExY Cs i (some h) x))/\e h=some (.ext (gq f h w))/\Ext M H M1 e/\HR X.K M1 e/\Rep X.K M1 e z w/\R z M1) I ⟨Δ,M,_,sr,hr,q,λd M1 v e ⟨x,h,z,ed,em,U,p⟩ E b A=>?_⟩) λu s1 ⟨v,e,n,A,x,h,z,w,M1,ev,L,t,E,b,rz,p⟩=>?_)
 ·subst ed;obtain rfl:v=.ref x:=by simpa only[Rep]using A
  obtain⟨P,L,_⟩:=b x _ em;obtain⟨ws,hw,j⟩:=b h _ U;simp only[ai]at j;obtain⟨w,a0,rfl,r1,rfl⟩:=j;exact⟨x,h,z,w,M1,rfl,L,hw,E,b,r1,p⟩
 ·subst ev;obtain rfl:u=A9 x:=A;obtain⟨C',l,o,g,r⟩:=(n.hok x _ L).1;rw[Y]at l;cases l;obtain⟨o2,u2,T,l2,S⟩:=(n.hok h _ t).1;obtain⟨⟨O,P,m,_⟩,N⟩:=r;have J:PySem.W.InstAt s1.heap x o C (some o2):=⟨g,O,by unfold PySem.W.notCls;rw[m],by rw[N];exact T⟩;exact vb n.kIn J Z.ga Z.gk Z.mb ⟨o,g,O,P,m,by assumption⟩ (PySem.W.findObj_own G.hd G.fn rfl l2) (nv S) ⟨w,e,n.tok _,S,k z M1 w e p E b rz⟩
end
theorem ix1{p:Nat->A1->Prop}{a:A1}(b:p 0 a):∀(i:Nat) C,[a][i]?=some C->p i C
 |0,_,e=>by cases e;exact b
 |_+1,_,e=>by simp at e
theorem al1{p:A1->Prop}{a:A1}(b:p a):∀C∈[a],p C:=λC h=>by cases D6.mp h;exact b
end L2
namespace L2
open PySem PySem.Spec PySem.Calls PyProof.Rows PySem.SeqAt
end L2
namespace L2
open PySem PySem.Spec PySem.Calls PyProof.Rows
section
variable{X:Cx}
def yn:D->Option D
 |.int i=>if i.natAbs.log2<1920 then some (.str (toString i))else none
 |_=>none
theorem vp{i:Int}:yn (.int i)=if i.natAbs.log2<1920 then some (.str (toString i))else none:=rfl
end
end L2
namespace L2
open PySem PySem.Spec PyProof.Rows
section
variable{X:Cx}
end
end L2
namespace L2
open PySem PySem.Spec PyProof.Rows PySem.Calls
end L2
namespace L2
open PySem PySem.Spec PyProof.Rows
end L2
namespace L2
open PySem PySem.Spec PyProof.Rows PySem.Calls
end L2
namespace L2
open PySem PySem.Spec PyProof.Rows
section
variable{X:Cx}{XW:A1->Option A1->Hp->Prop}{Cs:List A1}{g:T0}{B:List (Str×A1)}{ms:List Bool}{aq:List Str}{z E t e:C5}{te:TXd}{pos:Pos}
end
section
variable{X:Cx}{XW:A1->Option A1->Hp->Prop}{Cs:List A1}{a e o i:C5}{g:List C5}{te:TXd}{t z B:TEd}{pos:Pos}
end
end L2
namespace L2
open PySem PySem.Spec PyProof.Rows PySem.Calls PySem.SeqAt PySem.W
end L2
namespace L2
open PySem PySem.Spec PyProof.Rows PySem.Calls PySem.Builtin PySem.Builtin.Str
def cp(x y z:Str):Str:=if(occurrences x y 0 x.length 1).isEmpty=true then x else glued z (partsBetween x (occurrences x y 0 x.length 1) y.length)
theorem vo(z a b:Str):(glued z [a,b]).cps.toList=a.cps.toList++z.cps.toList++b.cps.toList:=by
 simp[glued]
theorem lb(x:Str)(i j:Nat):(strSub x i j).cps.toList=(x.cps.toList.drop i).take (j-i):=by
 unfold strSub;simp[Array.toList_extract,List.extract]
theorem fY(x y z:Str):((occurrences x y 0 x.length 1).isEmpty=true/\cp x y z=x)∨((occurrences x y 0 x.length 1).isEmpty=false/\cp x y z=glued z (partsBetween x (occurrences x y 0 x.length 1) y.length) /\
  ∃p,p+y.length<=x.length/\subAt x y p=true/\(cp x y z).cps.toList=x.cps.toList.take p++z.cps.toList++x.cps.toList.drop (p+y.length)):=by
 cases a:(occurrences x y 0 x.length 1).isEmpty
 ·right;have e:cp x y z=glued z (partsBetween x (occurrences x y 0 x.length 1) y.length):=by
   unfold cp;rw[a];rfl
  refine⟨rfl,e,?_⟩;have f:=StrLaws.occ_length_le x y 0 x.length 1;have hex:∃p,occurrences x y 0 x.length 1=[p]/\StrLaws.At x y x.length p:=by
   rcases StrLaws.occ_head x y 1 (B8 _)with⟨h,_⟩|⟨i,r,h,b,_⟩
   ·rw[h]at a;cases a
   ·rw[h]at f;cases r with
    |nil=>exact⟨i,h,b⟩
    |cons _ _=>simp at f
  obtain⟨p,g,j,l⟩:=hex;refine⟨p,j,l,?_⟩;rw[e,g];show(glued z [strSub x 0 p,strSub x (p+y.length) x.length]).cps.toList=_;rw[vo,lb,lb,List.drop_zero,Nat.sub_zero];congr 1;rw[List.take_of_length_le];rw[S7];have:x.cps.toList.length=x.length:=by simp[aa3]
  lia
 ·left;exact⟨rfl,by unfold cp;rw[a];rfl⟩
section
variable{prog:C1}{w:F8}{A:D4}{E:o0->z4->Prop}{s:z4}
theorem hU(x y z:Str)(t u v k:Tok)(g:u≠0)(e:v≠0)(a:u≠v)(b:(y==z)=false)(f:(z.length==0)=false)
  (h:tooLong (x.length+(occurrences x y 0 x.length 1).length*z.length)=false) :
  Gives («str.replace» ⟨[.str x t,.str y u,.str z v,.int 1 k],[]⟩) (if(occurrences x y 0 x.length 1).isEmpty=true then .val (.str x t)else .str (glued z (partsBetween x (occurrences x y 0 x.length 1) y.length))):=by
 show Gives (if((occurrences x y 0 x.length 1).isEmpty || (y.length==0&&z.length==0))=true then(do rule "str.replace.nothing";ret (.str x t))else(isSame (.str y u) (.str z v) >>= λsame=>if same=true then(do rule "str.replace.old-is-new";ret (.str x t))else if tooLong (x.length+(occurrences x y 0 x.length 1).length*z.length)=true then unsupported "str.replace:memory" else retStr (glued z (partsBetween x (occurrences x y 0 x.length 1) y.length)))) _;rw[f,S6,Bool.or_false];cases i:(occurrences x y 0 x.length 1).isEmpty
 ·rw[isSame_str_other y z u v (by simp[g,e]) (by simp[a]) b,h];exact .of_eq rfl
 ·exact .rule (.of_eq rfl)
theorem iy{x y z:Str}{t u v k:Tok}{Q:o0->z4->Prop}(i:u≠0)(j:v≠0)(g:u≠v)(b:(y==z)=false)(m:(z.length==0)=false)(q:x.length+1*z.length<=100000)
  (a:∀t' k,Q (.str (cp x y z) t') { s with toks:=k }):B3 (D3 prog w) A (call (.builtin "str.replace") [.str x t,.str y u,.str z v,.int 1 k]) Q E s:=by
 have n:=StrLaws.occ_length_le x y 0 x.length 1;have o:tooLong (x.length+(occurrences x y 0 x.length 1).length*z.length)=false:=by
  have G:(occurrences x y 0 x.length 1).length*z.length<=1*z.length:=Nat.mul_le_mul_right _ n;unfold tooLong A0;exact decide_eq_false (by lia)
 refine call_gives F.slot_str_replace (T7 _ _ _) F.entry_str_replace (F.args_str_replace_4 _ _ _ _) (hU x y z t u v k i j g b m o) ?_;unfold cp at a;cases f:(occurrences x y 0 x.length 1).isEmpty
 ·rw[f]at a;simp only[A6,if_false]at a ⊢;refine⟨?_,a _ _⟩;rcases fY x y z with⟨h,_⟩|⟨_,e,p,_,_,h⟩
  ·rw[f]at h;cases h
  ·rw[<-e];have l:(cp x y z).length=(cp x y z).cps.toList.length:=by simp[aa3]
   have C:x.cps.toList.length=x.length:=by simp[aa3]
   have B:z.cps.toList.length=z.length:=by simp[aa3]
   rw[l,h,C6,C6,Q9,S7,sizeLine_eq]
   lia
 ·rw[f]at a;simp only[if_true]at a ⊢;exact a t s.toks
end
section
variable{X:Cx}
def PEf(X:Cx)(e:C5)(t:TE):Prop :=
 ∀(b:List (A1×Obj)) (s:z4) (a:St) (H:Hp) (Q:VK),Inv X b a H s->t a H Q->B3 (D3 X.prog X.w) X.A (M6 e X.env) (λv f=>EP X b a Q v f/\f.toks≠0) X.xe s
def PEp(X:Cx)(e:C5)(t:TE):Prop :=
 ∀(b:List (A1×Obj)) (s:z4) (a:St) (H:Hp) (Q:VK),s.toks≠0->Inv X b a H s->t a H Q->B3 (D3 X.prog X.w) X.A (M6 e X.env) (EP X b a Q) X.xe s
def wD(b e:TE):TE:=λa H Q=>b a H λx g=>e a g λy f=>∃i j,x=.str i/\y=.str j/\i.length≠0/\j.length≠0/\i.length+j.length<=A0/\Q (.str (i++j)) f
theorem pz{a b:C5}{f g:TE}{pos:Pos}(ha:PE X a f)(l:PE X b g):PEf X (.BinOp a .Add b pos) (wD f g):=by
 intro E s J H Q I h;refine wpAny_BinOp (rF ha l I h λv u L x y B p w m ⟨i,j,A,z,n,C,o,q⟩=>?_);subst A z;obtain⟨t,rfl⟩:=w;obtain⟨G,rfl⟩:=m;refine PySem.P.add_str ?_;rw[if_neg (by simpa using n),if_neg (by simpa using C)];refine⟨?_,⟨.str (i++j),B,p.tok _,⟨_,rfl⟩,q⟩,Nat.succ_ne_zero _⟩;have e:(i++j).length=i.length+j.length:=by
  show(i.cps++j.cps).size=_;rw[Array.size_append];rfl
 rw[e];exact o
def tO(y z:Str)(a:TE):TE:=λb H Q=>a b H λx e=>∃i,x=.str i/\i.length+z.length<=100000/\Q (.str (cp i y z)) e
theorem ph{o:C5}{u:TE}{y z:Str}{j m b:Nat}{f l g w n:Pos}(p:(y==z)=false)(S:(z.length==0)=false)(M:PEf X o u)
  (P:F9 o "replace" X.env (M6 o X.env)=M6 o X.env:=by rfl)
  (E:((K6 n (z9 [.Constant (.str y) j f,.Constant (.str z) m l,.Constant (.int 1) b g] X.env)).all (λx => !x.1) && (U3 n (O2 [] X.env)).all (λx => x.1.isSome)
  &&decide ([Z6 (.str y) j f,.Constant (.str z) m l,.Constant (.int 1) b g].length+([]:List P4).length+(if([]:List P4).isEmpty then 0 else 1)<30))=true:=by rfl)
  (J:(w.endLine==n.line)=true:=by rfl) (L:(K6 n (z9 [.Constant (.str y) j f,.Constant (.str z) m l,.Constant (.int 1) b g] X.env)).any (·.1)=false:=by rfl)
  (G:z9 [.Constant (.str y) j f,.Constant (.str z) m l,.Constant (.int 1) b g] X.env=[(false,M6 (.Constant (.str y) j f) X.env),(false,M6 (.Constant (.str z) m l) X.env),(false,M6 (.Constant (.int 1) b g) X.env)]:=by rfl) :
  PE X (.Call (.Attribute o "replace" w) [.Constant (.str y) j f,.Constant (.str z) m l,.Constant (.int 1) b g] [] n) (tO y z u):=by
 intro R s U H Q I h;refine wpAny_Call_method_late P E J rfl (thn (M R s U H _ I h) λv B ⟨⟨x,N,A,T,i,O,Z,q⟩,C⟩=>?_);subst O;obtain⟨t,rfl⟩:=T;refine⟨"str","str.replace",M0,PySem.F.slot_str_replace,PySem.F.type_str_replace,T7 _ _ _,(λa e=>by cases e),?_⟩;refine R3 L ?_;rw[G];refine Calls.evalArgs_plain ?_;show B3 _ _ (spliced [(false,M6 (.Constant (.str y) j f) X.env),(false,M6 (.Constant (.str z) m l) X.env),(false,M6 (.Constant (.int 1) b g) X.env)]) _ _ B;refine L6 (R4 (L6 (R4 (L6 (wpAny_Constant_int (Calls.spliced_nil ?_))))));refine iy C (Nat.succ_ne_zero _) (D1 (R0 _)) p S (by lia) λY k=>?_;exact⟨.str (cp i y z),N,(((A.tok _).tok _).tok _),⟨_,rfl⟩,q⟩
def wK(y z:Str)(a:TE):TE:=λb H Q=>a b H λx e=>∃i,x=.str i/\i.length<=100000/\Q (.str (ab4 i y z)) e
theorem rZ{i:Nat}{x:Str}{A:Pos}{y z:Str}{j o:Nat}{g n J p:Pos}(S:X.N[i]?=some x)(T:Vis X.env.scope x)(B:(x==("__debug__":Str))=false)(E:(x==("__classdict__":Str))=false)(C:(y==z)=false)(Z:z.length<=14)
  (U:F9 (.Name x A) "replace" X.env (M6 (.Name x A) X.env)=M6 (.Name x A) X.env:=by rfl)
  (M:((K6 p (z9 [.Constant (.str y) j g,.Constant (.str z) o n] X.env)).all (λx => !x.1) && (U3 p (O2 [] X.env)).all (λx => x.1.isSome)
  &&decide ([Z6 (.str y) j g,.Constant (.str z) o n].length+([]:List P4).length+(if([]:List P4).isEmpty then 0 else 1)<30))=true:=by rfl)
  (O:(J.endLine==p.line)=true:=by rfl) (R:(K6 p (z9 [.Constant (.str y) j g,.Constant (.str z) o n] X.env)).any (·.1)=false:=by rfl)
  (N:z9 [.Constant (.str y) j g,.Constant (.str z) o n] X.env=[(false,M6 (.Constant (.str y) j g) X.env),(false,M6 (.Constant (.str z) o n) X.env)]:=by rfl) :
  PEp X (.Call (.Attribute (.Name x A) "replace" J) [.Constant (.str y) j g,.Constant (.str z) o n] [] p) (wK y z (lY i)):=by
 intro Y s σ H Q f I h;obtain⟨v,e,l,rfl,hb,q⟩:=h;obtain⟨m,hn,hl⟩:=I.loc;obtain⟨u,r,L⟩:=hl i x _ S e T;refine wpAny_Call_method_late U M O rfl ?_;have w:MethodOn X.prog X.w X.A "replace" p u (K6 p (z9 [.Constant (.str y) j g,.Constant (.str z) o n] X.env)) (EP X Y σ Q) X.xe s:=by
  obtain⟨t,rfl⟩:=r;refine⟨"str","str.replace",M0,PySem.F.slot_str_replace,PySem.F.type_str_replace,T7 _ _ _,(λa e=>by cases e),?_⟩;refine R3 R ?_;rw[N];refine Calls.evalArgs_plain ?_;show B3 _ _ (spliced [(false,M6 (.Constant (.str y) j g) X.env),(false,M6 (.Constant (.str z) o n) X.env)]) _ _ s;refine L6 (R4 (L6 (R4 (Calls.spliced_nil ?_))));refine SC.replaceW f (Nat.succ_ne_zero _) (D1 (R0 _)) C (by lia) Z λt' k=>?_;exact⟨.str _,H,((I.tok _).tok _),⟨_,rfl⟩,q⟩
 rcases L with⟨f,P⟩|⟨f,c,G,b⟩
 ·exact Y9 (wpAny_loadName_local I.ok.kind f hn P w) B
 ·rcases f with f|f
  ·exact Y9 (wpAny_loadName_cell I.ok.kind f G b w) B
  ·exact Y9 (wpAny_loadName_free I.ok.kind f G b w E) B
theorem vY{j:Operator}{r:R2}{a b:C5}{l i:TE}{pos:Pos}(G:OpR X (M7 j) r)(ha:PEp X a l)(A:PE X b i):PEp X (.BinOp a j b pos) (tOp r l i):=by
 intro f s g H Q q I h;refine wpAny_BinOp ?_;refine thn (ha f s g H _ q I h) λv t e=>e.el λx o n B m=>?_;refine thn (A f t g o _ n m) λu E e=>e.el λy w p C z=>?_;exact G f E g w x y v u Q p B C z
theorem qu{e f:C5}{b:List C5}{te l:TE}{t:TA}(ha:PEf X e te)(L:PEp X f l)(hr:PA X b t)(M:z9 (e::f::b) X.env=(false,M6 e X.env)::(false,M6 f X.env)::z9 b X.env:=by rfl):PA X (e::f::b) (jc te (jc l t)):=by
 intro g i s j H Q I h;rw[M];show B3 _ _ (spliced ((false,M6 e X.env)::(false,M6 f X.env)::K6 g (z9 b X.env))) _ _ s;refine L6 (thn (ha i s j H _ I h) λu A ⟨⟨x,p,n,N,m⟩,B⟩=>?_);refine L6 (thn (L i A j p _ B n m) λT P a=>a.el λy G q O J=>?_);exact thn (hr g i P j G _ q J) λR S a=>a.el λz w o C E=>⟨x::y::z,w,o,.cons N (.cons O C),E⟩
def oj(y z:Str)(f g:TEd):TEd:=λe M Q=>f e M λa M1=>g e M1 λb M2=>∃i j,a=.str i/\b=.str j/\i.length≠0/\j.length≠0/\i.length+j.length+z.length<=100000/\Q (.str (cp (i++j) y z)) M2
theorem aw(i j:Str):(i++j).length=i.length+j.length:=by
 show(i.cps++j.cps).size=_;rw[Array.size_append];rfl
theorem sd{a b:C5}{I B:TEd}{y z:Str}{h m e:Nat}{o f l g L n:Pos}(ha:QEd X a I)(hb:QEd X b B)
  (p:(y==z)=false:=by decide +kernel) (hz:(z.length==0)=false:=by decide +kernel)
  (bh:F9 (.BinOp a .Add b o) "replace" X.env (M6 (.BinOp a .Add b o) X.env)=M6 (.BinOp a .Add b o) X.env:=by rfl)
  (S:((K6 n (z9 [.Constant (.str y) h f,.Constant (.str z) m l,.Constant (.int 1) e g] X.env)).all (λx => !x.1) && (U3 n (O2 [] X.env)).all (λx => x.1.isSome)
  &&decide ([Z6 (.str y) h f,.Constant (.str z) m l,.Constant (.int 1) e g].length+([]:List P4).length+(if([]:List P4).isEmpty then 0 else 1)<30))=true:=by rfl)
  (U:(L.endLine==n.line)=true:=by rfl) (bv:(K6 n (z9 [.Constant (.str y) h f,.Constant (.str z) m l,.Constant (.int 1) e g] X.env)).any (·.1)=false:=by rfl)
  (T:z9 [.Constant (.str y) h f,.Constant (.str z) m l,.Constant (.int 1) e g] X.env=[(false,M6 (.Constant (.str y) h f) X.env),(false,M6 (.Constant (.str z) m l) X.env),(false,M6 (.Constant (.int 1) e g) X.env)]:=by rfl) :
  QEd X (.Call (.Attribute (.BinOp a .Add b o) "replace" L) [.Constant (.str y) h f,.Constant (.str z) m l,.Constant (.int 1) e g] [] n) (oj y z I B):=by
 rw[QEd.eq]at *
 refine PE.conv (ph p hz (pz ha hb) bh S U bv T) λσ H Q s=>s.el λG M R J hr q k=>?_;refine⟨G,M,_,J,hr,q,λd1 M1 v H1 N E t A=>⟨G,M1,_,J.ext E,t,N,λd2 M2 u H2 ⟨i,j,Z,P,n1,O,hl,q2⟩ Y w C=>?_⟩⟩;subst Z P;simp only[Rep]at A C;subst A C;exact⟨i,j,rfl,rfl,n1,O,by rw[sizeLine_eq];lia,_,rfl,by rw[aw];lia,k _ M2 _ H2 q2 (E.trans Y) w (by simp only[Rep])⟩
def mY(y z:Str)(i:Nat)(o p tc:TEd)(n:TAd):TAd:=λe M Q=>o e M λa M1=>p e M1 λb M2=>∃f g,a=.str f/\b=.str g/\f.length≠0/\g.length≠0/\f.length+g.length<=A0 /\
 ∃l,e[i]?=some (some (.str l))/\l.length<=100000/\tc e M2 λc j=>∃h,c=.str h/\(ab4 l y z).length+h.length<=A0/\n e j λm q=>Q (.str (f++g)::.str (ab4 l y z++h)::m) q
theorem oS{i:Nat}{x:Str}{a b c:C5}{ta Z tc:TEd}{s:List C5}{tr:TAd}{y z:Str}{f h:Nat}{m e g I O B j:Pos}(ha:QEd X a ta)(hb:QEd X b Z)(hc:QEd X c tc)(ht:QAd X s tr)
  (hN:X.N[i]?=some x:=by rfl) (hv:Vis X.env.scope x:=by first|exact J6 rfl|exact Z9 (J6 rfl)|exact Z9 (Z9 rfl)) (hd:(x==("__debug__":Str))=false:=by decide) (P:(x==("__classdict__":Str))=false:=by decide)
  (C:(y==z)=false:=by decide +kernel) (hz:z.length<=14:=by decide +kernel)
  (bh:F9 (.Name x m) "replace" X.env (M6 (.Name x m) X.env)=M6 (.Name x m) X.env:=by rfl)
  (dq:((K6 j (z9 [.Constant (.str y) f e,.Constant (.str z) h g] X.env)).all (λx => !x.1) && (U3 j (O2 [] X.env)).all (λx => x.1.isSome)
  &&decide ([Z6 (.str y) f e,.Constant (.str z) h g].length+([]:List P4).length+(if([]:List P4).isEmpty then 0 else 1)<30))=true:=by rfl)
  (bF:(B.endLine==j.line)=true:=by rfl) (bv:(K6 j (z9 [.Constant (.str y) f e,.Constant (.str z) h g] X.env)).any (·.1)=false:=by rfl)
  (hs:z9 [.Constant (.str y) f e,.Constant (.str z) h g] X.env=[(false,M6 (.Constant (.str y) f e) X.env),(false,M6 (.Constant (.str z) h g) X.env)]:=by rfl)
  (S:z9 (.BinOp a .Add b I::.BinOp (.Call (.Attribute (.Name x m) "replace" B) [.Constant (.str y) f e,.Constant (.str z) h g] [] j) .Add c O::s) X.env=(false,M6 (.BinOp a .Add b I) X.env)::(false,M6 (.BinOp (.Call (.Attribute (.Name x m) "replace" B) [.Constant (.str y) f e,.Constant (.str z) h g] [] j) .Add c O) X.env)::z9 s X.env:=by rfl) :
  QAd X (.BinOp a .Add b I::.BinOp (.Call (.Attribute (.Name x m) "replace" B) [.Constant (.str y) f e,.Constant (.str z) h g] [] j) .Add c O::s) (mY y z i ta Z tc tr):=by
 rw[QAd.eq]at *
 rw[QEd.eq]at ha hb hc;refine PA.conv (qu (pz ha hb) (vY gU (rZ hN hv hd P C hz bh dq bF bv hs) hc) ht S) λσ H Q J=>J.el λt M R o hr q k=>?_;refine⟨t,M,_,o,hr,q,λd1 M1 v H1 q1 n L Y=>⟨t,M1,_,o.ext n,L,q1,λd2 M2 u H2 ⟨s1,s2,x1,x2,n1,n2,hl,l,el,T,q2⟩ A N ru=>?_⟩⟩;subst x1 x2;simp only[Rep]at Y ru;subst Y ru;obtain⟨lv,ev,U⟩:=(o.ext (n.trans A)).2 i _ el;simp only[Rep]at U;subst U;refine⟨s1,s2,rfl,rfl,n1,n2,hl,_,ev,l,rfl,T,t,M2,_,o.ext (n.trans A),N,q2,λd3 M3 w H3 ⟨s3,x3,h3,q3⟩ e3 G p=>?_⟩;subst x3;simp only[Rep]at p;subst p;refine⟨_,_,rfl,rfl,h3,t,M3,_,o.ext ((n.trans A).trans e3),G,q3,λds M4 vs H4 q4 e4 E rs=>?_⟩;exact k _ M4 _ H4 q4 (((n.trans A).trans e3).trans e4) E (ai.cons (by simp only[Rep]) (ai.cons (by simp only[Rep]) rs))
def qi(a:TEd):TEd:=λb M Q=>a b M λo M1=>∃x,o=.str x/\(V8 x).length<=100000/\Q (.str (V8 x)) M1
theorem sA{o:C5}{e:TEd}{i g:Pos}(L:QEd X o e)(m:F9 o "upper" X.env (M6 o X.env)=M6 o X.env:=by rfl)(A:(i.endLine==g.line)=true:=by rfl):
  QEd X (.Call (.Attribute o "upper" i) [] [] g) (qi e):=by
 rw[QEd.eq]at *
 have J:MtR X "str.upper" (λx l H Q=>∃z,x=.str z/\l=[]/\(V8 z).length<=100000/\Q (.str (V8 z)) H):=by
  intro N s C H x l v us Q I rx rv h;obtain⟨z,rfl,rfl,f,q⟩:=h;obtain⟨t,rfl⟩:=rx;cases rv;refine SC.upper ?_ ⟨.str _,H,I.tok _,⟨_,rfl⟩,q⟩;unfold tooLong A0;exact decide_eq_false (by lia)
 refine(ug M0 PySem.F.slot_str_upper PySem.F.type_str_upper J L m A).conv λC H Q a=>a.el λu M R E G q k=>?_;refine⟨u,M,_,E,G,q,λo M1 O B ⟨z,w,f,n⟩ p b j=>?_⟩;subst w;simp only[Rep]at j;subst j;exact⟨rfl,z,rfl,rfl,f,k _ M1 _ B n p b (by simp only[Rep])⟩
end
section
variable{X:Cx}{e:C5}{te:TEd}
def yu(x y:Str):D:=.tup [.str (Txt.partition x y).1,.str (Txt.partition x y).2.1,.str (Txt.partition x y).2.2]
def yy(b te:TEd):TEd:=λa M Q=>b a M λo M1=>∃x,o=.str x/\te a M1 λd M2=>∃y,d=.str y/\(y.length==0)=false/\x.length<=A0/\Q (yu x y) M2
end
def dXT(b:TEd)(te:TXd):TXd:=λa M Q e=>b a M λf M1=>te a M1 (λd M2=>Q (.tup [f,d]) M2) e
end L2
namespace My
open PySem PySem.Spec PyProof.Rows L2
noncomputable def top(i:Nat):P9:=PySem.Challenge.pw_wordwishes_k06_texts_of_no_row.main.body.getD i (.Pass ⟨0,0,0,0⟩)
abbrev c7:P9:=top 14
abbrev b6:P9:=top 15
abbrev bo:P9:=top 16
abbrev dU:P9:=top 18
abbrev dE:P9:=top 21
abbrev dO:P9:=top 22
abbrev dh:P9:=top 23
abbrev dF:P9:=top 26
abbrev dn:P9:=top 27
abbrev cW:P9:=top 28
abbrev ck:P9:=top 29
abbrev gE:P9:=top 31
abbrev gD:P9:=top 32
abbrev cQ:P9:=top 33
abbrev ec:P9:=top 34
abbrev g5:P9:=top 35
abbrev jy:P9:=top 36
abbrev gS:P9:=top 37
abbrev eL:P9:=top 38
abbrev cG:P9:=top 39
abbrev cV:P9:=top 40
abbrev cD:P9:=top 41
abbrev dw:P9:=top 42
abbrev lh:P9:=top 43
abbrev jI:List Str:=["thing"]
theorem eI:ax jI ["thing"] (ag c7):=fsc
abbrev gr:List Str:=["thing","many"]
theorem cS:ax gr ["thing","many"] (ag b6):=fsc
abbrev bO:List Str:=["thing"]
theorem cz:ax bO ["thing"] (ag bo):=fsc
abbrev k7:List Str:=["thing"]
theorem fE:ax k7 ["thing"] (ag dU):=fsc
abbrev kL:List Str:=["thing"]
theorem fk:ax kL ["thing"] (ag dE):=fsc
abbrev km:List Str:=["thing"]
theorem fe:ax km ["thing"] (ag dO):=fsc
abbrev eM:List Str:=["thing"]
theorem fX:ax eM ["thing"] (ag dh):=fsc
abbrev kX:List Str:=["letters","many"]
theorem fC:ax kX ["letters"] (ag dF):=fsc
abbrev j8:List Str:=["text","halves"]
theorem fq:ax j8 ["text"] (ag dn):=fsc
abbrev eS:List Str:=["text","row"]
theorem fZ:ax eS ["text"] (ag cW):=fsc
abbrev jX:List Str:=["text","row"]
theorem bW:ax jX ["text"] (ag ck):=fsc
abbrev pO:List Str:=["_law_cell","_law_rest","_law_one"]
theorem i6:ax pO ["_law_cell"] (ag gE):=fsc
noncomputable abbrev pB:List Str:=["_law_pool_here","_law_amount","_law_found"]
theorem iZ:ax pB ["_law_pool_here","_law_amount"] (ag gD):=fsc
abbrev cu:List Str:=["_law_pool_here","_law_known","_law_letters","_law_word_here","_law_some"]
theorem jb:ax cu ["_law_pool_here","_law_known"] (ag cQ):=fsc
abbrev fK:List Str:=["_law_e","_law_sort","_law_sorts"]
theorem gR:ax fK ["_law_e","_law_sort"] (ag ec):=fsc
abbrev pY:List Str:=["_law_pool_here","_law_words","_law_k","_law_mark","_law_turn"]
theorem iK:ax pY ["_law_pool_here"] (ag g5):=fsc
abbrev qB:List Str:=["_law_text_here","_law_found","_law_sign_here","_law_word_here"]
theorem kO:ax qB ["_law_text_here"] (ag jy):=fsc
abbrev o3:List Str:=["_law_pool_here","_law_some"]
theorem iL:ax o3 ["_law_pool_here"] (ag gS):=fsc
abbrev l9:List Str:=["_law_pool_here","_law_text_here","_law_turn","_law_at","_law_way","_law_rest"]
theorem gj:ax l9 ["_law_pool_here","_law_text_here"] (ag eL):=fsc
abbrev dI:List Str:=["_law_word_here","_law_parts","_law_mark","_law_size"]
theorem fb:ax dI ["_law_word_here"] (ag cG):=fsc
abbrev eR:List Str:=["_law_text_here","_law_found"]
theorem gi:ax eR ["_law_text_here"] (ag cV):=fsc
abbrev dD:List Str:=["_law_text_here","_law_due","_law_found"]
theorem fj:ax dD ["_law_text_here"] (ag cD):=fsc
abbrev j6:List Str:=["_law_text_here","_law_caught","_law_e"]
theorem fc:ax j6 ["_law_text_here"] (ag dw):=fsc
abbrev kP:List Str:=["_law_script","_law_cell","_law_pool_here","_law_text_here"]
theorem qo:ax kP ["_law_script"] (ag lh):=fsc
abbrev eh:P9:=wC (top 2) 0
theorem oO:ax ["self","part"] ["self","part"] (ag eh):=fsc
theorem pJ{P:C1}{w:F8}{K:s0}{i:Str->Option o0}{base:C9}{C W m f:A1}{b:B7}(F:Fun K "__init__" "NoText.__init__" eh f b)(Y:iE K i "NoText" "WishError" "part" C W m):aS P w K i base CX0 1 f b ["self","part"] (spF "part" C):=by
 refine F.ok oO (λl H Q E h=>?_) (λj A a s H l Q E n h=>⟨_,gT (nh (v7 Y 0 rfl (pv 0) pI)) (jv (xE Y 0 1 (pv 0) (pv 1))),?_⟩)
 ·obtain⟨e,v,rfl,_⟩:=h;rfl
 ·obtain⟨e,v,rfl,g,q⟩:=h;exact⟨e,rfl,g,e,v,rfl,rfl,g,q⟩
structure rN(K:s0) (mg:Str->Option o0) (C0 W fI0:A1):Prop where
 p0:iE K mg "NoText" "WishError" "part" C0 W fI0
 g0:xk K C0 "part"
 gH:mg "WishError"=some (.ref W)
 lC:∀C∈[C0],∃nm q N bs bm hd sn sub ab col dd k0 k1 k2 k3 k5 newId,K.lookup C=some (K8 nm q C N bs bm hd sn sub ab col dd k0 k1 k2 k3 k5 newId)/\(A9 C::bm).contains (.ref W)=true
 lW:∃nm q N bs bm hd sn sub ab col dd k0 k1 k2 k3 k5 newId,K.lookup W=some (K8 nm q W N bs bm hd sn sub ab col dd k0 k1 k2 k3 k5 newId)/\bm.contains (.type "BaseException")=true
 z:∀C∈[C0],nS K C
 k_ValueError:∀(i:Nat) C,[C0][i]?=some C->C3 K (.ref C) (.type "ValueError")=some ([true].getD i false)
 k_NoText:∃C2,mg "NoText"=some (.ref C2)/\∀(i:Nat) C,[C0][i]?=some C->C3 K (.ref C) (.ref C2)=some ([true].getD i false)
 k_NoWord:∃C2,mg "NoWord"=some (.ref C2)/\∀(i:Nat) C,[C0][i]?=some C->C3 K (.ref C) (.ref C2)=some ([false].getD i false)
 k_NoLexicon:∃C2,mg "NoLexicon"=some (.ref C2)/\∀(i:Nat) C,[C0][i]?=some C->C3 K (.ref C) (.ref C2)=some ([false].getD i false)
 k_NoStep:∃C2,mg "NoStep"=some (.ref C2)/\∀(i:Nat) C,[C0][i]?=some C->C3 K (.ref C) (.ref C2)=some ([false].getD i false)
 k_NoNumber:∃C2,mg "NoNumber"=some (.ref C2)/\∀(i:Nat) C,[C0][i]?=some C->C3 K (.ref C) (.ref C2)=some ([false].getD i false)
 k_NoDrawing:∃C2,mg "NoDrawing"=some (.ref C2)/\∀(i:Nat) C,[C0][i]?=some C->C3 K (.ref C) (.ref C2)=some ([false].getD i false)
 k_NoWorld:∃C2,mg "NoWorld"=some (.ref C2)/\∀(i:Nat) C,[C0][i]?=some C->C3 K (.ref C) (.ref C2)=some ([false].getD i false)
 k_NoRow:∃C2,mg "NoRow"=some (.ref C2)/\∀(i:Nat) C,[C0][i]?=some C->C3 K (.ref C) (.ref C2)=some ([false].getD i false)
 k_NoKept:∃C2,mg "NoKept"=some (.ref C2)/\∀(i:Nat) C,[C0][i]?=some C->C3 K (.ref C) (.ref C2)=some ([false].getD i false)
structure Txt(mg:Str->Option o0):Prop where
 b_isinstance:mg "isinstance"=none
 b_int:mg "int"=none
 b_bool:mg "bool"=none
 b_tuple:mg "tuple"=none
 b_len:mg "len"=none
 b_str:mg "str"=none
 b_all:mg "all"=none
 b_abs:mg "abs"=none
 b_range:mg "range"=none
 b_ValueError:mg "ValueError"=none
 g_SMALL_LETTERS:∃t,mg "SMALL_LETTERS"=some (.str "abcdefghijklmnopqrstuvwxyz" t)
 g_MOST_LETTERS:∃t,mg "MOST_LETTERS"=some (.int 8 t)
 g_MOST_TURN:∃t,mg "MOST_TURN"=some (.int 99 t)
 g_NO_SIGNS:∃t,mg "NO_SIGNS"=some (.str "1" t)
set_option hygiene false in
local macro_rules|`(tactic| walk_at"")=>`(tactic| simp only[oj,mY,qi,vp,xb,dYE,dXC,qP,xa,ml,tY,qy,vn,sF,ut,qN,dC,vg,pD,vL,sY,dOp,dUn,qT,wb,sR,tG,dCB,mG,uA,wz,sU,xn,xh,wd,tK,vT,wN,dIf,iM,wR,oy,sQ,wa,wu,oq,wM,uS,qW,oE,oa,HD.dKr.injEq,sX,rG,HD.dT.injEq,HD.dK.injEq,xt,xf,pG,jG,oQ,sS,dLc,ym,
 rE,vk,qw,sG,rQ,qF,qK,rj,vI,rY,rC,qO,sk,wo,xc,vW,ow,tH,vV,oF,tV,uh,ue,vH,uH,tX,uk,u6,uj,u4,um,wV,wt,xI,wU,vf,uI,wO,v9,wB,oJ,pX,oo,qa,xq,wQ,xy,xD,xr,v4,vO,ou,xx,qY,nF,u3,ar,bg,
 cY,B5,List.map_nil,S8,E1,B6,K5,z5,List.set_cons_zero,List.set_cons_succ,List.getElem?_cons_zero,List.getElem?_cons_succ,L5.injEq,exists_eq_left',exists_eq_left,D.int.injEq,D.bl.injEq,D.str.injEq,D.ref.injEq,D.tup.injEq,D.lst.injEq,true_and,and_true,if_true,decide_eq_true_eq,exists_and_left,Nat.zero_add,Nat.reduceAdd,Nat.reduceSub,vP,tI,pS,wy,HD.lst.injEq,J8,or_true,true_or,and_self,↓reduceIte,Int.reduceLT,Int.reduceLE,Int.reducePow,Int.reduceNeg,Int.reduceToNat,Nat.reducePow,Nat.reduceLT,Nat.reduceLeDiff,Int.reduceAdd,Int.reduceMul,Int.reduceSub,A6,Bool.true_eq_false,if_false])
section
variable{P:C1}{w:F8}{K:s0}{g:Str->Option o0}{base:C9}{f:A1}{t:B7}
theorem bE{a b:TSd}{E:cx}{g:DE}{M:DH}(C:DE->DH->Prop)(h:∀nx,(∀ e f,C e f->nx e f)->a { E with nx:=nx } g M)(i:∀ e f,C e f->b E e f):sF a b E g M:=h _ i
theorem vw{a:List D}{n:Nat}:L2.dS a none (some (n:Int))=a.take n:=by
 unfold L2.dS;rw[HT.sIx_none,HT.sIx_nat,List.drop_zero,Nat.sub_zero]
 by_cases h:n<=a.length
 ·rw[Nat.min_eq_left h]
 ·rw[Nat.min_eq_right (by lia),List.take_length,List.take_of_length_le (by lia)]
theorem fu{lo:Int}{n:Nat}:(k9 lo n).length=n:=by simp[k9]
theorem i7{M:DH}{p q:A1}{a b:HD}(h:p≠q):ay (ay M p a) q b=ay (ay M q b) p a:=by
 funext c;unfold ay
 by_cases e:c=q
 ·subst e;simp[N6 h]
 ·by_cases f:c=p
  ·subst f;simp[h]
  ·simp[e,f]
def uD(a b c:Int):Prop:=0<=a/\0<=b/\b<1000000403/\0<=c/\c<1000000513
def aR(l:List D):Prop:=∃a b c,l=[.int a,.int b,.int c]/\uD a b c
def ky:SpD:=λa M R=>∃i,a=[.int i]/\∀p l,M p=none->aR l->R (.ref p) (ay M p (.lst l))
def cO:SpD:=λb M R=>∃p l n,b=[.ref p,.int n]/\M p=some (.lst l)/\aR l/\0<n/\n<1073741824/\∀v a,0<=v->v<n->aR a->R (.int v) (ay M p (.lst a))
theorem nu(F:Fun K "_law_pool" "_law_pool" gE f t)(T:Txt g):aS P w K g base CX0 1 f t ["_law_cell"] (spD K 1 ky):=by
 have e:=i6.nd;refine F.okR rfl i6 (λl A j s H E u=>⟨_,(ah (aI (i:=1) e rfl (J6 rfl) aj)
   (ah (a7 (nM (kl (aH qZ (af 0) aj nbh) (jm (aH xP (af 0) (aD vS aj aj) nbh)))) (am (aI (i:=1) e rfl (J6 rfl) (aN v6 rfl T.b_abs (by kernel_rfl) (ae (af 0) ak)))) aO)
   (ah (aI (i:=2) e rfl (J6 rfl) (aD ig (af 0) aj))
   (am (aJ (jw (ae (af 1) (ae (af 2) (ae (aD ig (aD aE (aD b7 (af 2) aj) aj) aj) ak))))))))),λx M R _ m bk=>?_⟩)
 obtain⟨i,rfl,k⟩:=m;refine bk ?_;clear bk;walk_at"";have b:∀a:Int,0<=a->∀p,M p=none->R (D.ref p) (ay M p (HD.lst [D.int a,D.int (i % 1000000403),D.int ((i % 1000000403*48271+12345) % 1000000513)])):=λa q p o=>k p _ o ⟨a,_,_,rfl,q,by lia,by lia,by lia,by lia⟩;refine bC (λh=>⟨sz3 3,b _ (by split<;>lia)⟩) (λh=>bC (λn=>⟨sz3 3,b _ (by split<;>lia)⟩) (λn=>⟨sz3 3,b _ (by lia)⟩))
theorem nP(F:Fun K "_law_draw" "_law_draw" gD f t)(T:Txt g):aS P w K g base CX0 1 f t ["_law_pool_here","_law_amount"] (spD K 2 cO):=by
 have S:=iZ.nd;refine F.okR rfl iZ (λI A q s H E Z=>⟨_,(ah (a7 (aH lQ (cC cB (af 0) aj (λ_ _=>rfl)) aj nbh) (ah (aI (i:=2) S rfl (J6 rfl) (aD ig (cC cB (af 0) aj (λ_ _=>rfl)) (af 1)))
   (ah (pe (af 0) aj (aD o5 (cC cB (af 0) aj (λ_ _=>rfl)) (af 1)))
   (am (aJ (af 2))))) aO)
   (ah (pe (af 0) aj (aD ig (aD aE (aD aE (aD b7 (cC cB (af 0) aj (λ_ _=>rfl)) aj) (cC cB (af 0) aj (λ_ _=>rfl))) aj) aj))
   (ah (pe (af 0) aj (aD ig (aD aE (aD aE (aD b7 (cC cB (af 0) aj (λ_ _=>rfl)) aj) (aD ig (aD b7 (cC cB (af 0) aj (λ_ _=>rfl)) (cC cB (af 0) aj (λ_ _=>rfl))) aj)) aj) aj))
   (am (aJ (aD ig (aD o5 (aD aE (cC cB (af 0) aj (λ_ _=>rfl)) (aD b7 aj (cC cB (af 0) aj (λ_ _=>rfl)))) aj) (af 1))))))),λds M R _ O bk=>?_⟩)
 obtain⟨p,l,n,rfl,B,⟨a,b,c,rfl,X⟩,m,G,k⟩:=O;refine bk ?_;clear bk;have o:=er B;have e:∀x,jJ x n:=λx=>⟨m,G⟩;obtain⟨L,Y,N,J,C⟩:=X;have Q:-18446744073709551616<(b*40014+c+7) % 1000000403/\(b*40014+c+7) % 1000000403<18446744073709551616:=by lia
 have U:=tI (j:=(b*40014+c+7) % 1000000403) Q;walk_at"";simp only[o,B,m,e];walk_at"";simp only[U];walk_at"";simp only[m,e];walk_at"";have z:∀x:Int,0<=x % n:=λx=>Int.emod_nonneg _ (by lia);have u:∀x:Int,x % n<n:=λx=>Int.emod_lt_of_pos _ m;refine bC (λh=>?_) (λh=>?_)
 ·exact k _ _ (z _) (u _) ⟨_,_,_,rfl,Int.ediv_nonneg (by lia) (by lia),Y,N,J,C⟩
 ·exact k _ _ (z _) (u _) ⟨_,_,_,rfl,L,by lia,by lia,by lia,by lia⟩
def kA:SpD:=λe M R=>∃(p:A1) (l:List D) (a:List Str),e=[.ref p,.lst (a.map .str)]/\M p=some (.lst l)/\aR l/\a.length<=25/\∀w b,bw w->w∉a->aR b->R (.str w) (ay M p (.lst b))
theorem ni{p:A1}{Q:List D->DH->Prop}:∀(ds:List D) (x:Option D) (M:DH) (l:List D) (b:List Nat),M p=some (.lst l)->aR l->(∀c∈b,eK c) ->
  (∀(a:List Nat) (f:List D),aR f->(∀c∈a,eK c)->a.length=b.length+ds.length->Q (a.map λc=>D.str (tx [c])) (ay M p (.lst f))) ->
  bG (fH 5) n8 (dOp ixD (qN 2) (iM 2 cO (mG (qN 0) (mG (dC (D.int 26)) uA)))) ds [some (D.ref p),none,some (D.str abc),none,none,x] M (b.map λc=>D.str (tx [c])) Q
 |[],x,M,l,b,s,i,g,k=>by
  have:=k b l i g (by simp);rw[nJ s]at this;simpa only[bG]using this
 |d::ds,x,M,l,b,s,i,g,k=>by
  simp only[bG,fH,n8];walk_at"";refine⟨p,l,26,rfl,s,i,by decide,by decide,λv t w u o=>?_⟩;obtain⟨c,q,e⟩:=vt w u;refine⟨_,e,?_⟩;have z:(b.map λc=>D.str (tx [c]))++[D.str (tx [c])]=(b++[c]).map λc=>D.str (tx [c]):=by simp
  rw[z];refine ni ds (some d) (ay M p (.lst t)) t (b++[c]) ar o (λx A=>?_) (λa f m n j=>?_)
  ·rcases D9.mp A with h|h
   ·exact g x h
   ·have:x=c:=by simpa using h
    subst this;exact q
  ·rw[bg];exact k a f m n (by simp at j ⊢;lia)
theorem sx:(z8 "abcdefghijklmnopqrstuvwxyz").length<=A0:=by
 show abc.length<=_;rw[gB,aA];exact sz3 _
theorem qh{a:List Nat}(h:a.length<=1000):i2 (z8 "") (.lst (a.map λc=>D.str (tx [c])))=some (.str (tx a)):=by
 have e:(a.map λc=>D.str (tx [c]))=(a.map λc=>tx [c]).map D.str:=by simp
 have b:((a.map λc=>tx [c]).map (·.length)).sum=a.length:=by
  clear h e
  induction a with
  |nil=>rfl
  |cons c a ih=>simp only[B5,List.sum_cons,ih,aA,B6,K5];lia
 simp only[i2];rw[e,eT,xj];dsimp only;rw[if_pos (by rw[b,aA];simp;lia),jE]
def uo(a:List Nat)(d:D):D:=match d with|.str s=>.str (tx (a.take 7)++s)|_=>.non
theorem oi(a:List Nat):(L2.bR abc).map (uo a)=(bt.map λc=>tx (a.take 7++[c])).map D.str:=by
 rw[iS,N1,N1];apply T5;intro c _;show D.str (tx (a.take 7)++tx [c])=_;rw[gV];rfl
theorem nV(F:Fun K "_law_word" "_law_word" cQ f t)(T:Txt g)(G0:FnD P w K g base "_law_draw" 1 2 cO):aS P w K g base CX0 2 f t ["_law_pool_here","_law_known"] (spD K 2 kA):=by
 have J:=jb.nd;refine F.okR rfl jb (λa1 A Z s H E hr=>⟨_,(ah (aI (i:=2) J rfl (Z9 rfl) ao)
   (ah (aI (i:=3) J rfl (Z9 rfl) (pR ao (g6 (ms:=[true,false,true,false,false]) (aq:=["_law_k"]) (aU rfl (show bq (ag cQ) cu _ _=true from by decide +kernel)) rfl (fF rfl T.b_range (ae (aD aE aj (qd G0 hr (ae (af 0) (ae aj ak)))) ak)) (bH (i:=5) (show(cu++_).Nodup from by decide +kernel) rfl rfl) (λ_ _ _ _=>cq) (λ_ _ _ _=>(cC cB (af 2) (qd G0 hr (ae (af 0) (ae aj ak))) (λ_ _=>rfl))))))
   (ah (aI (i:=4) J rfl (J6 rfl) (aD aE (dQ (ae (af 3) ak)) (g6 (ms:=[false,false,false,true,false]) (aq:=["_law_sign_here"]) (aU rfl (show bq (ag cQ) cu _ _=true from by decide +kernel)) rfl (bS (af 2)) (bH (i:=5) (show(cu++_).Nodup from by decide +kernel) rfl rfl) (λ_ _ _ _=>cq) (λ_ _ _ _=>(aD aE (cP (af 3) en (dZ aj)) (af 5))))))
   (am (aJ (cC cB (g6 (ms:=[false,true,false,false,false]) (aq:=["_law_one"]) (aU rfl (show bq (ag cQ) cu _ _=true from by decide +kernel)) rfl (bS (af 4)) (bH (i:=5) (show(cu++_).Nodup from by decide +kernel) rfl rfl) (λ_ _ _ _=>(u9 (aH om (af 5) (af 1) rfl))) (λ_ _ _ _=>(af 5))) aj (λ_ _=>rfl))))))),λds M R _ hS bk=>?_⟩)
 obtain⟨p,l,a,rfl,hM,hP,hk,k⟩:=hS;refine bk ?_;clear bk;walk_at"";refine⟨p,l,8,rfl,hM,hP,by decide,by decide,λv l1 h0 h1 Q=>?_⟩;walk_at"";refine⟨by lia,by lia,by rw[fu];exact sz3 (1+v).toNat (by lia),?_⟩;refine ni _ none (ay M p (.lst l1)) l1 [] ar Q (λc j=>absurd j (by simp)) (λb l2 Y N bY=>?_);have X:b.length=(1+v).toNat:=by simpa[k9]using bY
 have hw:bw (tx b):=by
  unfold bw;rw[av];exact⟨by lia,by lia,N⟩
 rw[bg];refine⟨_,qh (by lia),sz3 1,_,if_pos sx,λhz=>⟨hz,?_⟩⟩;refine bb (λ_=>true) (uo b) (λo=>∃x,o=[none,none,none,some (.str (tx b)),none,x]) _ _ _ (λd z o m=>?_) ⟨none,rfl⟩ ?_
 ·obtain⟨x,rfl⟩:=m;obtain⟨c,j,rfl⟩:∃c,c∈bt/\d=.str (tx [c]):=by
   rw[show L2.bR (z8 "abcdefghijklmnopqrstuvwxyz")=bt.map (λc=>D.str (tx [c]))from iS]at z;obtain⟨c,j,e⟩:=E2.mp z;exact⟨c,j,e.symm⟩
  refine⟨_,rfl,⟨_,rfl⟩,λQ1 q=>q,λ_ Q2 q=>?_⟩;walk_at"";have hs:=ls b 7;refine⟨_,if_pos (by rw[aA];exact sz3 _ (by lia)),?_⟩;walk_at"";have C:V6 (tx b) none (some 7)=tx (b.take 7):=hs;rw[C];refine⟨_,if_pos (by rw[aA,aA];simp;exact sz3 _ (by lia)),q⟩
 ·have ev:(List.filter (λ_=>true) (L2.bR (z8 "abcdefghijklmnopqrstuvwxyz"))).map (uo b)=(bt.map λc=>tx (b.take 7++[c])).map D.str:=by
   rw[K9.mpr (λ_ _=>rfl)];exact oi b
  rw[E1,ev];have n:((bt.map λc=>tx (b.take 7++[c])).map D.str).length=26:=by simp[bt]
  refine⟨_,if_pos (by rw[n];exact sz3 _),_,rfl,λS=>⟨S,?_⟩⟩;have em:D.str (tx b)::(bt.map λc=>tx (b.take 7++[c])).map D.str=(tx b::bt.map λc=>tx (b.take 7++[c])).map D.str:=rfl;rw[em];generalize hL:(tx b::bt.map λc=>tx (b.take 7++[c]))=L;have O:∀w∈L,bw w:=λw h=>by
   rw[<-hL]at h;rcases A5.mp h with rfl|h
   ·exact hw
   ·obtain⟨c,j,rfl⟩:=E2.mp h;have:=l6 hw (oU j)
    rwa [av]at this
  have I:∃w∈L,w∉a:=by
   obtain⟨c,j,hn⟩:=oY (w:=tx b) hk;rw[av]at hn;exact⟨_,by rw[<-hL];exact B4 _ (E2.mpr ⟨c,j,rfl⟩),hn⟩
  refine bb (λd=>!((a.map D.str).any λe=>eqD e d)) id (λo=>∃x,o=[none,some (.lst (a.map D.str)),none,none,none,x]) _ _ _ (λd z o m=>?_) ⟨none,rfl⟩ ?_
  ·obtain⟨x,rfl⟩:=m;obtain⟨w,h,rfl⟩:=E2.mp z;refine⟨_,rfl,⟨_,rfl⟩,λQ1 q=>?_,λ_ Q2 q=>?_⟩
   ·walk_at"";refine⟨_,if_pos ⟨rfl,o8⟩,_,rfl,?_⟩;simpa using q
   ·walk_at"";exact q
  ·rw[E1,List.map_id,List.filter_map];have ef:(List.filter ((λd=>!((a.map D.str).any λe=>eqD e d))∘D.str) L)=L.filter (λw=>!decide (w∈a)):=by
    apply List.filter_congr;intro w _;show(!((a.map D.str).any λe=>eqD e (.str w)))=_;rw[lq]
   rw[ef];obtain⟨w0,G,U⟩:=I;cases hF:L.filter (λw=>!decide (w∈a))with
   |nil =>
    have:w0∈L.filter (λw=>!decide (w∈a)):=W6.mpr ⟨G,by simp[U]⟩;rw[hF]at this;cases this
   |cons u us =>
    have hu:u∈L.filter (λw=>!decide (w∈a)):=by rw[hF];exact F1
    obtain⟨a0,B⟩:=W6.mp hu;exact⟨_,ow,k u l2 (O u a0) (by simpa using B) Y⟩
mutual
def aB:D->Bool
 |.tup a=>cH a
 |.lst a=>cH a
 |.str x=>decide (x.length<=1000000)
 |.scr _=>false
 |.ref _=>false
 |.box _ _=>false
 |_=>true
def cH:List D->Bool
 |[]=>true
 |d::a=>aB d&&cH a
end
theorem eP:∀{ds:List D},cH ds=true↔∀d∈ds,aB d=true
 |[]=>by simp[cH]
 |d::ds=>by simp[cH,eP (ds:=ds)]
theorem cM{M:DH}{d:D}(h:aB d=true):rdM M d=d:=by
 cases d<;>first|rfl|(simp[aB]at h)
def mP:D->Int->Bool
 |.tup a,n=>(a.length:Int)==n
 |_,_=>false
def aL(x:Str):Bool:=decide (1<=x.length)&&decide (x.length<=8)&&x.cps.toList.all λc=>decide (c∈bt)
def bj:D->Bool
 |.str x=>aL x
 |_=>false
def bZ:SpD:=λa M R=>∃d n,a=[d,.int n]/\aB d=true/\R (.bl (mP d n)) M
theorem fv{d:D}{n:Int}{M:DH}{R:D->DH->Prop}:bZ [d,.int n] M R↔aB d=true/\R (.bl (mP d n)) M :=
 ⟨λ⟨a,b,e,h⟩=>by simp only[J8,D.int.injEq,and_true]at e;rw[e.1,e.2];exact h,λh=>⟨d,n,rfl,h⟩⟩
theorem fQ(F:Fun K "is_tuple_of" "is_tuple_of" b6 f t)(T:Txt g):aS P w K g base CX0 1 f t ["thing","many"] (spD K 2 bZ):=by
 have l:=cS.nd;refine F.okR rfl cS (λe A b s H E h=>⟨_,(am (aJ (dB (fD (Tn:="tuple") (by decide) rfl T.b_isinstance rfl T.b_tuple (by kernel_rfl) (af 0)) (gm (gc (eG h.units) (aN cL rfl T.b_len (by kernel_rfl) (ae (af 0) ak)) (af 1) nbh))))),λi M R _ j bk=>?_⟩);obtain⟨d,n,rfl,a,k⟩:=j;refine bk ?_;clear bk;walk_at"";simp only[cM a];cases d with
 |tup i =>
  refine⟨true,rfl,?_⟩;walk_at"";exact k
 |scr _=>simp[aB]at a
 |ref _=>simp[aB]at a
 |box _ _=>simp[aB]at a
 |_=>exact⟨false,rfl,by simp only[A6,if_false];exact k⟩
def br:SpD:=λa M R=>∃d,a=[d]/\aB d=true/\R (.bl (bj d)) M
theorem cb{d:D}{M:DH}{R:D->DH->Prop}:br [d] M R↔aB d=true/\R (.bl (bj d)) M :=
 ⟨λ⟨a,e,h⟩=>by simp only[J8,and_true]at e;rw[e];exact h,λh=>⟨d,rfl,h⟩⟩
def dP:SpD:=br
theorem ir{d:D}{M:DH}{R:D->DH->Prop}:dP [d] M R↔aB d=true/\R (.bl (bj d)) M:=cb
theorem mH:abc.cps.toList=bt:=by rw[gB,av]
theorem gX{bs:List Bool}:n3 (.lst (bs.map D.bl))=some (.bl (bs.all id)):=by
 have b:(bs.map D.bl).all oV=true:=by rw[Q0,F5];intro _ _;rfl
 have a:(bs.map D.bl).all nT=bs.all id:=by rw[Q0];rfl
 simp only[n3,b,a,if_true]
theorem eU(F:Fun K "is_short_word" "is_short_word" bo f t)(T:Txt g):aS P w K g base CX0 1 f t ["thing"] (spD K 1 br):=by
 have I:=cz.nd;refine F.okR rfl cz (λn A j s H E C=>⟨_,(am (aJ (dB (fD (Tn:="str") (by decide) rfl T.b_isinstance rfl T.b_str (by kernel_rfl) (af 0)) (dB (mh rn rn aj (aN cL rfl T.b_len (by kernel_rfl) (ae (af 0) ak)) (ie rfl T.g_MOST_LETTERS)) (gm (aN (jg rfl) rfl T.b_all (by kernel_rfl) (ae (g6 (ms:=[false]) (aq:=["letter"]) (aU (n0:=0) rfl (show bq (ag bo) bO _ _=true from by decide +kernel)) rfl (bS (af 0)) (bH (i:=1) (show(bO++_).Nodup from by decide +kernel) rfl rfl) (λ_ _ _ _=>cq) (λ_ _ _ _=>(gc td (af 1) (kB rfl T.g_SMALL_LETTERS) rfl))) ak))))))),λG M R _ p bk=>?_⟩);obtain⟨d,rfl,a,k⟩:=p;refine bk ?_;clear bk;walk_at"";simp only[cM a];cases d with
 |str x =>
  have N:x.length<=1000000:=by simpa[aB]using a
  refine⟨true,rfl,?_⟩;walk_at"";refine⟨_,if_pos (szB _ (by lia)),?_⟩;walk_at"";have o:x.length=x.cps.toList.length:=by show x.cps.size=_;simp
  refine bC (λm=>bC (λz=>?_) (λz=>?_)) (λm=>?_)
  ·refine⟨_,if_pos (szB _ (by lia)),λu=>⟨u,?_⟩⟩;refine bb (λ_=>true) (λd=>match d with|.str y=>.bl (y.cps.toList.all λc=>decide (c∈bt))|_=>.non) (λl=>∃x,l=[none,x]) _ _ _ (λd a l h=>?_) ⟨none,rfl⟩ ?_
   ·obtain⟨L,rfl⟩:=h;obtain⟨c,_,rfl⟩:=E2.mp (show d∈x.cps.toList.map λc=>D.str (tx [c])from a);refine⟨_,rfl,⟨_,rfl⟩,λJ q=>q,λ_ B q=>?_⟩;walk_at"";simp only[ou,L5.injEq,exists_eq_left',Bool.false_xor];rw[show(z8 "abcdefghijklmnopqrstuvwxyz").cps.toList=bt from mH];simpa[av]using q
   ·rw[E1,K9.mpr (λ_ _=>rfl)];have e:(L2.bR x).map (λd=>match d with|.str y=>D.bl (y.cps.toList.all λc=>decide (c∈bt))|_=>.non)=(x.cps.toList.map λc=>decide (c∈bt)).map D.bl:=by
     unfold L2.bR;rw[N1,N1];apply T5;intro c _;simp
    rw[e];refine⟨_,gX,?_⟩;have b:(x.cps.toList.map λc=>decide (c∈bt)).all id=aL x:=by
     unfold aL;rw[Q0,decide_eq_true (by lia:1<=x.length),decide_eq_true (by lia:x.length<=8)];rfl
    rw[b];exact k
  ·have b:bj (.str x)=false:=by simp only[bj,aL,decide_eq_false (by lia:¬ x.length<=8),S6,R1]
   rw[b]at k;exact k
  ·have b:bj (.str x)=false:=by simp only[bj,aL,decide_eq_false (by lia:¬ 1<=x.length),R1]
   rw[b]at k;exact k
 |scr _=>simp[aB]at a
 |ref _=>simp[aB]at a
 |box _ _=>simp[aB]at a
 |_=>exact⟨false,rfl,by simp only[A6,if_false];exact k⟩
theorem jH(F:Fun K "is_mark" "is_mark" dU f t)(T:Txt g)(j:FnD P w K g base "is_short_word" 1 1 br):aS P w K g base CX0 2 f t ["thing"] (spD K 1 dP):=by
 have m:=fE.nd;refine F.okR rfl fE (λe A a s H E h=>⟨_,(am (aJ (qd j h (ae (af 0) ak)))),λl M R _ i bk=>?_⟩);obtain⟨d,rfl,b,k⟩:=i;refine bk ?_;clear bk;walk_at"";exact cb.mpr ⟨b,k⟩
end
section
variable{P:C1}{w:F8}{K:s0}{B:Str->Option o0}{base:C9}{f:A1}{G:B7}
def bQ(x:Str×Int):D:=.tup [.str x.1,.int x.2]
def lw:D->Bool
 |.int _=>true
 |_=>false
def dj:D->Bool
 |.int t=>decide (-99<=t)&&decide (t<=99)
 |_=>false
def cf:D->Bool
 |.tup [a,b]=>bj a&&dj b
 |_=>false
def j5:D->Bool
 |.tup a=>a.all cf
 |_=>false
def kW(f:D->Bool):SpD:=λa M R=>∃d,a=[d]/\aB d=true/\R (.bl (f d)) M
theorem eA{f:D->Bool}{d:D}{M:DH}{R:D->DH->Prop}:kW f [d] M R↔aB d=true/\R (.bl (f d)) M :=
 ⟨λ⟨a,e,h⟩=>by simp only[J8,and_true]at e;rw[e];exact h,λh=>⟨d,rfl,h⟩⟩
def e9:SpD:=kW lw
def gb:SpD:=kW dj
def fV:SpD:=kW cf
def gO:SpD:=kW j5
theorem iu(F:Fun K "is_whole" "is_whole" c7 f G)(T:Txt B):aS P w K B base CX0 1 f G ["thing"] (spD K 1 e9):=by
 have m:=eI.nd;refine F.okR rfl eI (λg A e s H E j=>⟨_,(am (aJ (dB (fD (Tn:="int") (by decide) rfl T.b_isinstance rfl T.b_int (by kernel_rfl) (af 0)) (gm (wg (fD (Tn:="bool") (by decide) rfl T.b_isinstance rfl T.b_bool (by kernel_rfl) (af 0))))))),λl M R _ h bk=>?_⟩);obtain⟨d,rfl,a,k⟩:=h;refine bk ?_;clear bk;walk_at"";simp only[cM a];cases d with
 |int i=>exact⟨true,rfl,by simp only[if_true];exact⟨false,rfl,k⟩⟩
 |bl b=>exact⟨true,rfl,by simp only[if_true];exact⟨true,rfl,k⟩⟩
 |scr _=>simp[aB]at a
 |ref _=>simp[aB]at a
 |box _ _=>simp[aB]at a
 |_=>exact⟨false,rfl,by simp only[A6,if_false];exact k⟩
theorem jP(F:Fun K "is_turn" "is_turn" dE f G)(T:Txt B)(j:FnD P w K B base "is_whole" 1 1 e9):aS P w K B base CX0 2 f G ["thing"] (spD K 1 gb):=by
 have m:=fk.nd;refine F.okR rfl fk (λe A b s H E g=>⟨_,(am (aJ (dB (qd j g (ae (af 0) ak)) (gm (mh rn rn (wx wj (ie rfl T.g_MOST_TURN)) (af 0) (ie rfl T.g_MOST_TURN)))))),λl M R _ i bk=>?_⟩);obtain⟨d,rfl,a,k⟩:=i;refine bk ?_;clear bk;walk_at"";refine eA.mpr ⟨a,?_⟩;walk_at"";simp only[cM a];cases d with
 |int t =>
  simp only[lw,if_true];walk_at"";simp only[dj]at k;refine bC (λh=>?_) (λh=>?_)
  ·rw[decide_eq_true h,Z7]at k;exact k
  ·rw[decide_eq_false h,R1]at k;exact k
 |scr _=>simp[aB]at a
 |ref _=>simp[aB]at a
 |box _ _=>simp[aB]at a
 |_=>simp only[lw,A6,if_false];exact k
theorem nA{ds:List D}(h:¬ ds.length=2):cf (.tup ds)=false:=by
 match ds,h with
 |[],_=>rfl
 |[_],_=>rfl
 |[_,_],h=>exact absurd rfl h
 |_::_::_::_,_=>rfl
theorem jY(F:Fun K "is_sign" "is_sign" dO f G)(T:Txt B)(q:FnD P w K B base "is_tuple_of" 1 2 bZ)(p:FnD P w K B base "is_mark" 2 1 dP)(o:FnD P w K B base "is_turn" 2 1 gb):aS P w K B base CX0 3 f G ["thing"] (spD K 1 fV):=by
 have u:=fe.nd;refine F.okR rfl fe (λn A l s H E j=>⟨_,(am (aJ (dB (qd q j (ae (af 0) (ae aj ak))) (dB (qd p j (ae (cC cB (af 0) aj (λ_ _=>rfl)) ak)) (gm (qd o j (ae (cC cB (af 0) aj (λ_ _=>rfl)) ak))))))),λi M R _ t bk=>?_⟩);obtain⟨d,rfl,e,k⟩:=t;refine bk ?_;clear bk;walk_at"";refine fv.mpr ⟨e,?_⟩;walk_at"";cases d with
 |tup i =>
  by_cases m:i.length=2
  ·match i,m,e,k with
   |[a,b],_,e,k =>
    have g:aB a=true/\aB b=true:=by simpa[aB,cH]using e
    rw[if_pos (by rfl)];walk_at"";refine ir.mpr ⟨g.1,?_⟩;walk_at"";simp only[cf]at k;refine bC (λh=>eA.mpr ⟨g.2,?_⟩) (λh=>?_)
    ·rw[h,Z7]at k;exact k
    ·rw[show bj a=false by simpa using h,R1]at k;exact k
  ·rw[if_neg (by simp only[mP];simp;lia)];rw[nA m]at k;exact k
 |scr _=>simp[aB]at e
 |ref _=>simp[aB]at e
 |box _ _=>simp[aB]at e
 |_=>rw[if_neg (by simp[mP])];exact k
theorem tW{f:D->Bool}{M:DH}{Q:List D->DH->Prop}{ds:List D}{te:TEd}{Δ0:DE}{n:Nat}(b:∀d∈ds,∀x,∀a:D->DH->Prop,a (.bl (f d)) M->te ((Δ0++[x]).set Δ0.length (some d)) M a)
  (h:Q ((ds.map f).map D.bl) M):bG (fH Δ0.length) n8 te ds (Δ0++[none]) M [] Q:=by
 refine bb (λ_=>true) (λd=>.bl (f d)) (λg=>∃x,g=Δ0++[x]) _ _ _ (λd i g e=>?_) ⟨none,rfl⟩ ?_
 ·obtain⟨x,rfl⟩:=e;refine⟨_,rfl,⟨some d,by simp⟩,λj q=>q,λ_ a q=>b d i x a q⟩
 ·rw[E1,K9.mpr (λ_ _=>rfl)];rw[N1]at h;exact h
theorem kY(F:Fun K "is_row" "is_row" dh f G)(T:Txt B)(l:FnD P w K B base "is_sign" 3 1 fV):aS P w K B base CX0 4 f G ["thing"] (spD K 1 gO):=by
 have z:=fX.nd;refine F.okR rfl fX (λm A h s H E o=>⟨_,(am (aJ (dB (fD (Tn:="tuple") (by decide) rfl T.b_isinstance rfl T.b_tuple (by kernel_rfl) (af 0)) (gm (aN (jg rfl) rfl T.b_all (by kernel_rfl) (ae (g6 (ms:=[false]) (aq:=["sign"]) (aU (n0:=0) rfl (show bq (ag dh) eM _ _=true from by decide +kernel)) rfl (bS (af 0)) (bH (i:=1) (show(eM++_).Nodup from by decide +kernel) rfl rfl) (λ_ _ _ _=>cq) (λ_ _ _ _=>(qd l o (ae (af 1) ak)))) ak)))))),λb M R _ p bk=>?_⟩);obtain⟨d,rfl,a,k⟩:=p;refine bk ?_;clear bk;walk_at"";simp only[cM a];cases d with
 |tup b =>
  refine⟨true,rfl,?_⟩;walk_at"";have j:∀d∈b,aB d=true:=eP.mp (by simpa[aB]using a);intro t;refine⟨t,tW (f:=cf) (Δ0:=[none]) (n:=1) (λd g x u q=>?_) ?_⟩
  ·walk_at"";exact eA.mpr ⟨j d g,q⟩
  ·refine⟨_,gX,?_⟩;have e:(b.map cf).all id=j5 (.tup b):=by
    simp only[j5,Q0];rfl
   rw[e];exact k
 |scr _=>simp[aB]at a
 |ref _=>simp[aB]at a
 |box _ _=>simp[aB]at a
 |_=>exact⟨false,rfl,by simp only[A6,if_false];exact k⟩
theorem lx{w:Str}(h:bw w):aL w=true:=by
 obtain⟨f,g,b⟩:=h;have e:w.length=w.cps.toList.length:=by show w.cps.size=_;simp
 unfold aL;rw[decide_eq_true (by lia:1<=w.length),decide_eq_true (by lia:w.length<=8),Z7,Z7,F5];intro c a;have:=b c a;unfold eK at this;rw[decide_eq_true_eq];unfold bt;rw[List.mem_range'_1]
 lia
theorem u0{n:Int}{row:List (Str×Int)}(e:n<=99)(h:∀x∈row,bw x.1/\-n<=x.2/\x.2<=n):j5 (.tup (row.map bQ))=true:=by
 simp only[j5,Q0,F5];intro x b;obtain⟨a,g,f⟩:=h x b;simp only[Function.comp,bQ,cf,bj,lx a,dj,decide_eq_true (by lia:-99<=x.2),decide_eq_true (by lia:x.2<=99),Bool.and_self]
theorem mJ:(z8 ".":Str)=tx [46]:=by decide +kernel
theorem s_r:(z8 "r":Str)=tx [114]:=by decide +kernel
theorem s_l:(z8 "l":Str)=tx [108]:=by decide +kernel
theorem rL:(z8 " ":Str)=tx [32]:=by decide +kernel
theorem tE:(z8 "1":Str)=tx [49]:=by decide +kernel
def sgn(t:Int):List Nat:=if 0<t then 46::z5 t.toNat 114 else if t<0 then 46::z5 (-t).toNat 108 else[]
def aK(x:Str×Int):Str:=tx (x.1.cps.toList++sgn x.2)
theorem bx(x:Str):x.length=x.cps.toList.length:=by show x.cps.size=_;simp
theorem eO{c:Nat}{n:Int}(a:0<=n)(b:n<=1000):ma (.str (tx [c])) (.int n)=some (.str (tx (z5 n.toNat c))):=by
 obtain⟨m,rfl⟩:=Int.eq_ofNat_of_zero_le a;have e:ma (.str (tx [c])) (.int (m:Int))=if(tx [c]).length<=16777216/\-(2 ^ 63)<=(m:Int)/\(m:Int)<=16777216/\(tx [c]).length*(m:Int).toNat<=16777216 then some (.str (Txt.mul (tx [c]) (m:Int)))else none:=rfl
 rw[e,if_pos (by rw[aA];simp;lia),lH];simp
theorem vr(x:Str)(l:List Nat):x++tx l=tx (x.cps.toList++l):=by
 rw[<-gV,<-p7]
def iq(row:List (Str×Int)):Str:=if row=[]then tx [49]else N0 ⟨#[32]⟩ (row.map aK)
def oN(row:List (Str×Int)):Prop:=row.length<=2000/\∀x∈row,x.1.length<=8/\-99<=x.2/\x.2<=99
theorem je{x:Str×Int}(h:x.1.length<=8/\-99<=x.2/\x.2<=99):(aK x).length<=200:=by
 have:=bx x.1;unfold aK sgn;rw[aA,C6]
 split
 ·simp only[C6,B6,K5,E5];lia
 ·split
  ·simp only[C6,B6,K5,E5];lia
  ·simp only[C6,B6,K5,E5];lia
theorem qg{ys:List Str}(h:∀y∈ys,y.length<=200):(ys.map (·.length)).sum<=ys.length*200:=by
 induction ys with
 |nil=>simp
 |cons y ys ih =>
  have b:=h y (by simp);have e:=ih λz a=>h z (B4 _ a);simp only[B5,List.sum_cons,B6,Nat.add_mul]
  lia
theorem md{row:List (Str×Int)}(h:oN row):i2 (tx [32]) (.lst ((row.map aK).map D.str))=some (.str (N0 ⟨#[32]⟩ (row.map aK))):=by
 simp only[i2,eT];have:=qg (ys:=row.map aK) λy a=>by
  obtain⟨x,b,rfl⟩:=E2.mp a;exact je (h.2 x b)
 rw[J4]at this;have e:=h.1;rw[if_pos (by rw[aA,J4];simp only[B6,K5];lia)];unfold ac3;rw[StrLaws.glued_eq_join];rfl
def bT(x:Str):D:=if 0<x.length/\S5 x (tx [114])=(x.length:Int)then .int x.length else if 0<x.length/\S5 x (tx [108])=(x.length:Int)then .int (-(x.length:Int))else .non
def dY:SpD:=λa M R=>∃x:Str,a=[.str x]/\x.length<=1000000/\R (bT x) M
theorem ix{x:Str}{M:DH}{R:D->DH->Prop}:dY [.str x] M R↔x.length<=1000000/\R (bT x) M :=
 ⟨λ⟨r,e,h⟩=>by simp only[J8,D.str.injEq,and_true]at e;rw[e];exact h,λh=>⟨x,rfl,h⟩⟩
theorem jW(F:Fun K "turn_in" "turn_in" dF f G)(T:Txt B):aS P w K B base CX0 1 f G ["letters"] (spD K 1 dY):=by
 have n:=fC.nd;refine F.okR rfl fC (λl A b s H E h=>⟨_,(ah (aI (i:=1) n rfl (J6 rfl) (aN cL rfl T.b_len (by kernel_rfl) (ae (af 0) ak)))
   (ah (a7 (nM (ot (aH lQ (af 1) aj nbh) (mX (aH (eG h.units) (jl (af 0) ao) (af 1) nbh)))) (am (aJ (af 1))) aO)
   (ah (a7 (nM (ot (aH lQ (af 1) aj nbh) (mX (aH (eG h.units) (jl (af 0) ao) (af 1) nbh)))) (am (aJ (wx wj (af 1)))) aO)
   (am (aJ bM))))),λo M R _ m bk=>?_⟩)
 obtain⟨x,rfl,p,k⟩:=m;refine bk ?_;clear bk;walk_at"";simp only[s_r,s_l];refine⟨_,if_pos (szB _ (by lia)),?_⟩;walk_at"";unfold bT at k
 by_cases g:0<x.length
 ·have a:(0:Int)<(x.length:Int):=by lia
  simp only[g,a,true_and,if_true,beq_iff_eq]at k ⊢
  by_cases e:S5 x (tx [114])=(x.length:Int)
  ·simp only[e,if_true]at k ⊢;exact k
  ·simp only[e,if_false]at k ⊢
   by_cases j:S5 x (tx [108])=(x.length:Int)
   ·simp only[j,if_true]at k ⊢;exact k
   ·simp only[j,if_false]at k ⊢;exact k
 ·have a:¬ (0:Int)<(x.length:Int):=by lia
  simp only[g,a,false_and,if_false]at k ⊢;exact k
def aY(x:Str):D:=match J7 x (tx [46])with
 |[_]=>.tup [.str x,.int 0]
 |[a,b]=>.tup [.str a,bT b]
 |_=>.non
def du:SpD:=λa M R=>∃x:Str,a=[.str x]/\x.length<=1000000/\R (aY x) M
theorem iI{x:Str}{M:DH}{R:D->DH->Prop}:du [.str x] M R↔x.length<=1000000/\R (aY x) M :=
 ⟨λ⟨r,e,h⟩=>by simp only[J8,D.str.injEq,and_true]at e;rw[e];exact h,λh=>⟨x,rfl,h⟩⟩
theorem dH{x y p:Str}(h:p∈J7 x y):p.length<=x.length:=part_short h
theorem jj(F:Fun K "sign_in" "sign_in" dn f G)(T:Txt B)(m:FnD P w K B base "turn_in" 1 1 dY):aS P w K B base CX0 2 f G ["text"] (spD K 1 du):=by
 have n:=fq.nd;refine F.okR rfl fq (λj A h s H E g=>⟨_,(ah (aI (i:=1) n rfl (J6 rfl) (gx (af 0) ao))
   (ah (a7 (aH (eG g.units) (aN cL rfl T.b_len (by kernel_rfl) (ae (af 1) ak)) aj nbh) (am (aJ (e6 (ae (af 0) (ae aj ak))))) aO)
   (ah (a7 (aH (eG g.units) (aN cL rfl T.b_len (by kernel_rfl) (ae (af 1) ak)) aj nbh) (am (aJ (e6 (ae (cC cB (af 1) aj (λ_ _=>rfl)) (ae (qd m g (ae (cC cB (af 1) aj (λ_ _=>rfl)) ak)) ak))))) aO)
   (am (aJ bM))))),λt M R _ l bk=>?_⟩)
 obtain⟨x,rfl,u,k⟩:=l;refine bk ?_;clear bk;walk_at"";simp only[mJ];refine⟨by rw[aA];rfl,szB _ (by lia),?_⟩;unfold aY at k;have e:∀p∈J7 x (tx [46]),p.length<=x.length:=λp q=>dH q;rw[J4];generalize J7 x (tx [46])=o at k e
 match o,k,e with
 |[],k,_ =>
  simp only[K5];rw[if_neg (by decide),if_neg (by decide)];exact k
 |[a],k,_ =>
  simp only[B6,K5];rw[if_pos (by decide)];exact⟨sz3 2,k⟩
 |[a,b],k,e =>
  simp only[B6,K5];rw[if_neg (by decide),if_pos (by decide)];walk_at"";have:=e b (by simp);exact ix.mpr ⟨by lia,sz3 2,k⟩
 |a::b::c::r,k,_ =>
  simp only[B6];rw[if_neg (by simp;lia),if_neg (by simp;lia)];exact k
theorem kJ{x:Str}:aB (bT x)=true:=by
 unfold bT
 split
 ·rfl
 ·split<;>rfl
theorem j4{x:Str}(g:x.length<=1000000):aB (aY x)=true:=by
 unfold aY;have e:∀p∈J7 x (tx [46]),p.length<=x.length:=λp h=>dH h;generalize J7 x (tx [46])=f at e
 match f,e with
 |[],_=>rfl
 |[a],_=>simp only[aB,cH,decide_eq_true g,Bool.and_self]
 |[a,b],e =>
  have:=e a (by simp);simp only[aB,cH,decide_eq_true (by lia:a.length<=1000000),kJ,Bool.and_self]
 |a::b::c::r,_=>rfl
def e8(x:Str):D:=if x=tx [49]then .tup []else if j5 (.tup ((J7 x (tx [32])).map aY))=true then .tup ((J7 x (tx [32])).map aY)else .non
def cZ:SpD:=λa M R=>∃x:Str,a=[.str x]/\x.length<=1000000/\R (e8 x) M
theorem fh{x:Str}{M:DH}{R:D->DH->Prop}:cZ [.str x] M R↔x.length<=1000000/\R (e8 x) M :=
 ⟨λ⟨r,e,h⟩=>by simp only[J8,D.str.injEq,and_true]at e;rw[e];exact h,λh=>⟨x,rfl,h⟩⟩
theorem kq(F:Fun K "row_in" "row_in" cW f G)(T:Txt B)(C:FnD P w K B base "sign_in" 2 1 du)(O:FnD P w K B base "is_row" 4 1 gO):aS P w K B base CX0 5 f G ["text"] (spD K 1 cZ):=by
 have J:=fZ.nd;refine F.okR rfl fZ (λz A m s H E g=>⟨_,(ah (a7 (aH (eG g.units) (af 0) (kB rfl T.g_NO_SIGNS) nbh) (am (aJ (e6 ak))) aO)
   (ah (aI (i:=1) J rfl (J6 rfl) (kH m4 rfl T.b_tuple (by kernel_rfl) (ae (g6 (ms:=[false,false]) (aq:=["part"]) (aU (n0:=0) rfl (show bq (ag cW) eS _ _=true from by decide +kernel)) rfl (bS (gx (af 0) ao)) (bH (i:=2) (show(eS++_).Nodup from by decide +kernel) rfl rfl) (λ_ _ _ _=>cq) (λ_ _ _ _=>(qd C g (ae (af 2) ak)))) ak)))
   (am (aJ (uf (dJ (qd O g (ae (af 1) ak))) (af 1) bM))))),λS M R _ I bk=>?_⟩)
 obtain⟨x,rfl,N,k⟩:=I;refine bk ?_;clear bk;walk_at"";simp only[rL,tE];unfold e8 at k;refine bC (λh=>?_) (λh=>?_)
 ·rw[if_pos (by simpa using h)]at k;exact⟨sz3 0,k⟩
 ·rw[if_neg (by simpa using h)]at k;refine⟨by rw[aA];rfl,szB _ (by lia),?_⟩;intro o;refine⟨o,?_⟩;have a:∀p∈J7 x (tx [32]),p.length<=1000000:=λp L=>E7 (dH L) N;generalize J7 x (tx [32])=t at k a o;refine bb (λ_=>true) (λd=>match d with|.str y=>aY y|_=>.non) (λu=>∃n,u=[none,none,n]) _ _ _ (λd b u j=>?_) ⟨none,rfl⟩ ?_
  ·obtain⟨n,rfl⟩:=j;obtain⟨y,l,rfl⟩:=E2.mp b;refine⟨_,rfl,⟨_,rfl⟩,λU q=>q,λ_ Q q=>?_⟩;walk_at"";exact iI.mpr ⟨a y l,q⟩
  ·rw[E1,K9.mpr (λ_ _=>rfl),N1];have e:t.map ((λd=>match d with|.str y=>aY y|_=>.non)∘D.str)=t.map aY:=rfl;rw[e];refine eA.mpr ⟨?_,_,rfl,?_⟩
   ·rw[aB,eP];intro d b;obtain⟨y,l,rfl⟩:=E2.mp b;exact j4 (a y l)
   ·refine bC (λh=>?_) (λh=>?_)
    ·rw[if_pos h]at k;exact k
    ·rw[if_neg h]at k;exact k
theorem qm{t:Int}{c:Nat}(h:c∈sgn t):c=46∨c=114∨c=108:=by
 unfold sgn at h
 split at h
 ·rcases A5.mp h with h|h
  ·exact .inl h
  ·exact .inr (.inl (L4 h))
 ·split at h
  ·rcases A5.mp h with h|h
   ·exact .inl h
   ·exact .inr (.inr (L4 h))
  ·cases h
theorem oR{x:Str×Int}(h:bw x.1):32∉(aK x).cps.toList:=by
 unfold aK;rw[av];intro a;rcases D9.mp a with a|a
 ·have:=h.2.2 _ a;unfold eK at this;lia
 ·have:=qm a;lia
theorem jq{x:Str×Int}(h:bw x.1)(m:-99<=x.2)(s:x.2<=99):aY (aK x)=bQ x:=by
 obtain⟨a,t⟩:=x;have j:46∉a.cps.toList:=λi=>by have:=h.2.2 _ i;unfold eK at this;lia
 have two:∀l:List Nat,46∉l->J7 (tx (a.cps.toList++46::l)) (tx [46])=[a,tx l]:=λl f=>by
  have e:tx (a.cps.toList++46::l)=N0 ⟨#[46]⟩ [a,tx l]:=by
   apply eB;rw[bX,av];show _=a.cps.toList++46::(tx l).cps.toList;rw[av]
  rw[e];refine cy (by simp) λp g=>?_;simp only[A5,N3,or_false]at g;rcases g with rfl|rfl
  ·exact j
  ·rw[av];exact f
 have b:∀(c:Nat) (l:List Nat),S5 (tx l) (tx [c])=cnt c l:=λc l=>by
  have:=L2.fT (tx l) c;rw[av]at this;exact this
 simp only at m s
 by_cases g:0<t
 ·have e:aK (a,t)=tx (a.cps.toList++46::z5 t.toNat 114):=by simp[aK,sgn,g]
  have f:((tx (z5 t.toNat 114)).length:Int)=t:=by rw[aA,E5];lia
  unfold aY;rw[e,two _ (by intro i;have:=L4 i;lia)];show D.tup [.str a,bT (tx (z5 t.toNat 114))]=_;unfold bT;rw[if_pos ⟨by lia,by rw[b,gy,f];simp;lia⟩,f];rfl
 ·by_cases q:t<0
  ·have e:aK (a,t)=tx (a.cps.toList++46::z5 (-t).toNat 108):=by simp[aK,sgn,g,q]
   have f:((tx (z5 (-t).toNat 108)).length:Int)=-t:=by rw[aA,E5];lia
   unfold aY;rw[e,two _ (by intro i;have:=L4 i;lia)];show D.tup [.str a,bT (tx (z5 (-t).toNat 108))]=_;unfold bT;rw[if_neg (by rintro⟨_,z⟩;rw[b,gy,f]at z;simp at z;lia),if_pos ⟨by lia,by rw[b,gy,f];simp;lia⟩,f];show D.tup [.str a,.int (- -t)]=D.tup [.str a,.int t];rw[Int.neg_neg]
  ·have n:t=0:=by lia
   subst n;have e:aK (a,0)=a:=by
    simp only[aK,sgn];simp;exact(p7 a).symm
   have o:J7 a (tx [46])=[a]:=cy (ps:=[a]) (by simp) λp g=>by
    have:p=a:=by simpa using g
    subst this;exact j
   unfold aY;rw[e,o];rfl
theorem lE{row:List (Str×Int)}(h:∀x∈row,bw x.1/\-99<=x.2/\x.2<=99):e8 (iq row)=.tup (row.map bQ):=by
 by_cases g:row=[]
 ·subst g;rfl
 ·have a:J7 (iq row) (tx [32])=row.map aK:=by
   unfold iq;rw[if_neg g];refine cy (by simpa using g) λp j=>?_;obtain⟨x,f,rfl⟩:=E2.mp j;exact oR (h x f).1
  have b:(row.map aK).map aY=row.map bQ:=by
   rw[N1];apply T5;intro x f;exact jq (h x f).1 (h x f).2.1 (h x f).2.2
  unfold e8;rw[if_neg,a,b,if_pos (u0 (by decide) h)];intro e;rw[e]at a;have o:J7 (tx [49]) (tx [32])=[tx [49]]:=cy (c:=32) (ps:=[tx [49]]) (by simp) λp j=>by
   have:p=tx [49]:=by simpa using j
   subst this;rw[av];simp
  rw[o]at a;cases row with
  |nil=>exact g rfl
  |cons x r =>
   simp only[B5,J8]at a;have m:=(h x (by simp)).1;have n:[49]=x.1.cps.toList++sgn x.2:=by
    have:=congrArg (λz:Str=>z.cps.toList) a.1;simpa[aK,av]using this
   have l:=m.1;cases i:x.1.cps.toList with
   |nil=>rw[i]at l;simp at l
   |cons c q =>
    rw[i]at n;simp at n;have:=m.2.2 c (by rw[i];simp);unfold eK at this
    lia
def pcs(c:Nat):List Nat->List (List Nat)
 |[]=>[[]]
 |d::l=>if d=c then[]::pcs c l else match pcs c l with
  |[]=>[[d]]
  |p::r=>(d::p)::r
theorem jV(c:Nat):∀l:List Nat,pcs c l≠[]
 |[]=>by simp[pcs]
 |d::l=>by
  unfold pcs
  split
  ·simp
  ·cases pcs c l<;>simp
theorem bz{c:Nat}{l:List Nat}:pcs c (c::l)=[]::pcs c l:=by
 rw[pcs,if_pos rfl]
theorem bD{c d:Nat}{l p:List Nat}{r:List (List Nat)}(h:d≠c)(e:pcs c l=p::r):pcs c (d::l)=(d::p)::r:=by
 rw[pcs,if_neg h,e]
theorem cT(c:Nat)(l:List Nat):∃p r,pcs c l=p::r:=by
 cases e:pcs c l with
 |nil=>exact absurd e (jV c l)
 |cons p r=>exact⟨p,r,rfl⟩
theorem lR{c:Nat}:∀{l:List Nat},∀p∈pcs c l,c∉p
 |[],p,a=>by simp[pcs]at a;subst a;simp
 |d::l,p,a=>by
  by_cases h:d=c
  ·subst h;rw[bz]at a;rcases A5.mp a with rfl|a
   ·simp
   ·exact lR p a
  ·obtain⟨q,r,e⟩:=cT c l;rw[bD h e]at a;have b:=lR (c:=c) (l:=l);rw[e]at b;rcases A5.mp a with rfl|a
   ·intro f;rcases A5.mp f with z|z
    ·exact h z.symm
    ·exact b q (.head _) z
   ·exact b p (.tail _ a)
theorem cE{c:Nat}:∀{a b:List Nat},pcs c (a++c::b)=pcs c a++pcs c b
 |[],b=>by rw[E1,bz];rfl
 |d::a,b=>by
  have ih:=cE (c:=c) (a:=a) (b:=b);rw[S8]
  by_cases h:d=c
  ·subst h;rw[bz,bz,ih];rfl
  ·obtain⟨p,r,e⟩:=cT c a;rw[e]at ih;rw[bD h e,bD h (show pcs c (a++c::b)=p::(r++pcs c b)from ih)];rfl
theorem kK{c:Nat}:∀{l:List Nat},c∉l->pcs c l=[l]
 |[],_=>rfl
 |d::l,h=>by
  rw[A5,not_or]at h;exact bD (N6 h.1) (kK h.2)
theorem gz{c d:Nat}(f:d≠c):∀{l:List Nat},d∈l->∃p∈pcs c l,d∈p
 |e::l,h=>by
  by_cases g:e=c
  ·subst g;rcases A5.mp h with z|z
   ·exact absurd z f
   ·obtain⟨p,a,b⟩:=gz f z;exact⟨p,by rw[bz];exact .tail _ a,b⟩
  ·obtain⟨q,r,i⟩:=cT c l;rw[bD g i];rcases A5.mp h with z|z
   ·subst z;exact⟨_,.head _,.head _⟩
   ·obtain⟨p,a,b⟩:=gz f z;rw[i]at a;rcases A5.mp a with y|y
    ·subst y;exact⟨_,.head _,.tail _ b⟩
    ·exact⟨p,.tail _ y,b⟩
theorem gI{c:Nat}:∀(l:List Nat),(N0 ⟨#[c]⟩ ((pcs c l).map tx)).cps.toList=l
 |[]=>rfl
 |d::l=>by
  have ih:=gI (c:=c) l;obtain⟨p,r,e⟩:=cT c l;rw[e]at ih
  by_cases h:d=c
  ·subst h;rw[bz,e];rw[B5,B5,bX,av,E1];rw[B5]at ih;rw[ih]
  ·rw[bD h e];cases r with
   |nil =>
    rw[B5,List.map_nil]at ih ⊢;have b:(N0 ⟨#[c]⟩ [tx (d::p)])=tx (d::p):=rfl;have a:(N0 ⟨#[c]⟩ [tx p])=tx p:=rfl;rw[a,av]at ih;rw[b,av,ih]
   |cons q r =>
    rw[B5,B5,bX,av]at ih ⊢;rw[S8,ih]
theorem cm{x:Str}{c:Nat}:J7 x (tx [c])=(pcs c x.cps.toList).map tx:=by
 have h:x=N0 ⟨#[c]⟩ ((pcs c x.cps.toList).map tx):=eB (gI _).symm;refine(congrArg (λz=>J7 z (tx [c])) h).trans ?_;refine cy (by simpa using jV c _) λp b=>?_;obtain⟨q,a,rfl⟩:=E2.mp b;rw[av];exact lR q a
def sgW(p:List Nat):Option (Str×Int):=match pcs 46 p with
 |[a]=>if aL (tx a)=true then some (tx a,0)else none
 | [a,b] => if aL (tx a) = true ∧ 1 ≤ b.length ∧ b.length ≤ 99 then
   (if b=z5 b.length 114 then some (tx a,(b.length:Int))else if b=z5 b.length 108 then some (tx a,-(b.length:Int))else none)else none
 |_=>none
def cj(l:List Nat):Bool:=decide (l=[49]) || (pcs 32 l).all λp=>(sgW p).isSome
def kz(l:List Nat):List (Str×Int):=if l=[49]then[]else(pcs 32 l).filterMap sgW
def oSg:Option (Str×Int)->D
 |none=>.non
 |some x=>bQ x
theorem oK{c:Nat}:∀{l:List Nat},S9 c l<=(l.length:Int)
 |[]=>by rw[PyProof.Rows.cnt_nil];simp
 |d::l=>by
  have:=oK (c:=c) (l:=l);rw[PyProof.Rows.cnt_cons,B6]
  split<;>lia
theorem nc{c:Nat}:∀{l:List Nat},S9 c l=(l.length:Int)↔l=z5 l.length c
 |[]=>by rw[PyProof.Rows.cnt_nil];simp
 |d::l=>by
  have ih:=nc (c:=c) (l:=l);have le:=oK (c:=c) (l:=l);rw[PyProof.Rows.cnt_cons,B6,E6,J8,<-ih]
  by_cases h:d=c
  ·rw[if_pos h];constructor
   ·intro z;exact⟨h,by lia⟩
   ·rintro⟨_,z⟩;lia
  ·rw[if_neg h];constructor
   ·intro z;lia
   ·rintro⟨z,_⟩;exact absurd z h
theorem sH{b:List Nat}:bT (tx b)=if 1<=b.length/\b=z5 b.length 114 then .int b.length else if 1<=b.length/\b=z5 b.length 108 then .int (-(b.length:Int))else .non:=by
 have e:∀c,S5 (tx b) (tx [c])=((tx b).length:Int)↔b=z5 b.length c:=λc=>by
  have h:=L2.fT (tx b) c;rw[av]at h;rw[show S5 (tx b) (tx [c])=S9 c b from h,aA];exact nc
 unfold bT;rw[aA]at *
 simp only[e];rfl
theorem qC{p:List Nat}:aY (tx p)=match pcs 46 p with
 |[_]=>.tup [.str (tx p),.int 0]
 |[a,b]=>.tup [.str (tx a),bT (tx b)]
 |_=>.non:=by
 unfold aY;rw[cm,av]
 match pcs 46 p with
 |[]=>rfl
 |[_]=>rfl
 |[_,_]=>rfl
 |_::_::_::_=>rfl
theorem ke{p:List Nat}:cf (aY (tx p))=(sgW p).isSome/\∀x,sgW p=some x->aY (tx p)=bQ x:=by
 rw[qC];unfold sgW;cases e:pcs 46 p with
 |nil=>exact⟨rfl,λ_ h=>by cases h⟩
 |cons a r =>
  cases r with
  |nil =>
   have m:a=p:=by
    have h:=gI (c:=46) p;rw[e]at h;have l:(N0 ⟨#[46]⟩ ([a].map tx))=tx a:=rfl;rw[l,av]at h;exact h
   subst m;simp only[cf,bj,dj]
   by_cases h:aL (tx a)=true
   ·rw[if_pos h,h];exact⟨rfl,λx f=>by cases f;rfl⟩
   ·rw[if_neg h,show aL (tx a)=false by simpa using h];exact⟨rfl,λx f=>by cases f⟩
  |cons b r =>
   cases r with
   |nil =>
    simp only[sH]
    by_cases h:aL (tx a)=true
    ·by_cases i:1<=b.length/\b=z5 b.length 114
     ·rw[if_pos i]
      by_cases g:b.length<=99
      ·rw[if_pos ⟨h,i.1,g⟩,if_pos i.2];refine⟨?_,λx f=>by cases f;rfl⟩;simp[cf,bj,dj,h];lia
      ·rw[if_neg (λz=>g z.2.2)];refine⟨?_,λx f=>by cases f⟩;simp[cf,bj,dj,h];lia
     ·rw[if_neg i]
      by_cases j:1<=b.length/\b=z5 b.length 108
      ·rw[if_pos j]
       by_cases g:b.length<=99
       ·rw[if_pos ⟨h,j.1,g⟩,if_neg (λz=>i ⟨j.1,z⟩),if_pos j.2];refine⟨?_,λx f=>by cases f;rfl⟩;simp[cf,bj,dj,h];lia
       ·rw[if_neg (λz=>g z.2.2)];refine⟨?_,λx f=>by cases f⟩;simp[cf,bj,dj,h];lia
      ·rw[if_neg j]
       by_cases g:1<=b.length/\b.length<=99
       ·rw[if_pos ⟨h,g⟩,if_neg (λz=>i ⟨g.1,z⟩),if_neg (λz=>j ⟨g.1,z⟩)];exact⟨by simp[cf,bj,dj],λx f=>by cases f⟩
       ·rw[if_neg (λz:aL (tx a)=true/\_=>g z.2)];exact⟨by simp[cf,bj,dj],λx f=>by cases f⟩
    ·rw[if_neg (λz:aL (tx a)=true/\_=>h z.1)];refine⟨?_,λx f=>by cases f⟩;simp[cf,bj,h]
   |cons c r=>exact⟨rfl,λ_ h=>by cases h⟩
theorem gQ{x:Str}:e8 x=if cj x.cps.toList=true then .tup ((kz x.cps.toList).map bQ)else .non:=by
 have f:x=tx [49]↔x.cps.toList=[49]:=⟨λh=>by rw[h,av],λh=>eB (by rw[h,av])⟩;unfold e8 cj kz
 by_cases h:x.cps.toList=[49]
 ·rw[if_pos (f.mpr h),decide_eq_true h,Bool.true_or,if_pos rfl,if_pos h];rfl
 ·rw[if_neg (λz=>h (f.mp z)),decide_eq_false h,Z8,if_neg h,cm];generalize pcs 32 x.cps.toList=b;have e:j5 (.tup ((b.map tx).map aY))=b.all λp=>(sgW p).isSome:=by
   simp only[j5];rw[Q0,Q0];congr 1;funext p;exact ke.1
  rw[e]
  by_cases a:(b.all λp=>(sgW p).isSome)=true
  ·rw[if_pos a,if_pos a];congr 1;clear e
   induction b with
   |nil=>rfl
   |cons p b ih =>
    rw[P1,B2]at a;obtain⟨x,g⟩:=E8.mp a.1;rw[B5,B5,ih a.2,K7,g,ke.2 x g];rfl
  ·rw[if_neg a,if_neg a]
def bc(c:Nat):Bool:=!(decide (97<=c)&&decide (c<=122))&&decide (c≠46)&&decide (c≠32)
theorem fJ{a:List Nat}(h:aL (tx a)=true):a≠[]/\∀c∈a,97<=c/\c<=122:=by
 unfold aL at h;rw[B2,B2,aA,decide_eq_true_eq,av,F5]at h;refine⟨by rintro rfl;simp at h,λc b=>?_⟩;have:=h.2 c b;rw[decide_eq_true_eq]at this;unfold bt at this;rw[List.mem_range'_1]at this
 lia
theorem sJ{p:List Nat}{c:Nat}(h:c∈p)(i:bc c=true):sgW p=none:=by
 simp only[bc,B2,Bool.not_eq_true',Bool.and_eq_false_iff,decide_eq_false_iff_not,decide_eq_true_eq]at i;obtain⟨⟨l,j⟩,_⟩:=i;obtain⟨q,g,f⟩:=gz j h;unfold sgW;cases e:pcs 46 p with
 |nil=>rfl
 |cons a r =>
  rw[e]at g;cases r with
  |nil =>
   rw[D6.mp g]at f;show(if aL (tx a)=true then _ else _)=_;refine if_neg λz=>?_;have:=(fJ z).2 c f
   lia
  |cons b r =>
   cases r with
   |nil =>
    show(if aL (tx a)=true/\1<=b.length/\b.length<=99 then _ else _)=_
    by_cases z:aL (tx a)=true/\1<=b.length/\b.length<=99
    ·rw[if_pos z];rcases A5.mp g with y|y
     ·subst y;have:=(fJ z.1).2 c f
      lia
     ·rw[D6.mp y]at f;rw[if_neg (λw=>by rw[w]at f;have:=L4 f;lia),if_neg (λw=>by rw[w]at f;have:=L4 f;lia)]
    ·rw[if_neg z]
   |cons _ _=>rfl
theorem aZ{l p:List Nat}(a:l≠[49])(b:p∈pcs 32 l)(f:sgW p=none):cj l=false:=by
 unfold cj;rw[decide_eq_false a,Z8];cases e:(pcs 32 l).all λp=>(sgW p).isSome with
 |false=>rfl
 |true =>
  have:=F5.mp e p b;rw[f]at this;cases this
theorem bV{l:List Nat}{c:Nat}(h:c∈l)(a:c≠49):l≠[49]:=by
 rintro rfl;exact a (D6.mp h)
theorem dA{l:List Nat}{c:Nat}(h:c∈l)(a:bc c=true)(e:l≠[49]):cj l=false:=by
 have b:c≠32:=by
  simp only[bc,B2,decide_eq_true_eq]at a;exact a.2
 obtain⟨p,g,f⟩:=gz b h;exact aZ e g (sJ f a)
theorem mK:sgW []=none:=by decide +kernel
theorem mB{u v:List Nat}:cj (u++32::32::v)=false :=
 aZ (bV (c:=32) (by simp) (by decide)) (p:=[]) (by rw[cE,bz];simp) mK
theorem sy{u:List Nat}:cj (u++[32])=false :=
 aZ (bV (c:=32) (by simp) (by decide)) (p:=[]) (by rw[cE];simp[pcs]) mK
theorem sO{w:List Nat}:sgW (w++[46])=none:=by
 unfold sgW;have e:pcs 46 (w++[46])=pcs 46 w++[[]]:=by rw[cE];rfl
 rw[e]
 match pcs 46 w with
 |[]=>decide +kernel
 |[a] =>
  show(if aL (tx a)=true/\1<=([]:List Nat).length/\_ then _ else _)=_;exact if_neg λz=>by simp at z
 |[_,_]=>rfl
 |_::_::_::_=>rfl
theorem pL{w:List Nat}:sgW (46::w)=none:=by
 unfold sgW;rw[bz]
 match pcs 46 w with
 |[]=>decide +kernel
 |[a] =>
  show(if aL (tx [])=true/\_ then _ else _)=_;exact if_neg λz=>(fJ z.1).1 rfl
 |_::_::_=>rfl
theorem oP{c:Nat}{w:List Nat}(a:c≠46):sgW (c::46::46::w)=none:=by
 unfold sgW;rw[bD (p:=[]) (r:=pcs 46 (46::w)) a bz,bz]
 match pcs 46 w,jV 46 w with
 |[],h=>exact absurd rfl h
 |_::_,_=>rfl
theorem kh{c:Nat}{e:List Nat}(he:c∉e):∀{l:List Nat},∃i w,pcs c l=i++[w]/\pcs c (l++e)=i++[w++e]
 |[]=>⟨[],[],rfl,kK he⟩
 |d::l=>by
  obtain⟨i,w,b,f⟩:=kh he (l:=l);rw[S8]
  by_cases h:d=c
  ·subst h;exact⟨[]::i,w,by rw[bz,b];rfl,by rw[bz,f];rfl⟩
  ·cases i with
   |nil=>exact⟨[],d::w,bD h b,bD h f⟩
   |cons a i=>exact⟨(d::a)::i,w,bD h b,bD h f⟩
def gw(s:List Nat):Bool:=decide (s=[46]) || decide (s.getLast?=some 32) || s.any bc || (match s with
 |32::u=>(pcs 32 u).any λp=>(sgW p).isNone
 |_=>false)
def fB(s:List Nat):Bool:=decide (s=[46]) || decide (s=[97,46,46]) || s.any bc || (decide (s.getLast?=some 32)&&(pcs 32 s.dropLast).any λp=>(sgW p).isNone)
theorem o6{t s:List Nat}(j:∃c∈t,c≠49)(f:gw s=true):cj (t++s)=false:=by
 obtain⟨c,o,g⟩:=j;have b:t++s≠[49]:=bV (D0 _ o) g;unfold gw at f;simp only[Bool.or_eq_true,decide_eq_true_eq]at f;rcases f with((rfl|h)|h)|h
 ·obtain⟨i,w,_,e⟩:=kh (c:=32) (e:=[46]) (by simp) (l:=t);exact aZ b (p:=w++[46]) (by rw[e];simp) sO
 ·obtain⟨u,rfl⟩:∃u,s=u++[32]:=by
   obtain⟨u,z,e⟩:∃u z,s=u++[z]:=by
    cases s with
    |nil=>cases h
    |cons a r=>exact⟨_,_,(List.dropLast_concat_getLast (by simp:a::r≠[])).symm⟩
   subst e;rw[List.getLast?_append]at h;simp at h;exact⟨u,by rw[h]⟩
  rw[<-O0];exact sy
 ·obtain⟨d,m,n⟩:=O6.mp h;exact dA (A4 _ m) n b
 ·split at h
  ·obtain⟨p,q,x⟩:=O6.mp h;refine aZ b (p:=p) (by rw[cE];exact A4 _ q) ?_;simpa using x
  ·cases h
theorem qb{t s:List Nat}(i:∃c∈t,c≠49)(f:fB s=true):cj (s++t)=false:=by
 obtain⟨c,n,g⟩:=i;have b:s++t≠[49]:=bV (A4 _ n) g;obtain⟨p,r,e⟩:=cT 32 t;unfold fB at f;simp only[Bool.or_eq_true,B2,decide_eq_true_eq]at f;rcases f with((rfl|rfl)|h)|⟨h,h2⟩
 ·exact aZ b (p:=46::p) (by rw[List.singleton_append,bD (by decide) e];simp) pL
 ·refine aZ b (p:=97::46::46::p) ?_ (oP (by decide));show _∈pcs 32 (97::46::46::t);rw[bD (by decide) (bD (by decide) (bD (by decide) e))];simp
 ·obtain⟨d,j,l⟩:=O6.mp h;exact dA (D0 _ j) l b
 ·obtain⟨u,rfl⟩:∃u,s=u++[32]:=by
   obtain⟨u,z,e⟩:∃u z,s=u++[z]:=by
    cases s with
    |nil=>cases h
    |cons a r=>exact⟨_,_,(List.dropLast_concat_getLast (by simp:a::r≠[])).symm⟩
   subst e;rw[List.getLast?_append]at h;simp at h;exact⟨u,by rw[h]⟩
  rw[List.dropLast_concat]at h2;obtain⟨q,m,o⟩:=O6.mp h2;refine aZ b (p:=q) ?_ (by simpa using o);rw[O0,List.singleton_append,cE];exact D0 _ m
def jK(s:List Nat):Bool:=decide (s≠[49])&&(pcs 32 s).any λp=>(sgW p).isNone
theorem qt{s:List Nat}(b:jK s=true):cj s=false/\(∀t,cj (t++32::s)=false)/\∀t,cj (s++32::t)=false:=by
 unfold jK at b;rw[B2,decide_eq_true_eq]at b;obtain⟨p,e,f⟩:=O6.mp b.2;have a:sgW p=none:=by simpa using f
 exact⟨aZ b.1 e a,λt=>aZ (bV (c:=32) (by simp) (by decide)) (p:=p) (by rw[cE];exact A4 _ e) a,λt=>aZ (bV (c:=32) (by simp) (by decide)) (p:=p) (by rw[cE];exact D0 _ e) a⟩
theorem pK{b:Type}(f:b->D)(g:∀x,dLe (f x) 59=true){a:List b}:cv (a.map f) 59=true:=by
 rw[gZ];intro d e;obtain⟨x,_,rfl⟩:=E2.mp e;exact g x
theorem lV{e:Type}(l:List e):n3 (.lst (l.map λ_=>D.bl true))=some (.bl true):=by
 have b:(l.map λ_=>D.bl true).all oV=true:=by
  rw[F5];intro d a;obtain⟨_,_,rfl⟩:=E2.mp a;rfl
 have f:(l.map λ_=>D.bl true).all nT=true:=by
  rw[F5];intro d a;obtain⟨_,_,rfl⟩:=E2.mp a;rfl
 simp only[n3,b,f,if_true]
theorem fS{o:Type}{g:GD}{tc:TTd}{te:TEd}{M:DH}{Q:List D->DH->Prop}(j:o->D)(b:o->Bool)(y:o->D)(Ok:DE->Prop):∀(n:List o) (i:DE) (f:List D),
  (∀x∈n,∀ i,Ok i->∃ a,g (j x) i=some a/\Ok a/\(∀u:Bool->DH->Prop,u (b x) M->tc a M u)/\(b x=true->∀t:D->DH->Prop,t (y x) M->te a M t))->Ok i ->
  Q (f++(n.filter b).map y) M->bG g tc te (n.map j) i M f Q
 |[],i,f,_,_,q=>by simpa[bG]using q
 |x::n,i,f,h,p,q=>by
  rw[B5];simp only[bG];obtain⟨a,e,l,w,C⟩:=h x (.head _) i p;refine⟨a,e,w _ ?_⟩;have ih:=λm B=>fS (Q:=Q) j b y Ok n a m (λz A=>h z (.tail _ A)) l B;cases s:b x with
  |true =>
   simp only[if_true];refine C s _ (ih _ ?_);rw[List.filter_cons_of_pos s]at q;simpa using q
  |false =>
   simp only[A6,if_false];refine ih _ ?_;rw[List.filter_cons_of_neg (by simp[s])]at q;exact q
def rdB:D->Bool
 |.str x=>cj x.cps.toList
 |_=>false
def e7:SpD:=λb M R=>∃d:D,b=[d]/\aB d=true/\rdB d=false/\∀a,M a=none->R (xA 0 (some a)) (ay M a (ik "part" a .non))
theorem il(F:Fun K "read_row" "read_row" ck f G)(T:Txt B){o W g:A1}(Y:rN K B o W g){b:B7}(p:aS P w K B base CX0 1 g b ["self","part"] (spF "part" o))(n:cg K b ["self","part"] [])(m:∃C,K.lookup g=some C/\C.cls=D5 "function")(U:FnD P w K B base "row_in" 5 1 cZ):aS P w K B base (CX2 P w [o]) 6 f G ["text"] (spY K 1 e7 [o]):=by
 have S:=bW.nd;refine F.okY rfl bW (λN A u s H E z=>⟨_,(mv (vQ (aI (i:=1) S rfl (J6 rfl) (uf (dJ (fD (Tn:="str") (by decide) rfl T.b_isinstance rfl T.b_str (by kernel_rfl) (af 0))) (qd U z (ae (af 0) ak)) bM)))
   (mv (xM (aH rS (af 1) bM nbh) (oB (xQ 0 rfl Y.p0 p n m (z.mono (by decide)) rfl rfl bM λaa σ H s a x I q L Z O=>uw (i:=0) I rfl q L Z O)) vD)
   (oB (vQ (aJ (af 1)))))),λds M R hl Q=>?_⟩)
 obtain⟨d,rfl,l,J,k⟩:=Q;walk_at"";simp only[cM l];cases d with
 |str x =>
  have X:x.length<=1000000:=by simpa[aB]using l
  refine⟨true,rfl,?_⟩;rw[if_pos rfl];refine fh.mpr ⟨X,?_⟩;simp only[rdB]at J;have e:e8 x=.non:=by rw[gQ,J];rfl
  rw[e];exact bC (λ_ t j=>⟨_,λ_ _ e=>e,k t j⟩) (λh=>absurd rfl h)
 |scr _=>simp[aB]at l
 |ref _=>simp[aB]at l
 |box _ _=>simp[aB]at l
 |_ =>
  refine⟨false,rfl,?_⟩;rw[if_neg (by decide)];exact bC (λ_ t j=>⟨_,λ_ _ e=>e,k t j⟩) (λh=>absurd rfl h)
def c9:SpD:=λa M R=>∃x:Str,a=[.str x]/\x.length<=1000000/\cj x.cps.toList=true/\R (.tup ((kz x.cps.toList).map bQ)) M
theorem iG(F:Fun K "read_row" "read_row" ck f G)(T:Txt B)(n:FnD P w K B base "row_in" 5 1 cZ):aS P w K B base CX0 6 f G ["text"] (spD K 1 c9):=by
 have m:=bW.nd;refine F.okR rfl bW (λb A a s H E g=>⟨_,(ah (aI (i:=1) m rfl (J6 rfl) (uf (dJ (fD (Tn:="str") (by decide) rfl T.b_isinstance rfl T.b_str (by kernel_rfl) (af 0))) (qd n g (ae (af 0) ak)) bM))
   (ah (a7 (aH rS (af 1) bM nbh) (am si) aO)
   (am (aJ (af 1))))),λp M R _ j bk=>?_⟩)
 obtain⟨x,rfl,o,l,k⟩:=j;refine bk ?_;clear bk;walk_at"";refine⟨true,rfl,?_⟩;rw[if_pos rfl];refine fh.mpr ⟨o,?_⟩;have e:e8 x=.tup ((kz x.cps.toList).map bQ):=by rw[gQ,l];rfl
 rw[e];exact bC (λh=>by cases h) (λ_=>k)
def iV(f:A1):SpD:=λe M R=>∃(a b:A1),e=[.ref a,.int 0]/\M a=some (exY [f] 0 (some b) a)/\R (.bl true) M
theorem lz(F:Fun K "_law_alone" "_law_alone" ec f G)(T:Txt B){Q W t:A1}(Y:rN K B Q W t):aS P w K B base CX0 1 f G ["_law_e","_law_sort"] (spD K 2 (iV Q)):=by
 have nd:=gR.nd;refine F.okR rfl gR (λa0 A O s H E U=>⟨_,(ah (aI (i:=2) nd rfl (J6 rfl) (jw (ae (de Y.z rfl T.b_isinstance rfl Y.k_NoText (af 0)) (ae (de Y.z rfl T.b_isinstance rfl Y.k_NoWord (af 0)) (ae (de Y.z rfl T.b_isinstance rfl Y.k_NoLexicon (af 0)) (ae (de Y.z rfl T.b_isinstance rfl Y.k_NoStep (af 0)) ak))))))
   (jd (ah (aI (i:=2) nd rfl (J6 rfl) (lu (af 2) (dQ (ae (de Y.z rfl T.b_isinstance rfl Y.k_NoNumber (af 0)) (ae (de Y.z rfl T.b_isinstance rfl Y.k_NoDrawing (af 0)) (ae (de Y.z rfl T.b_isinstance rfl Y.k_NoWorld (af 0)) (ae (de Y.z rfl T.b_isinstance rfl Y.k_NoRow (af 0)) ak)))))))
   (ah (jL (mN (af 2) (de Y.z rfl T.b_isinstance rfl Y.k_NoKept (af 0))))
   (am (jn (dB (vC Y.z rfl T.b_isinstance rfl T.b_ValueError rfl Y.k_ValueError (af 0)) (gm (gc (eG U.units) (af 2) (g6 (ms:=[false,true,false]) (aq:=["_law_k"]) (aU rfl (show bq (ag ec) fK _ _=true from by decide +kernel)) rfl (fF rfl T.b_range (ae aj ak)) (bH (i:=3) (show(fK++_).Nodup from by decide +kernel) rfl rfl) (λ_ _ _ _=>cq) (λ_ _ _ _=>(gc (eG U.units) (af 3) (af 1) nbh))) nbh))))))))),λds M R _ hS bk=>?_⟩)
 obtain⟨a,dd,rfl,j,k⟩:=hS;refine bk ?_;clear bk;walk_at"";refine⟨_,_,j,_,_,j,_,_,j,_,_,j,sz3 4,λp S=>et ?_⟩;have N:a≠p:=λz=>by rw[z,S]at j;cases j
 have g:ay M p (HD.lst [D.bl ([true].getD 0 false),D.bl ([false].getD 0 false),D.bl ([false].getD 0 false),D.bl ([false].getD 0 false)]) a=some (exY [Q] 0 (some dd) a):=by rw[aT N];exact j
 walk_at"";refine⟨_,_,g,_,_,g,_,_,g,_,_,g,sz3 4,sz3 8,λq l=>?_⟩;have h:a≠q:=λz=>by rw[z,l]at g;cases g
 refine⟨_,_,by rw[aT h];exact g,A8 (by decide:8<1000) (sz3 1000),_,_,by rw[aT h];exact g,?_⟩;rw[if_pos (by rfl)];refine⟨sz3 9,?_⟩;generalize n:ay (ay M p _) q _=J;have h3:rdM J (.ref q)=.lst [D.bl true,D.bl false,D.bl false,D.bl false,D.bl false,D.bl false,D.bl false,D.bl false,D.bl false]:=by rw[<-n];exact er ar
 have L:LeM M J:=by
  rw[<-n];refine λb o e=>?_;have Z:b≠p:=λz=>by rw[z,S]at e;cases e
  have C:b≠q:=λz=>by rw[z]at e;rw[aT (λz2=>Z (by rw[z,z2])),e]at l;cases l
  rw[aT C,aT Z];exact e
 refine kQ (λi m I u=>∃x,I=[none,some (D.int 0),none,x]/\u=J/\m=(O5 i).map λ(k:Nat)=>D.bl ((k:Int)==0)) ⟨none,rfl,rfl,rfl⟩ ?_ ?_
 ·rintro i d m I u X hd ⟨x,rfl,rfl,rfl⟩ k';obtain⟨hi,rfl⟩:=dv hd;refine⟨_,rfl,?_⟩;rw[Int.zero_add];simp only[n8];walk_at"";refine k' _ _ _ ⟨_,rfl,rfl,?_⟩;rw[List.range_succ,X7];rfl
 ·rintro m I u ⟨x,rfl,rfl,rfl⟩;rw[h3];exact⟨_,rfl,M,L,k⟩
def dR:SpD:=λa M R=>∃d:D,a=[d]/\aB d=true/\rdB d=false/\R (.bl true) M
theorem jR(F:Fun K "_law_refused" "_law_refused" dw f G)(T:Txt B){l W q:A1}(Y:rN K B l W q)(U:FnY P w K B base "read_row" 6 1 e7 [l])(Q:FnD P w K B base "_law_alone" 1 2 (iV l)):aS P w K B base CX0 7 f G ["_law_text_here"] (spD K 1 dR):=by
 have J:=fc.nd;refine F.okR rfl fc (λS A L s H E o=>⟨_,(ah (aI (i:=1) J rfl (J6 rfl) bM)
   (ah (vy (j:=2) (λ_ _ h=>h) rfl rfl rfl rfl Y.gH Y.lC Y.lW J rfl rfl (qH (qM U (o.mono (by decide)) rfl (λ_ _ h=>h) (ae (af 0) ak))) λa=>(am (aI (i:=1) J rfl (J6 rfl) (af 2))))
   (am (jn (dB (gc sg (af 1) bM nbh) (dB (qd Q o (ae (af 1) (ae aj ak))) (gm (gc rS (xo (Cs:=[l]) 0 rfl (Y.z _ (by simp)) Y.g0 (af 1)) bM nbh)))))))),λds M R _ hS bk=>?_⟩)
 obtain⟨d,rfl,O,hb,k⟩:=hS;refine bk ?_;clear bk;walk_at"";refine⟨d,rfl,O,hb,λg t=>⟨λe=>?_,λi x e a p=>?_⟩⟩
 ·rw[lO]at e;cases e
 ·rw[lO]at e;cases e;have n:g≠a:=λz=>by rw[<-z,ar]at p;cases p
  have m:ay (ay M g (ik (z8 "part") g .non)) a (exY [l] 0 (some g) a) a=some (exY [l] 0 (some g) a):=ar;have I:ay (ay M g (ik (z8 "part") g .non)) a (exY [l] 0 (some g) a) g=some (ik (z8 "part") g .non):=by rw[aT n,ar]
  have C:LeM M (ay (ay M g (ik (z8 "part") g .non)) a (exY [l] 0 (some g) a)):=λb u e=>by
   have Z:b≠g:=λz=>by rw[z,t]at e;cases e
   have X:b≠a:=λz=>by rw[z]at e;rw[aT (N6 n)]at p;rw[p]at e;cases e
   rw[aT X,aT Z];exact e
  generalize ay (ay M g (ik (z8 "part") g .non)) a (exY [l] 0 (some g) a)=N at *
  refine⟨N,λ_ _ e=>e,?_⟩;have o:rdM N (.ref a)=.ref a:=by simp only[rdM,m,exY]
  rw[o,if_pos (by rfl)];refine⟨a,g,rfl,m,?_⟩;refine⟨_,rfl,?_⟩;rw[if_pos rfl];exact⟨_,m,_,I,M,C,k⟩
theorem oM{m:Str}:(m.cps.toList.map λc=>decide (c∈bt)).all id=m.cps.toList.all λc=>decide (c∈bt):=by rw[Q0];rfl
theorem o4{b:List Nat}{c:Nat}{n:Nat}(a:b.length=n):(tx b==tx (z5 n c))=decide (b=z5 b.length c):=by
 subst a;rw[U6,beq_iff_eq,decide_eq_true_eq];exact oW
def gh:SpD:=λa M R=>∃x:Str,a=[.str x]/\x.length<=1000000/\R (oSg (sgW x.cps.toList)) M
theorem jr(F:Fun K "_law_sign_of" "_law_sign_of" cG f G)(T:Txt B):aS P w K B base CX0 1 f G ["_law_word_here"] (spD K 1 gh):=by
 have t:=fb.nd;refine F.okR rfl fb (λN A z s H E l=>⟨_,(ah (aI (i:=1) t rfl (J6 rfl) (gx (af 0) ao))
   (ah (aI (i:=2) t rfl (J6 rfl) (cC cB (af 1) aj (λ_ _=>rfl)))
   (ah (a7 (nM (kl (aH qZ (aN cL rfl T.b_len (by kernel_rfl) (ae (af 2) ak)) aj nbh) (jm (aH lQ (aN cL rfl T.b_len (by kernel_rfl) (ae (af 2) ak)) aj nbh)))) (am (aJ bM)) aO)
   (ah (a7 (gP (dJ (aN (jg rfl) rfl T.b_all (by kernel_rfl) (ae (g6 (ms:=[false,false,false,false]) (aq:=["_law_sign_here"]) (aU (n0:=0) rfl (show bq (ag cG) dI _ _=true from by decide +kernel)) rfl (bS (af 2)) (bH (i:=4) (show(dI++_).Nodup from by decide +kernel) rfl rfl) (λ_ _ _ _=>cq) (λ_ _ _ _=>(gc td (af 4) ao rfl))) ak)))) (am (aJ bM)) aO)
   (ah (a7 (aH (eG l.units) (aN cL rfl T.b_len (by kernel_rfl) (ae (af 1) ak)) aj nbh) (am (aJ (e6 (ae (af 2) (ae aj ak))))) aO)
   (ah (aI (i:=3) t rfl (J6 rfl) (aN cL rfl T.b_len (by kernel_rfl) (ae (cC cB (af 1) aj (λ_ _=>rfl)) ak)))
   (ah (a7 (nM (kl (aH lQ (aN cL rfl T.b_len (by kernel_rfl) (ae (af 1) ak)) aj nbh) (kl (aH qZ (af 3) aj nbh) (jm (aH lQ (af 3) aj nbh))))) (am (aJ bM)) aO)
   (ah (a7 (aH (eG l.units) (cC cB (af 1) aj (λ_ _=>rfl)) (aD b7 ao (af 3)) nbh) (am (aJ (e6 (ae (af 2) (ae (af 3) ak))))) aO)
   (ah (a7 (aH (eG l.units) (cC cB (af 1) aj (λ_ _=>rfl)) (aD b7 ao (af 3)) nbh) (am (aJ (e6 (ae (af 2) (ae (aD mz aj (af 3)) ak))))) aO)
   (am (aJ bM))))))))))),λds M R _ S bk=>?_⟩)
 obtain⟨x,rfl,hx,k⟩:=S;refine bk ?_;clear bk;walk_at"";simp only[mJ,s_r,s_l];refine⟨by rw[aA];rfl,szB _ (by lia),?_⟩;rw[cm];have g:∀p∈pcs 46 x.cps.toList,p.length<=x.length:=λp Z=>by
  have:=dH (x:=x) (y:=tx [46]) (p:=tx p) (by rw[cm];exact E2.mpr ⟨p,Z,rfl⟩)
  rwa [aA]at this
 unfold sgW at k;cases e:pcs 46 x.cps.toList with
 |nil=>exact absurd e (jV _ _)
 |cons a r =>
  rw[e]at k g;have ha:=g a (.head _);refine⟨.str (tx a),by rw[B5,B5];exact ow,?_⟩;walk_at"";rw[aA];refine⟨_,if_pos (szB _ (by lia)),?_⟩;walk_at"";have no:aL (tx a)=false->R .non M:=λh=>by
   cases r with
   |nil=>simp only[h,A6,if_false]at k;exact k
   |cons b r =>
    cases r with
    |nil=>simp only[h,A6,false_and,if_false]at k;exact k
    |cons _ _=>exact k
  refine bC (λL=>no ?_) (λL=>?_)
  ·have O:a.length=0:=by lia
   unfold aL;rw[aA,O];rfl
  refine⟨_,if_pos (szB _ (by lia)),?_⟩;walk_at"";refine bC (λh2=>no ?_) (λh2=>?_)
  ·unfold aL;rw[aA,decide_eq_false (by lia:¬ a.length<=8),S6,R1]
  have Q:1<=a.length:=by lia
  have Y:a.length<=8:=by lia
  refine⟨_,if_pos (szB _ (by lia)),λX=>⟨X,?_⟩⟩;refine bb (λ_=>true) (λd=>match d with|.str y=>.bl (y.cps.toList.all λc=>decide (c∈bt))|_=>.non) (λI=>∃x,I=[none,none,none,none,x]) _ _ _ (λd J I m=>?_) ⟨none,rfl⟩ ?_
  ·obtain⟨x1,rfl⟩:=m;obtain⟨c,_,rfl⟩:=E2.mp (show d∈(tx a).cps.toList.map λc=>D.str (tx [c])from J);refine⟨_,rfl,⟨_,rfl⟩,λQ1 q=>q,λ_ Q2 q=>?_⟩;walk_at"";simp only[ou,L5.injEq,exists_eq_left',Bool.false_xor];rw[show(z8 "abcdefghijklmnopqrstuvwxyz").cps.toList=bt from mH];simpa[av]using q
  rw[E1,K9.mpr (λ_ _=>rfl)];have U:(L2.bR (tx a)).map (λd=>match d with|.str y=>D.bl (y.cps.toList.all λc=>decide (c∈bt))|_=>.non)=((tx a).cps.toList.map λc=>decide (c∈bt)).map D.bl:=by
   unfold L2.bR;rw[N1,N1];apply T5;intro c _;simp
  rw[U];refine⟨_,gX,_,rfl,?_⟩;have e2:((tx a).cps.toList.map λc=>decide (c∈bt)).all id=aL (tx a):=by
   unfold aL;rw[oM,aA,decide_eq_true Q,decide_eq_true Y];rfl
  rw[e2];refine bC (λh=>no (by simpa using h)) (λh=>?_);have C:aL (tx a)=true:=by simpa using h
  cases r with
  |nil =>
   simp only[C,if_true]at k;exact bC (λ_=>⟨sz3 2,k⟩) (λh=>absurd rfl h)
  |cons b r =>
   have hb:=g b (.tail _ (.head _));have n:atI (D.str (tx a)::List.map D.str (List.map tx (b::r))) 1=some (.str (tx b)):=by rw[B5,B5];exact tH
   refine bC (λh=>?_) (λ_=>⟨_,n,?_⟩)
   ·simp at h;lia
   walk_at"";rw[aA];refine⟨_,if_pos (szB _ (by lia)),?_⟩;cases r with
   |cons c r =>
    refine bC (λ_=>k) (λh=>?_);simp at h;lia
   |nil =>
    simp only[C,true_and]at k;refine bC (λh=>?_) (λ_=>?_)
    ·simp at h
    walk_at"";have j:¬ (1<=b.length/\b.length<=99)->R .non M:=λh=>by rw[if_neg h]at k;exact k
    refine bC (λh=>j (by lia)) (λh3=>bC (λh=>j (by lia)) (λh4=>?_));rw[if_pos (by lia)]at k;refine⟨_,eO (by lia) (by lia),?_⟩;rw[Int.toNat_natCast];walk_at"";rw[o4 rfl];refine bC (λo=>?_) (λo=>⟨_,eO (by lia) (by lia),?_⟩)
    ·rw[if_pos (by simpa using o)]at k;exact⟨sz3 2,k⟩
    rw[if_neg (by simpa using o)]at k;rw[Int.toNat_natCast];walk_at"";rw[o4 rfl];refine bC (λu=>?_) (λu=>?_)
    ·rw[if_pos (by simpa using u)]at k;rw[show(0:Int)-(b.length:Int)=-(b.length:Int)by lia];exact⟨sz3 2,k⟩
    ·rw[if_neg (by simpa using u)]at k;exact k
def gG:SpD:=λa M R=>∃x:Str,a=[.str x]/\x.length<=1000000/\R (if cj x.cps.toList=true then .tup ((kz x.cps.toList).map bQ)else .non) M
theorem sP{o:Option (Str×Int)}:eqD (oSg o) .non=o.isNone:=by
 cases o with
 |none=>rfl
 |some x=>rfl
theorem kZ(F:Fun K "_law_row_of" "_law_row_of" cV f G)(T:Txt B)(X:FnD P w K B base "_law_sign_of" 1 1 gh):aS P w K B base CX0 2 f G ["_law_text_here"] (spD K 1 gG):=by
 have U:=gi.nd;refine F.okR rfl gi (λO A n s H E j=>⟨_,(ah (a7 (aH (eG j.units) (af 0) ao nbh) (am (aJ (e6 ak))) aO)
   (ah (r0 (i:=1) U rfl rfl rfl (ms:=[false,false]) (aq:=["_law_word_here"]) (aU (n0:=0) rfl (show bq (ag cV) eR _ _=true from by decide +kernel)) rfl (bS (gx (af 0) ao)) (bH (i:=2) (show(eR++_).Nodup from by decide +kernel) rfl rfl) (λ_ _ _ _=>cq) (λ_ _ _ _=>(qd X j (ae (af 2) ak))))
   (ah (a7 (aH (wA j.units) bM (af 1) rfl) (am (aJ bM)) aO)
   (am (aJ (kH m4 rfl T.b_tuple (by kernel_rfl) (ae (af 1) ak))))))),λZ M R _ S bk=>?_⟩)
 obtain⟨x,rfl,L,k⟩:=S;refine bk ?_;clear bk;walk_at"";simp only[rL,tE];have u:x=tx [49]↔x.cps.toList=[49]:=⟨λh=>by rw[h,av],λh=>eB (by rw[h,av])⟩;unfold cj kz at k;refine bC (λh=>⟨sz3 0,?_⟩) (λh=>⟨by rw[aA];rfl,szB _ (by lia),?_⟩)
 ·have g:x.cps.toList=[49]:=u.mp (by simpa using h);rw[decide_eq_true g,Bool.true_or,if_pos rfl,if_pos g]at k;exact k
 ·have g:¬ x.cps.toList=[49]:=λz=>h (by simpa using u.mpr z);rw[decide_eq_false g,Z8,if_neg g]at k;have b:∀p∈pcs 32 x.cps.toList,p.length<=1000000:=λp m=>by
   have:=dH (x:=x) (y:=tx [32]) (p:=tx p) (by rw[cm];exact E2.mpr ⟨p,m,rfl⟩);rw[aA]at this
   lia
  rw[cm];generalize pcs 32 x.cps.toList=a at k b;refine λI=>⟨I,?_⟩;have C:(a.map tx).map D.str=a.map λp=>D.str (tx p):=by rw[N1];rfl
  rw[C];refine fS (λp=>D.str (tx p)) (λ_=>true) (λp=>oSg (sgW p)) (λJ=>∃z,J=[none,none,z]) a _ _ (λp m J l=>?_) ⟨none,rfl⟩ ?_
  ·obtain⟨z,rfl⟩:=l;refine⟨_,rfl,⟨_,rfl⟩,λQ1 q=>q,λ_ Y q=>?_⟩;walk_at"";refine⟨tx p,rfl,by rw[aA];exact b p m,?_⟩;rw[av];exact q
  ·rw[E1,K9.mpr (λ_ _=>rfl)];have o:cv (a.map λp=>oSg (sgW p)) 59=true:=by
    rw[gZ];intro d N;obtain⟨p,_,rfl⟩:=E2.mp N;cases sgW p<;>rfl
   refine⟨_,if_pos ⟨rfl,o⟩,_,rfl,?_⟩;have t:((a.map λp=>oSg (sgW p)).any λd=>eqD d .non)=!(a.all λp=>(sgW p).isSome):=by
    rw[List.any_map,List.not_all_eq_any_not];congr 1;funext p;show eqD (oSg (sgW p)) .non=_;rw[sP];cases sgW p<;>rfl
   rw[t]
   by_cases e:(a.all λp=>(sgW p).isSome)=true
   ·rw[if_pos e]at k;rw[e];refine bC (λh=>by cases h) (λ_=>?_);have Q:(a.map λp=>oSg (sgW p))=(a.filterMap sgW).map bQ:=by
     clear k t o C I b
     induction a with
     |nil=>rfl
     |cons p a ih =>
      rw[P1,B2]at e;obtain⟨x,L⟩:=E8.mp e.1;rw[B5,ih e.2,K7,L];rfl
    rw[Q];exact k
   ·rw[if_neg e]at k;rw[show(a.all λp=>(sgW p).isSome)=false by simpa using e];exact bC (λ_=>k) (λh=>absurd rfl h)
theorem oZ{a:List (Str×Int)}:eqF (.tup (a.map bQ)) (.tup (a.map bQ))=some (.bl true):=by
 have b:dLe (.tup (a.map bQ)) 60=true:=pK bQ λ_=>rfl;simp only[eqF,b,and_self,if_true,eqD];congr 2;clear b
 induction a with
 |nil=>rfl
 |cons x a ih =>
  rw[B5,df,ih];simp[bQ,eqD,df]
def gf:SpD:=λa M R=>∃x:Str,a=[.str x]/\x.length<=1000000/\R (.bl true) M
theorem jC(F:Fun K "_law_as_read" "_law_as_read" cD f G)(T:Txt B)(C:FnD P w K B base "_law_row_of" 2 1 gG)(o:FnD P w K B base "_law_refused" 7 1 dR)(a:FnD P w K B base "read_row" 6 1 c9):aS P w K B base CX0 8 f G ["_law_text_here"] (spD K 1 gf):=by
 have m:=fj.nd;refine F.okR rfl fj (λt A j s H E e=>⟨_,(ah (aI (i:=1) m rfl (J6 rfl) (qd C e (ae (af 0) ak)))
   (ah (a7 (aH rS (af 1) bM nbh) (am (aJ (qd o e (ae (af 0) ak)))) aO)
   (ah (aI (i:=2) m rfl (J6 rfl) (qd a e (ae (af 0) ak)))
   (ah (a7 (nM (kl (gP (dJ (fD (Tn:="tuple") (by decide) rfl T.b_isinstance rfl T.b_tuple (by kernel_rfl) (af 2)))) (jm (gP (dJ (aN (jg rfl) rfl T.b_all (by kernel_rfl) (ae (g6 (ms:=[false,false,false]) (aq:=["_law_one"]) (aU (n0:=0) rfl (show bq (ag cD) dD _ _=true from by decide +kernel)) rfl (bS (af 2)) (bH (i:=3) (show(dD++_).Nodup from by decide +kernel) rfl rfl) (λ_ _ _ _=>cq) (λ_ _ _ _=>(fD (Tn:="tuple") (by decide) rfl T.b_isinstance rfl T.b_tuple (by kernel_rfl) (af 3)))) ak))))))) (am (aJ n5)) aO)
   (am (aJ (gc (eG e.units) (af 2) (af 1) nbh))))))),λN M R _ u bk=>?_⟩)
 obtain⟨x,rfl,l,k⟩:=u;refine bk ?_;clear bk;walk_at"";refine⟨x,rfl,l,?_⟩
 by_cases b:cj x.cps.toList=true
 ·rw[if_pos b];refine bC (λh=>by cases h) (λ_=>⟨x,rfl,l,b,?_⟩);refine⟨true,rfl,?_⟩;rw[if_neg (by decide)];refine⟨_,rfl,λp=>⟨p,fS bQ (λ_=>true) (λ_=>D.bl true) (λn=>∃z,n=[none,none,none,z]) _ _ _ (λs I n g=>?_) ⟨none,rfl⟩ ?_⟩⟩
  ·obtain⟨z,rfl⟩:=g;refine⟨_,rfl,⟨_,rfl⟩,λJ q=>q,λ_ L q=>?_⟩;walk_at"";exact⟨true,rfl,q⟩
  rw[E1,K9.mpr (λ_ _=>rfl)];refine⟨_,lV _,_,rfl,?_⟩;rw[if_neg (by decide)];exact⟨_,oZ,k⟩
 ·rw[if_neg b];exact bC (λ_=>⟨.str x,rfl,by simp only[aB,decide_eq_true l],by simpa[rdB]using b,k⟩) (λh=>absurd rfl h)
theorem ic{x:Str}{v:Int}(a:0<=v)(e:v<(x.length:Int))(b:x.length<=A0):∃c,ixD (.str x) (.int v)=some (.str (tx [c])):=by
 obtain⟨n,rfl⟩:=Int.eq_ofNat_of_zero_le a;have f:n<x.cps.toList.length:=by rw[<-bx];lia
 rw[tv,if_pos b,fo (v:=x.cps.toList[n]) (by simp)];exact⟨_,rfl⟩
def ka:SpD:=λb M R=>∃(p:A1) (l:List D),b=[.ref p]/\M p=some (.lst l)/\aR l/\∀(a:List (Str×Int)) l',a≠[]->a.length<=4->(∀x∈a,bw x.1/\-3<=x.2/\x.2<=3)->aR l'->R (.str (iq a)) (ay M p (.lst l'))
theorem nX(F:Fun K "_law_text" "_law_text" g5 f G)(T:Txt B)(Y3:FnD P w K B base "_law_word" 2 2 kA)(G0:FnD P w K B base "_law_draw" 1 2 cO):aS P w K B base CX0 3 f G ["_law_pool_here"] (spD K 1 ka):=by
 have O:=iK.nd;refine F.okR rfl iK (λa' A a3 s H E hr=>⟨_,(ah (aI (i:=1) O rfl (J6 rfl) (jw ak))
   (ah (iP R9 rfl (fF rfl T.b_range (ae (aD aE aj (qd G0 hr (ae (af 0) (ae aj ak)))) ak)) (fN (i:=2) O rfl (J6 rfl)) (ah (aI (i:=3) O rfl (J6 rfl) (qd Y3 hr (ae (af 0) (ae (dQ ak) ak))))
   (ah (aI (i:=4) O rfl (J6 rfl) (aD mz (qd G0 hr (ae (af 0) (ae aj ak))) aj))
   (ah (a7 (aH lQ (af 4) aj nbh) (am (aI (i:=3) O rfl (J6 rfl) (aD aE (aD aE (af 3) ao) (aD b7 ao (af 4))))) aO)
   (ah (a7 (aH qZ (af 4) aj nbh) (am (aI (i:=3) O rfl (J6 rfl) (aD aE (aD aE (af 3) ao) (aD b7 ao (aD mz aj (af 4)))))) aO)
   (am (jL (mN (af 1) (af 3)))))))))
   (am (jn (pR ao (af 1)))))),λds M R _ hS bk=>?_⟩)
 obtain⟨p,l,rfl,hM,hP,k⟩:=hS;refine bk ?_;clear bk;walk_at"";refine⟨sz3 0,λq hq=>?_⟩;have o:p≠q:=by rintro rfl;rw[hM]at hq;cases hq
 refine⟨p,l,4,rfl,by rw[aT o];exact hM,hP,by decide,by decide,λv l1 h0 h1 a0=>?_⟩;walk_at"";refine⟨by lia,by lia,?_⟩;rw[<-i7 o];refine cn (λi Δ M2=>∃(a:List (Str×Int)) (e:List D) (x2 x3 Z:Option D),Δ=[some (.ref p),some (.ref q),x2,x3,Z]/\M2=ay (ay M p (.lst e)) q (.lst ((a.map aK).map D.str))/\aR e/\a.length=i/\∀x∈a,bw x.1/\-3<=x.2/\x.2<=3) ⟨[],l1,_,_,_,rfl,rfl,a0,rfl,λ_ h=>nomatch h⟩ ?_ ?_
 ·rintro i d Δ M2 X hd ⟨a,e,x2,x3,Z,rfl,rfl,I,u,j⟩ k';obtain⟨hi,rfl⟩:=dv hd;refine⟨_,rfl,?_⟩;have S:∀e:List D,ay (ay M p (.lst e)) q (.lst ((a.map aK).map D.str)) p=some (.lst e):=λe=>by rw[aT o,ar]
  have U:∀e m:List D,ay (ay (ay M p (.lst e)) q (.lst ((a.map aK).map D.str))) p (.lst m)=ay (ay M p (.lst m)) q (.lst ((a.map aK).map D.str)):=λe m=>by
   rw[<-i7 o,bg]
  refine bE (λg N=>∃(w:Str) (m:List D),bw w/\aR m/\g=[some (.ref p),some (.ref q),some (.int (0+(i:Int))),some (.str w),Z]/\N=ay (ay M p (.lst m)) q (.lst ((a.map aK).map D.str))) (λnx b=>?_) ?_
  ·walk_at"";refine⟨sz3 0,p,e,[],rfl,S e,I,by simp,λw m hw _ L=>?_⟩;rw[U];exact b _ _ ⟨w,m,hw,L,rfl,rfl⟩
  rintro _ _ ⟨w,m,hw,L,rfl,rfl⟩;refine bE (λg N=>∃(t:Int) (C:List D),-3<=t/\t<=3/\aR C/\g=[some (.ref p),some (.ref q),some (.int (0+(i:Int))),some (.str w),some (.int t)]/\N=ay (ay M p (.lst C)) q (.lst ((a.map aK).map D.str))) (λnx b=>?_) ?_
  ·walk_at"";refine⟨p,m,7,rfl,S m,L,by decide,by decide,λv C g0 g1 J=>?_⟩;rw[U];walk_at"";exact b _ _ ⟨v-3,C,by lia,by lia,J,rfl,rfl⟩
  rintro _ _ ⟨t,C,a2,a4,J,rfl,rfl⟩;have a5:w.cps.toList.length<=8:=hw.2.1;have a9:w.length<=8:=by rw[bx];exact a5
  have e1:(if w.length+(tx [46]).length<=A0 then some (D.str (w++tx [46]))else none)=some (.str (tx (w.cps.toList++[46]))):=by rw[if_pos (by rw[aA];exact sz3 _ (by simp;lia)),vr]
  have e2:∀n c:Nat,n<=3->(if(tx (w.cps.toList++[46])).length+(tx (z5 n c)).length<=A0 then some (D.str (tx (w.cps.toList++[46])++tx (z5 n c)))else none)=some (.str (tx (w.cps.toList++[46]++z5 n c))):=λn c hn=>by rw[if_pos (by rw[aA,aA,C6,E5];exact sz3 _ (by simp only[B6,K5];lia)),gV]
  refine bE (λg N=>∃(s:Str),(0<t->s=aK (w,t))/\(¬ 0<t->s=w)/\g=[some (.ref p),some (.ref q),some (.int (0+(i:Int))),some (.str s),some (.int t)]/\N=ay (ay M p (.lst C)) q (.lst ((a.map aK).map D.str))) (λnx b=>?_) ?_
  ·walk_at"";simp only[mJ,s_r];refine bC (λh=>?_) (λh=>b _ _ ⟨w,λz=>absurd z h,λ_=>rfl,rfl,rfl⟩);refine⟨_,e1,?_⟩;walk_at"";refine⟨_,eO (by lia) (by lia),?_⟩;walk_at"";refine⟨_,e2 _ _ (by lia),b _ _ ⟨_,λ_=>?_,λz=>absurd h z,rfl,rfl⟩⟩;simp[aK,sgn,h]
  rintro _ _ ⟨s,a8,Q,rfl,rfl⟩;refine bE (λg N=>g=[some (.ref p),some (.ref q),some (.int (0+(i:Int))),some (.str (aK (w,t))),some (.int t)]/\N=ay (ay M p (.lst C)) q (.lst ((a.map aK).map D.str))) (λnx b=>?_) ?_
  ·walk_at"";simp only[mJ,s_l];refine bC (λh=>?_) (λh=>?_)
   ·rw[Q (by lia)];refine⟨_,e1,?_⟩;walk_at"";refine⟨_,eO (by lia) (by lia),?_⟩;walk_at"";refine⟨_,e2 _ _ (by lia),?_⟩;have:aK (w,t)=tx (w.cps.toList++[46]++z5 (0-t).toNat 108):=by
     rw[show(0:Int)-t=-t by lia];simp[aK,sgn,h,show ¬ 0<t by lia]
    rw[<-this];exact b _ _ ⟨rfl,rfl⟩
   ·by_cases h0:0<t
    ·rw[a8 h0];exact b _ _ ⟨rfl,rfl⟩
    ·rw[Q h0];have a1:t=0:=by lia
     have:aK (w,t)=w:=by
      subst a1;simp only[aK,sgn];simp;exact(p7 w).symm
     have hk:=b _ _ ⟨rfl,rfl⟩;rw[this]at hk;exact hk
  rintro _ _ ⟨rfl,rfl⟩;walk_at"";refine⟨by rw[J4,J4];exact A8 (by lia:a.length<1000) (sz3 1000),k' _ _ ⟨a++[(w,t)],C,_,_,_,rfl,by rw[X7,X7];rfl,J,by simp[u],λx hx=>?_⟩⟩;rcases D9.mp hx with h|h
  ·exact j x h
  ·rw[D6.mp h];exact⟨hw,a2,a4⟩
 ·rintro Δ M2 ⟨a,e,x2,x3,Z,rfl,rfl,I,u,j⟩;rw[fu]at u;walk_at"";rw[rL];have Y:a≠[]:=by rintro rfl;simp at u;lia
  refine⟨_,md ⟨by lia,λx hx=>?_⟩,ay M p (.lst e),m5 (by rw[aT (N6 o)];exact hq),?_⟩
  ·have:=j x hx;exact⟨by rw[bx];exact this.1.2.1,by lia,by lia⟩
  ·have:=k a e Y (by lia) j I
   rwa [iq,if_neg Y]at this
theorem sg1:(z8 " !\"#$&'()*+,-./0123456789:;<=>?@ABCDEFGHIJKLMNOPQRSTUVWXYZ[\\]^_`").length=64:=by decide +kernel
theorem sg2:(z8 "abcdefghijklmnopqrstuvwxyz{|}~\n").length=31:=by decide +kernel
theorem sg3:(z8 " .rla1").length=6:=by decide +kernel
theorem sg4:(z8 " a.").length=3:=by decide +kernel
theorem sg5:(z8 "lr").length=2:=by decide +kernel
def k6:SpD:=λa M R=>∃(p:A1) (l:List D),a=[.ref p]/\M p=some (.lst l)/\aR l/\∀(x:Str) l',x.length=1->aR l'->R (.str x) (ay M p (.lst l'))
theorem nO(F:Fun K "_law_sign" "_law_sign" gS f G)(T:Txt B)(q:FnD P w K B base "_law_draw" 1 2 cO):aS P w K B base CX0 2 f G ["_law_pool_here"] (spD K 1 k6):=by
 have j:=iL.nd;refine F.okR rfl iL (λt A m s H E h=>⟨_,(ah (aI (i:=1) j rfl (J6 rfl) ao)
   (ah (a7 (aH (eG h.units) (qd q h (ae (af 0) (ae aj ak))) aj nbh) (ah (aI (i:=1) j rfl (J6 rfl) ao)
   (am (aI (i:=1) j rfl (J6 rfl) (aD aE (af 1) ao)))) aO)
   (am (aJ (cC cB (af 1) (qd q h (ae (af 0) (ae (aN cL rfl T.b_len (by kernel_rfl) (ae (af 1) ak)) ak))) (λ_ _=>rfl)))))),λN M R _ z bk=>?_⟩)
 obtain⟨p,l,rfl,C,u,k⟩:=z;refine bk ?_;clear bk;walk_at"";refine⟨p,l,2,rfl,C,u,by decide,by decide,λv o L J b=>?_⟩;walk_at"";refine bC (λ_=>⟨_,if_pos (by rw[sg1,sg2];exact sz3 _ (by decide)),?_⟩) (λ_=>⟨_,if_pos (by rw[sg3];exact sz3 _ (by decide)),?_⟩)
 ·walk_at"";rw[aw,sg1,sg2];refine⟨_,if_pos (sz3 _ (by decide)),p,o,_,rfl,ar,b,by decide,by decide,λv I n g a=>?_⟩;rw[bg];obtain⟨c,e⟩:=ic (x:=z8 " !\"#$&'()*+,-./0123456789:;<=>?@ABCDEFGHIJKLMNOPQRSTUVWXYZ[\\]^_`"++z8 "abcdefghijklmnopqrstuvwxyz{|}~\n") n (by rw[aw,sg1,sg2];exact g) (by rw[aw,sg1,sg2];exact sz3 _ (by decide));exact⟨_,e,k _ _ (by rw[aA];rfl) a⟩
 ·rw[sg3];refine⟨p,o,_,rfl,ar,b,by decide,by decide,λv I n g a=>?_⟩;rw[bg];obtain⟨c,e⟩:=ic (x:=z8 " .rla1") n (by rw[sg3];exact g) (by rw[sg3];exact sz3 _ (by decide));exact⟨_,e,k _ _ (by rw[aA];rfl) a⟩
def g9:SpD:=λa M R=>∃(p:A1) (l:List D) (x:Str),a=[.ref p,.str x]/\M p=some (.lst l)/\aR l/\x.length<=1000/\∀(y:Str) l',y.length<=10000->aR l'->R (.str y) (ay M p (.lst l'))
theorem k8(F:Fun K "_law_spoilt" "_law_spoilt" eL f G)(T:Txt B)(L:FnD P w K B base "_law_draw" 1 2 cO)(G4:FnD P w K B base "_law_sign" 2 1 k6):aS P w K B base CX0 3 f G ["_law_pool_here","_law_text_here"] (spD K 2 g9):=by
 have C:=gj.nd;refine F.okR rfl gj (λa4 A a0 s H E t=>⟨_,(ah (a7 (aH (eG t.units) (qd L t (ae (af 0) (ae aj ak))) aj nbh) (am (aI (i:=1) C rfl (J6 rfl) (aD aE (aD aE (af 1) ao) (aD b7 (cC cB ao (qd L t (ae (af 0) (ae aj ak))) (λ_ _=>rfl)) (aD aE aj (qd L t (ae (af 0) (ae aj ak)))))))) aO)
   (ah (iP R9 rfl (fF rfl T.b_range (ae (aD aE aj (qd L t (ae (af 0) (ae aj ak)))) ak)) (fN (i:=2) C rfl (J6 rfl)) (ah (aI (i:=3) C rfl (J6 rfl) (qd L t (ae (af 0) (ae (aD aE (aN cL rfl T.b_len (by kernel_rfl) (ae (af 1) ak)) aj) ak))))
   (ah (aI (i:=4) C rfl (J6 rfl) (qd L t (ae (af 0) (ae aj ak))))
   (am (a7 (aH (eG t.units) (af 4) aj nbh) (am (aI (i:=1) C rfl (J6 rfl) (aD aE (cP (af 1) en (dZ (af 3))) (cP (af 1) (dZ (aD aE (af 3) aj)) en)))) (ah (aI (i:=5) C rfl (J6 rfl) (cP (af 1) (dZ (aD mz (aD aE (af 3) (af 4)) aj)) en))
   (am (aI (i:=1) C rfl (J6 rfl) (aD aE (aD aE (cP (af 1) en (dZ (af 3))) (qd G4 t (ae (af 0) ak))) (af 5))))))))))
   (am (aJ (af 1))))),λds M R _ hS bk=>?_⟩)
 obtain⟨p,l,x,rfl,hM,hP,hx,k⟩:=hS;refine bk ?_;clear bk;refine bE (λm Q=>∃(y:Str) (I:List D),y.length<=1102/\aR I/\m=[some (.ref p),some (.str y),none,none,none,none]/\Q=ay M p (.lst I)) (λnx h=>?_) ?_
 ·walk_at"";refine⟨p,l,4,rfl,hM,hP,by decide,by decide,λv I h0 h1 o=>?_⟩;walk_at"";refine bC (λ_=>?_) (λ_=>h _ _ ⟨x,I,by lia,o,rfl,rfl⟩);refine⟨_,if_pos (by rw[sg4];exact szB _ (by lia)),p,I,2,rfl,ar,o,by decide,by decide,λv2 n O g1 g=>?_⟩;rw[bg];walk_at"";obtain⟨c,e⟩:=ic (x:=z8 "lr") O (by rw[sg5];exact g1) (by rw[sg5];exact sz3 _ (by decide));refine⟨_,e,p,n,2,rfl,ar,g,by decide,by decide,λv3 u g2 g3 j=>?_⟩;rw[bg];walk_at"";refine⟨_,eO (by lia) (by lia),?_⟩;walk_at"";refine⟨_,if_pos (by rw[aw,aA,sg4,E5];exact szB _ (by lia)),h _ _ ⟨_,u,?_,j,rfl,rfl⟩⟩;rw[aw,aw,aA,sg4,E5];lia
 rintro _ _ ⟨y,I,hy,o,rfl,rfl⟩;walk_at"";refine⟨p,I,3,rfl,ar,o,by decide,by decide,λv n h0 h1 g=>?_⟩;rw[bg];walk_at"";refine⟨by lia,by lia,?_⟩;refine cn (λi Δ M2=>∃(y:Str) (n:List D) (Z x3 U S:Option D),Δ=[some (.ref p),some (.str y),Z,x3,U,S]/\M2=ay M p (.lst n)/\aR n/\y.length+1<=1103*2 ^ i) ⟨y,n,_,_,_,_,rfl,rfl,g,by simp;lia⟩ ?_ ?_
 ·rintro i d Δ M2 X hd ⟨y,n,Z,x3,U,S,rfl,rfl,g,N⟩ k';obtain⟨hi,rfl⟩:=dv hd;have hp:(2:Nat) ^ i<=8:=Nat.pow_le_pow_right (by decide) (by lia:i<=3);have hs:(2:Nat) ^ (i+1)=2*2 ^ i:=by rw[Nat.pow_succ];lia
  refine⟨_,rfl,?_⟩;refine bE (λm Q=>∃(a:Int) (u:List D),0<=a/\aR u/\m=[some (.ref p),some (.str y),some (.int (0+(i:Int))),some (.int a),U,S]/\Q=ay M p (.lst u)) (λnx h=>?_) ?_
  ·walk_at"";refine⟨_,if_pos (szB _ (by lia)),?_⟩;walk_at"";refine⟨p,n,_,rfl,ar,g,by lia,by lia,λa u O g1 j=>?_⟩;rw[bg];exact h _ _ ⟨a,u,O,j,rfl,rfl⟩
  rintro _ _ ⟨a,u,a3,j,rfl,rfl⟩;refine bE (λm Q=>∃(b:Int) (J:List D),0<=b/\aR J/\m=[some (.ref p),some (.str y),some (.int (0+(i:Int))),some (.int a),some (.int b),S]/\Q=ay M p (.lst J)) (λnx h=>?_) ?_
  ·walk_at"";refine⟨p,u,_,rfl,ar,j,by decide,by decide,λb J O g1 q=>?_⟩;rw[bg];exact h _ _ ⟨b,J,O,q,rfl,rfl⟩
  rintro _ _ ⟨b,J,a2,q,rfl,rfl⟩;have Y:=λlo hi=>Y8 y lo hi;walk_at"";refine bC (λ_=>?_) (λ_=>?_)
  ·have s1:=Y none (some a);have s2:=Y (some (a+1)) none;refine⟨_,if_pos (szB _ (by lia)),_,if_pos (szB _ (by lia)),?_⟩;walk_at"";refine⟨_,if_pos (szB _ (by lia)),k' _ _ ⟨_,J,_,_,_,_,rfl,rfl,q,?_⟩⟩;rw[aw];lia
  ·have s1:=Y none (some a);have s2:=Y (some (a+b-1)) none;refine⟨_,if_pos (szB _ (by lia)),_,if_pos (szB _ (by lia)),p,J,rfl,ar,q,λz l5 hz a1=>?_⟩;rw[bg];walk_at"";refine⟨_,if_pos (szB _ (by lia)),?_⟩;walk_at"";refine⟨_,if_pos (by rw[aw];exact szB _ (by lia)),k' _ _ ⟨_,l5,_,_,_,_,rfl,rfl,a1,?_⟩⟩;rw[aw,aw];lia
 ·rintro Δ M2 ⟨y,n,Z,x3,U,S,rfl,rfl,g,N⟩;rw[fu]at N;have hp:(2:Nat) ^ (1+v).toNat<=8:=Nat.pow_le_pow_right (by decide) (by lia:(1+v).toNat<=3);walk_at"";exact k y n (by lia) g
theorem LeM.up{M M1:DH}{p:A1}{o:HD}(h:LeM M M1)(b:M p=none):LeM M (ay M1 p o):=λa u e=>by
 have:a≠p:=by rintro rfl;rw[b]at e;cases e
 rw[aT this];exact h a u e
theorem aX(a b:Str):(a++b).cps.toList=a.cps.toList++b.cps.toList:=by
 show(a.cps++b.cps).toList=_;simp
theorem j9{c d:Nat}:∀{ps:List Str},d∈(N0 ⟨#[c]⟩ ps).cps.toList->d=c∨∃p∈ps,d∈p.cps.toList
 |[],h=>by simp[N0,Str.empty]at h
 |[p],h=>.inr ⟨p,.head _,h⟩
 |p::q::r,h=>by
  rw[bX]at h;rcases D9.mp h with h|h
  ·exact .inr ⟨p,.head _,h⟩
  ·rcases A5.mp h with h|h
   ·exact .inl h
   ·rcases j9 h with h|⟨b,a,e⟩
    ·exact .inl h
    ·exact .inr ⟨b,.tail _ a,e⟩
theorem pQ{c d:Nat}{p:Str}{ps:List Str}(h:d∈p.cps.toList):d∈(N0 ⟨#[c]⟩ (p::ps)).cps.toList:=by
 cases ps with
 |nil=>exact h
 |cons q r=>rw[bX];exact D0 _ h
structure Tx(x:Str):Prop where
 let_:∃c∈x.cps.toList,97<=c/\c<=122
 all:∀c∈x.cps.toList,(97<=c/\c<=122)∨c=46∨c=32
 len:x.length<=1000
theorem uY{row:List (Str×Int)}(f:row≠[])(q:row.length<=4)(h:∀x∈row,bw x.1/\-3<=x.2/\x.2<=3):Tx (iq row):=by
 have e:iq row=N0 ⟨#[32]⟩ (row.map aK):=by rw[iq,if_neg f]
 refine⟨?_,λc i=>?_,?_⟩
 ·cases row with
  |nil=>exact absurd rfl f
  |cons x r =>
   have l:=(h x (.head _)).1;cases b:x.1.cps.toList with
   |nil=>have:=l.1;rw[b]at this;simp at this
   |cons c o =>
    have i:=l.2.2 c (by rw[b];exact .head _);refine⟨c,?_,i⟩;rw[e,B5];refine pQ ?_;unfold aK;rw[av,b];simp
 ·rw[e]at i;rcases j9 i with a|⟨p,n,a⟩
  ·exact .inr (.inr a)
  ·obtain⟨x,b,rfl⟩:=E2.mp n;unfold aK at a;rw[av]at a;rcases D9.mp a with g|g
   ·exact .inl ((h x b).1.2.2 c g)
   ·rcases qm g with j|j|j
    ·exact .inr (.inl j)
    ·exact .inl (by lia)
    ·exact .inl (by lia)
 ·rw[e];have a:=StrLaws.join_length_le ⟨#[32]⟩ (row.map aK);have g:=qg (ys:=row.map aK) λy m=>by
   obtain⟨x,b,rfl⟩:=E2.mp m;have:=h x b;exact je ⟨by rw[bx];exact this.1.2.1,by lia,by lia⟩
  rw[J4]at a g;have:(⟨#[32]⟩:Str).length=1:=rfl;rw[this]at a
  lia
theorem Tx.n49{x:Str}(h:Tx x):∃c∈x.cps.toList,c≠49:=let⟨c,a,b,_⟩:=h.let_;⟨c,a,by lia⟩
def Bd(d:D):Prop:=aB d=true/\rdB d=false
theorem cw{s:Str}(a:s.length<=100000)(h:cj s.cps.toList=false):Bd (.str s):=⟨by simp only[aB,decide_eq_true_eq];lia,h⟩
theorem mZ{x s:Str}(a:Tx x)(b:s.length<=1000)(h:fB s.cps.toList=true):Bd (.str (s++x)) :=
 cw (by rw[aw];have:=a.len;lia) (by rw[aX];exact qb a.n49 h)
theorem gA{x s:Str}(a:Tx x)(b:s.length<=1000)(h:gw s.cps.toList=true):Bd (.str (x++s)) :=
 cw (by rw[aw];have:=a.len;lia) (by rw[aX];exact o6 a.n49 h)
theorem pb:∀c:Nat,97<=c->c<=122->S0 c=[c-32]:=by
 intro c a b;have:∀k<26,S0 (97+k)=[65+k]:=by decide +kernel
 have h:=this (c-97) (by lia);rw[show 97+(c-97)=c by lia]at h;rw[h];congr 1;lia
theorem uy:S0 46=[46]:=by decide +kernel
theorem vN:S0 32=[32]:=by decide +kernel
theorem ln1:(z8 "1 ").length=2:=by decide +kernel
theorem ln2:(z8 " 1").length=2:=by decide +kernel
theorem ln3:(z8 "\nb").length=2:=by decide +kernel
theorem ln4:(z8 "\n ").length=2:=by decide +kernel
theorem ln5:(z8 "a  b").length=4:=by decide +kernel
theorem ln6:(z8 " \n").length=2:=by decide +kernel
theorem ln7:(z8 "a.").length=2:=by decide +kernel
theorem xp:(z8 "a b").cps.toList=[97,32,98]:=by decide +kernel
theorem sV:(z8 "a  b").cps.toList=[97,32,32,98]:=by decide +kernel
theorem sj{x s:Str}(a:Tx x)(j:s.length<=1000)(h:fB s.cps.toList=true∨s=z8 "a b"):Bd (.str (cp (s++x) (z8 "a b") (z8 "a  b"))):=by
 have m:=a.len;rcases fY (s++x) (z8 "a b") (z8 "a  b")with⟨g,e⟩|⟨_,_,p,_,_,e⟩
 ·rw[e];rcases h with h|rfl
  ·exact mZ a j h
  ·exfalso;have b:=(StrLaws.found_iff (z8 "a b"++x) (z8 "a b")).mpr ⟨0,by rw[aw];lia,by
    unfold E4.Str.subAt;rw[beq_iff_eq];apply Array.toList_inj.mp;have f:(z8 "a b"++x).cps.toList=[97,32,98]++x.cps.toList:=by rw[aX,xp]
    have i:(z8 "a b").length=3:=by decide +kernel
    rw[Array.toList_extract,f,xp,i];rfl⟩
   rw[g]at b;cases b
 ·refine cw ?_ ?_
  ·rw[bx,e,C6,C6,Q9,S7,sV];have l:(s++x).cps.toList.length=s.length+x.length:=by rw[<-bx,aw]
   rw[l];simp only[B6,K5]
   lia
  ·rw[e,sV];have:List.take p (s++x).cps.toList++[97,32,32,98]++List.drop (p+(z8 "a b").length) (s++x).cps.toList=(List.take p (s++x).cps.toList++[97])++32::32::(98::List.drop (p+(z8 "a b").length) (s++x).cps.toList):=by simp
   rw[this];exact mB
theorem mD(x:Str):(V8 x).cps.toList=(x.cps.toList.map S0).flatten:=by
 simp[V8,placed];congr 1;apply List.ext_getElem?;intro i;simp[List.getElem?_mapIdx];cases x.cps[i]?<;>simp
theorem vi{x:Str}{c:Nat}(h:c∈x.cps.toList)(a:97<=c)(b:c<=122):c-32∈(V8 x).cps.toList:=by
 rw[mD];exact List.mem_flatten.mpr ⟨_,E2.mpr ⟨c,h,rfl⟩,by rw[pb c a b];simp⟩
theorem ud{x:Str}(h:Tx x):(V8 x).length=x.length:=by
 rw[bx,mD,bx];have a:=h.all;generalize x.cps.toList=l at a
 induction l with
 |nil=>rfl
 |cons c l ih =>
  have e:(S0 c).length=1:=by
   rcases a c (.head _)with h|h|h
   ·rw[pb c h.1 h.2];rfl
   ·rw[h,uy];rfl
   ·rw[h,vN];rfl
  rw[B5,N9,C6,e,ih λd b=>a d (.tail _ b),B6]
  lia
theorem qL{x:Str}:(ab4 x (z8 " ") (z8 "  ")).length<=2*x.length:=by
 have b:z8 " "=⟨#[32]⟩:=by decide +kernel
 have a:z8 "  "=⟨#[32,32]⟩:=by decide +kernel
 rw[bx,b,a,StrLaws.replace_double,bx];generalize x.cps.toList=l
 induction l with
 |nil=>simp[StrLaws.dbl]
 |cons c l ih =>
  simp only[StrLaws.dbl]
  split<;>simp<;>lia
def ng:SpD:=λb M R=>∃x:Str,b=[.str x]/\Tx x/\∀(a:List D) M',LeM M M'->a.length<=200->(∀e∈a,Bd e)->R (.lst a) M'
theorem pE(F:Fun K "_law_odd" "_law_odd" jy f G)(T:Txt B):aS P w K B base CX0 1 f G ["_law_text_here"] (spD K 1 ng):=by
 have nd:=kO.nd;refine F.okR rfl kO (λa9 A a4 s H E hr=>⟨_,(ah (aI (i:=1) nd rfl (J6 rfl) (jw (ae bM (ae aj (ae n5 (ae (e6 ak) (ae (dQ (ae (af 0) ak)) (ae (e6 (ae ao (ae aj ak))) (ae ao (ae ao (ae ao (ae (aD aE ao (af 0)) (ae (aD aE (af 0) ao) (ae ao (ae ao (ae ao (ae ao (ae ao ak))))))))))))))))))
   (jd (ah (iP R9 rfl (bS (dQ (ae ao (ae ao (ae ao (ae ao (ae ao (ae ao (ae ao (ae ao (ae ao (ae ao (ae ao (ae ao (ae ao (ae ao ak)))))))))))))))) (fN (i:=2) nd rfl (J6 rfl)) (am (jL (mN (af 1) (aD aE (af 0) (af 2))))))
   (jd (ah (iP R9 rfl (bS (dQ (ae ao (ae ao (ae ao (ae ao (ae ao (ae ao (ae ao (ae ao (ae ao ak))))))))))) (fN (i:=2) nd rfl (J6 rfl)) (am (jL (mN (af 1) (sd (af 2) (af 0))))))
   (jd (ah (iP R9 rfl (bS (dQ (ae (aD aE ao (aD b7 ao aj)) (ae (aD aE ao (aD b7 ao aj)) (ae ao (ae ao (ae ao (ae ao (ae ao (ae ao (ae ao ak))))))))))) (fN (i:=3) nd rfl (J6 rfl)) (am (aI (i:=1) nd rfl (J6 rfl) (lu (af 1) (dQ (ae (af 3) (ae (aD aE (aD aE (af 0) ao) (af 3)) (ae (aD aE (aD aE (af 3) ao) (af 0)) ak))))))))
   (jd (ah (aI (i:=1) nd rfl (J6 rfl) (lu (af 1) (dQ (ae (aD aE (af 0) ao) (ae (aD aE (aD aE (af 0) ao) (af 0)) (ae (aD aE (aD aE (af 0) ao) (af 0)) ak))))))
   (jd (am (jn (aD aE (af 1) (dQ (oS (i:=0) (aD aE (af 0) ao) (sA (af 0)) ao (ae (aD aE (af 0) ao) ak)))))))))))))))),λds M R _ hS bk=>?_⟩)
 obtain⟨x,rfl,u,k⟩:=hS;refine bk ?_;clear bk;refine bE (λo g=>∃(p:A1) (a:List D),g p=some (.lst a)/\M p=none/\LeM M g/\a.length<=20/\(∀e∈a,Bd e)/\o=[some (.str x),some (.ref p),none,none]) (λnx n=>?_) ?_
 ·walk_at"";have C:=u.len;refine⟨sz3 0,sz3 1,sz3 2,_,if_pos (by rw[ln1];exact szB _ (by lia)),_,if_pos (by rw[ln2];exact szB _ (by lia)),sz3 16,λp j=>n _ _ ⟨p,_,ar,j,m5 j,by simp,λe I=>?_,rfl⟩⟩;have t:∀s:Str,s.length<=1000->cj s.cps.toList=false->Bd (.str s):=λs h1 h2=>cw (by lia) h2;simp only[A5,N3,or_false]at I;rcases I with rfl|rfl|rfl|rfl|rfl|rfl|rfl|rfl|rfl|rfl|rfl|rfl|rfl|rfl|rfl|rfl
  ·exact⟨rfl,rfl⟩
  ·exact⟨rfl,rfl⟩
  ·exact⟨rfl,rfl⟩
  ·exact⟨rfl,rfl⟩
  ·refine⟨?_,rfl⟩;simp only[aB,cH,Bool.and_true,decide_eq_true_eq];lia
  ·exact⟨by decide +kernel,rfl⟩
  ·exact t _ (by decide +kernel) (by decide +kernel)
  ·exact t _ (by decide +kernel) (by decide +kernel)
  ·exact t _ (by decide +kernel) (by decide +kernel)
  ·exact mZ u (by rw[ln1];decide) (by decide +kernel)
  ·exact gA u (by rw[ln2];decide) (by decide +kernel)
  ·exact t _ (by decide +kernel) (by decide +kernel)
  ·exact t _ (by decide +kernel) (by decide +kernel)
  ·exact t _ (by decide +kernel) (by decide +kernel)
  ·exact t _ (by decide +kernel) (by decide +kernel)
  ·exact t _ (by decide +kernel) (by decide +kernel)
 rintro _ M1 ⟨p,a,j,U,b,C,l,rfl⟩;refine et ?_;refine bE (λo g=>∃(a:List D) (m:Option D),g p=some (.lst a)/\LeM M g/\a.length<=40/\(∀e∈a,Bd e)/\o=[some (.str x),some (.ref p),m,none]) (λnx n=>?_) ?_
 ·walk_at"";refine⟨sz3 14,λ_=>?_⟩;refine cn (λi O g=>∃(a:List D) (m:Option D),g p=some (.lst a)/\LeM M g/\a.length<=20+i/\(∀e∈a,Bd e)/\O=[some (.str x),some (.ref p),m,none]) ⟨a,_,j,b,by lia,l,rfl⟩ ?_ ?_
  ·rintro i d O g X S ⟨a,m,j,b,C,l,rfl⟩ k';have hi:i<14:=(D8.mp S).1;obtain⟨s,rfl,L,N⟩:∃s:Str,d=.str s/\s.length<=1000/\gw s.cps.toList=true:=by
    have h:=N5 S;simp only[A5,N3,or_false]at h;rcases h with rfl|rfl|rfl|rfl|rfl|rfl|rfl|rfl|rfl|rfl|rfl|rfl|rfl|rfl<;>exact⟨_,rfl,by decide +kernel,by decide +kernel⟩
   refine⟨_,rfl,?_⟩;walk_at"";have Q:=u.len;refine⟨_,j,_,if_pos (szB _ (by lia)),_,j,A8 (by lia:a.length<1000) (sz3 1000),k' _ _ ⟨a++[.str (x++s)],_,ar,LeM.up b U,by simp;lia,λe I=>?_,rfl⟩⟩;rcases D9.mp I with h|h
   ·exact l e h
   ·rw[D6.mp h];exact gA u L N
  ·rintro O g ⟨a,m,j,b,C,l,rfl⟩;exact n _ _ ⟨a,m,j,b,by simp at C;lia,l,rfl⟩
 rintro _ M1 ⟨a,m,j,b,C,l,rfl⟩;refine et ?_;refine bE (λo g=>∃(a:List D) (m:Option D),g p=some (.lst a)/\LeM M g/\a.length<=60/\(∀e∈a,Bd e)/\o=[some (.str x),some (.ref p),m,none]) (λnx n=>?_) ?_
 ·walk_at"";refine⟨sz3 9,λ_=>?_⟩;refine cn (λi O g=>∃(a:List D) (m:Option D),g p=some (.lst a)/\LeM M g/\a.length<=40+i/\(∀e∈a,Bd e)/\O=[some (.str x),some (.ref p),m,none]) ⟨a,_,j,b,by lia,l,rfl⟩ ?_ ?_
  ·rintro i d O g X S ⟨a,m,j,b,C,l,rfl⟩ k';have hi:i<9:=(D8.mp S).1;obtain⟨s,rfl,L,N⟩:∃s:Str,d=.str s/\(s.length≠0/\s.length<=1000)/\(fB s.cps.toList=true∨s=z8 "a b"):=by
    have h:=N5 S;simp only[A5,N3,or_false]at h;rcases h with rfl|rfl|rfl|rfl|rfl|rfl|rfl|rfl|rfl<;>first|exact⟨_,rfl,by decide +kernel,.inl (by decide +kernel)⟩|exact⟨_,rfl,by decide +kernel,.inr rfl⟩
   refine⟨_,rfl,?_⟩;walk_at"";have Q:=u.len;have a1:x.length≠0:=by
    obtain⟨c,hc,_⟩:=u.let_;rw[bx];intro z;rw[List.length_eq_zero_iff.mp z]at hc;cases hc
   refine⟨_,j,L.1,a1,by rw[ln5];lia,_,j,A8 (by lia:a.length<1000) (sz3 1000),k' _ _ ⟨a++[.str (cp (s++x) (z8 "a b") (z8 "a  b"))],_,ar,LeM.up b U,by simp;lia,λe I=>?_,rfl⟩⟩;rcases D9.mp I with h|h
   ·exact l e h
   ·rw[D6.mp h];exact sj u L.2 N
  ·rintro O g ⟨a,m,j,b,C,l,rfl⟩;exact n _ _ ⟨a,m,j,b,by simp at C;lia,l,rfl⟩
 rintro _ M1 ⟨a,m,j,b,C,l,rfl⟩;refine et ?_;refine bE (λo g=>∃(p:A1) (a:List D) (m Z:Option D),g p=some (.lst a)/\M p=none/\LeM M g/\a.length<=100/\(∀e∈a,Bd e)/\o=[some (.str x),some (.ref p),m,Z]) (λnx n=>?_) ?_
 ·walk_at"";simp only[s_r,s_l];refine⟨_,eO (by decide) (by decide),?_⟩;walk_at"";refine⟨_,if_pos (by rw[aA,ln7];exact sz3 _ (by decide)),_,eO (by decide) (by decide),?_⟩;walk_at"";refine⟨_,if_pos (by rw[aA,ln7];exact sz3 _ (by decide)),sz3 9,λ_=>?_⟩;refine cn (λi O g=>∃(p:A1) (a:List D) (Z:Option D),g p=some (.lst a)/\M p=none/\LeM M g/\a.length<=60+3*i/\(∀e∈a,Bd e)/\O=[some (.str x),some (.ref p),m,Z]) ⟨p,a,_,j,U,b,by lia,l,rfl⟩ ?_ ?_
  ·rintro i d O g X S ⟨p,a,Z,j,U,b,C,l,rfl⟩ k';have hi:i<9:=(D8.mp S).1;obtain⟨s,rfl,L,N⟩:∃s:Str,d=.str s/\s.length<=1000/\jK s.cps.toList=true:=by
    have h:=N5 S;simp only[A5,N3,or_false]at h;rcases h with rfl|rfl|rfl|rfl|rfl|rfl|rfl|rfl|rfl<;>exact⟨_,rfl,by decide +kernel,by decide +kernel⟩
   obtain⟨b1,b2,b3⟩:=qt N;refine⟨_,rfl,?_⟩;walk_at"";have Q:=u.len;have hr:rdM g (.ref p)=.lst a:=er j;have J:(z8 " ").length=1:=by decide +kernel
   have a0:(z8 " ").cps.toList=[32]:=by decide +kernel
   refine⟨_,if_pos (by rw[J];exact szB _ (by lia)),?_⟩;walk_at"";refine⟨_,if_pos (by rw[aw,J];exact szB _ (by lia)),_,if_pos (by rw[J];exact szB _ (by lia)),?_⟩;walk_at"";refine⟨_,if_pos (by rw[aw,J];exact szB _ (by lia)),sz3 3,_,hr,sz3 _ (by lia),λq hq=>k' _ _ ⟨q,_,_,ar,LeM.none b hq,LeM.up b (LeM.none b hq),by simp;lia,λe I=>?_,rfl⟩⟩;rcases D9.mp I with h|h
   ·exact l e h
   ·simp only[A5,N3,or_false]at h;rcases h with rfl|rfl|rfl
    ·exact cw (by lia) b1
    ·refine cw (by rw[aw,aw,J];lia) ?_;rw[aX,aX,a0,O0];exact b2 _
    ·refine cw (by rw[aw,aw,J];lia) ?_;rw[aX,aX,a0,O0];exact b3 _
  ·rintro O g ⟨p,a,Z,j,U,b,C,l,rfl⟩;exact n _ _ ⟨p,a,_,_,j,U,b,by simp at C;lia,l,rfl⟩
 rintro _ M1 ⟨p,a,m,Z,j,U,b,C,l,rfl⟩;refine et ?_;refine bE (λo g=>∃(p:A1) (a:List D),g p=some (.lst a)/\M p=none/\LeM M g/\a.length<=110/\(∀e∈a,Bd e)/\o=[some (.str x),some (.ref p),m,Z]) (λnx n=>?_) ?_
 ·walk_at"";have Q:=u.len;have hr:rdM M1 (.ref p)=.lst a:=er j;refine⟨_,if_pos (by rw[ln3];exact szB _ (by lia)),_,if_pos (by rw[ln4];exact szB _ (by lia)),_,if_pos (by rw[aw,ln4];exact szB _ (by lia)),_,if_pos (by rw[ln6];exact szB _ (by lia)),_,if_pos (by rw[aw,ln6];exact szB _ (by lia)),sz3 3,_,hr,sz3 _ (by lia),λq hq=>n _ _ ⟨q,_,ar,LeM.none b hq,LeM.up b (LeM.none b hq),by simp;lia,λe I=>?_,rfl⟩⟩;rcases D9.mp I with h|h
  ·exact l e h
  ·simp only[A5,N3,or_false]at h;rcases h with rfl|rfl|rfl
   ·exact gA u (by rw[ln3];decide) (by decide +kernel)
   ·refine cw (by rw[aw,aw,ln4];lia) ?_;rw[aX,aX];exact dA (c:=10) (D0 _ (A4 _ (by decide +kernel))) (by decide) (bV (c:=10) (D0 _ (A4 _ (by decide +kernel))) (by decide))
   ·refine cw (by rw[aw,aw,ln6];lia) ?_;rw[aX,aX];exact dA (c:=10) (D0 _ (A4 _ (by decide +kernel))) (by decide) (bV (c:=10) (D0 _ (A4 _ (by decide +kernel))) (by decide))
 rintro _ M1 ⟨p,a,j,U,b,C,l,rfl⟩;refine et ?_;walk_at"";have Q:=u.len;have hr:rdM M1 (.ref p)=.lst a:=er j;have hu:=ud u;obtain⟨c,hc,a2,a5⟩:=u.let_;have Y:=vi hc a2 a5;have a3:(V8 x).length≠0:=by
  rw[bx];intro z;rw[List.length_eq_zero_iff.mp z]at Y;cases Y
 have a8:=qL (x:=x);have J:(z8 " ").length=1:=by decide +kernel
 have l3:(z8 "  a").length=3:=by decide +kernel
 refine⟨_,if_pos (by rw[J];exact szB _ (by lia)),by lia,_,rfl,by rw[aw,J];lia,a3,by rw[aw,J];exact szB _ (by lia),by lia,by rw[l3];exact szB _ (by lia),_,if_pos (by rw[l3];exact szB _ (by lia)),sz3 3,?_⟩;rw[hr];refine⟨_,if_pos (sz3 _ (by simp;lia)),M,b,k _ M (λ_ _ h=>h) (by simp;lia) λe I=>?_⟩;rcases D9.mp I with h|h
 ·exact l e h
 ·simp only[A5,N3,or_false]at h;rcases h with rfl|rfl|rfl
  ·refine cw (by rw[aw,aw,J];lia) ?_;rw[aX,aX];exact dA (c:=c-32) (A4 _ Y) (by simp only[bc,B2,Bool.not_eq_true',Bool.and_eq_false_iff,decide_eq_false_iff_not,decide_eq_true_eq];lia) (bV (c:=c) (D0 _ (D0 _ hc)) (by lia))
  ·refine cw (by rw[aw,l3];lia) ?_;rw[aX,show(z8 "  a").cps.toList=[32,32,97]by decide +kernel];exact mB
  ·exact gA u (by rw[l3];decide) (by decide +kernel)
theorem mQ{c:Nat}:∀{l:List Nat},((pcs c l).length:Int)=S9 c l+1
 |[]=>by rw[PyProof.Rows.cnt_nil];rfl
 |d::l=>by
  have ih:=mQ (c:=c) (l:=l);rw[PyProof.Rows.cnt_cons]
  by_cases h:d=c
  ·subst h;rw[bz,if_pos rfl,B6]
   lia
  ·obtain⟨p,r,e⟩:=cT c l;rw[e]at ih;rw[bD h e,if_neg h,B6];rw[B6]at ih
   lia
theorem vd{l:List Nat}(h:cj l=true)(a:l≠[49]):(kz l).length=(pcs 32 l).length:=by
 unfold cj at h;unfold kz;rw[decide_eq_false a,Z8]at h;rw[if_neg a];generalize pcs 32 l=b at h
 induction b with
 |nil=>rfl
 |cons p b ih =>
  rw[P1,B2]at h;obtain⟨x,e⟩:=E8.mp h.1;rw[K7,e,B6,B6];have:=ih h.2;simp only[this]
theorem sf{row:List (Str×Int)}(h:∀x∈row,bw x.1/\-3<=x.2/\x.2<=3):cj (iq row).cps.toList=true:=by
 have e:=lE (row:=row) λx a=>⟨(h x a).1,by have:=(h x a).2.1;lia,by have:=(h x a).2.2;lia⟩;rw[gQ]at e;cases b:cj (iq row).cps.toList with
 |true=>rfl
 |false=>rw[b]at e;cases e
def S_law:SpD:=λe M R=>∃a:List Int,e=[.scr (a.map .int)]/\M=noM/\a.length<=63/\∀b,R (.bl true) b
theorem uR(F:Fun K "law" "law" lh f G)(T:Txt B)(Y4:FnD P w K B base "_law_pool" 1 1 ky)(Y2:FnD P w K B base "_law_text" 3 1 ka)(a:FnD P w K B base "read_row" 6 1 c9)(G1:FnD P w K B base "_law_refused" 7 1 dR)(y3:FnD P w K B base "_law_as_read" 8 1 gf)(Y5:FnD P w K B base "_law_odd" 1 1 ng)(Y0:FnD P w K B base "_law_spoilt" 3 2 g9):aS P w K B base CX0 9 f G ["_law_script"] (spD K 1 S_law):=by
 have Y:=qo.nd;refine F.okR rfl qo (λa8 A Z s H E o=>⟨_,(ah (iP R9 rfl (bS (aD aE (dQ (ae aj ak)) (cP (af 0) en (dZ aj)))) (fN (i:=1) Y rfl (J6 rfl)) (ah (aI (i:=2) Y rfl (Z9 rfl) (qd Y4 o (ae (af 1) ak)))
   (ah (aI (i:=3) Y rfl (Z9 rfl) (qd Y2 o (ae (af 2) ak)))
   (ah (a7 (gP (dJ (aN (jg rfl) rfl T.b_all (by kernel_rfl) (ae (g6 (ms:=[false,false,false,false]) (aq:=["_law_odd_here"]) (aU rfl (show bq (ag lh) kP _ _=true from by decide +kernel)) rfl (bS (qd Y5 o (ae (af 3) ak))) (bH (i:=4) (show(kP++_).Nodup from by decide +kernel) rfl rfl) (λ_ _ _ _=>cq) (λ_ _ _ _=>(qd G1 o (ae (af 4) ak)))) ak)))) (am (aJ n5)) aO)
   (ah (a7 (aH (xX o.units) (aN cL rfl T.b_len (by kernel_rfl) (ae (qd a o (ae (af 3) ak)) ak)) (aD aE (jl (af 3) ao) aj) nbh) (am (aJ n5)) aO)
   (am (a7 (gP (dJ (aN (jg rfl) rfl T.b_all (by kernel_rfl) (ae (g6 (ms:=[false,false,true,true]) (aq:=["_law_turn"]) (aU rfl (show bq (ag lh) kP _ _=true from by decide +kernel)) rfl (fF rfl T.b_range (ae aj ak)) (bH (i:=4) (show(kP++_).Nodup from by decide +kernel) rfl rfl) (λ_ _ _ _=>cq) (λ_ _ _ _=>(qd y3 o (ae (qd Y0 o (ae (af 2) (ae (af 3) ak))) ak)))) ak)))) (am (aJ n5)) aO)))))))
   (am (aJ n5))),λds M R _ hS bk=>?_⟩)
 obtain⟨u,rfl,rfl,hn,k⟩:=hS;refine bk ?_;clear bk;walk_at"";obtain⟨I,a0,a5⟩:∃I:List Int,L2.dS (u.map D.int) none (some 8)=I.map D.int/\I.length<=8:=⟨u.take 8,by rw[show(8:Int)=((8:Nat):Int)from rfl,vw,List.map_take],by rw[Q9];lia⟩;rw[a0];refine⟨sz3 1,_,if_pos (sz3 _ (by rw[J4];lia)),_,rfl,λhz=>?_⟩;rw[show D.int 0::I.map D.int=(0::I).map D.int from rfl];refine cn (λi h M'=>∃S O L:Option D,h=[some (D.scr (u.map D.int)),S,O,L]) ⟨_,_,_,rfl⟩ ?_ ?_
 ·intro i d h M X N hI k';obtain⟨S,O,L,rfl⟩:=hI;obtain⟨c,hc,rfl⟩:=rJ N;simp only[fH];refine⟨_,rfl,?_⟩;refine bE (λe m=>∃(p:A1) (l:List D),m p=some (.lst l)/\aR l/\e=[some (D.scr (u.map D.int)),some (.int c),some (.ref p),L]) (λQ b=>?_) ?_
  ·walk_at"";exact⟨c,rfl,λp l g n=>b _ _ ⟨p,l,ar,n,rfl⟩⟩
  rintro _ M1 ⟨p,l,g,n,rfl⟩;refine bE (λe m=>∃(x:Str) (l:List D),Tx x/\cj x.cps.toList=true/\m p=some (.lst l)/\aR l/\e=[some (D.scr (u.map D.int)),some (.int c),some (.ref p),some (.str x)]) (λQ b=>?_) ?_
  ·walk_at"";exact⟨p,l,rfl,g,n,λa9 l' U h2 h3 t=>b _ _ ⟨_,l',uY U h2 h3,sf h3,ar,t,rfl⟩⟩
  rintro _ M2 ⟨x,l,hx,J,g,n,rfl⟩;have a3:=hx.len;refine bE (λe m=>m p=some (.lst l)/\e=[some (D.scr (u.map D.int)),some (.int c),some (.ref p),some (.str x)]) (λQ b=>?_) ?_
  ·walk_at"";refine⟨x,rfl,hx,λes M' a2 hl hb=>⟨es,rfl,λhz=>⟨hz,?_⟩⟩⟩;refine bb (λ_=>true) (λ_=>D.bl true) (λh=>∃z,h=[none,none,none,none,z]) es _ _ (λd N h a1=>?_) ⟨none,rfl⟩ ?_
   ·obtain⟨z,rfl⟩:=a1;refine⟨_,rfl,⟨_,rfl⟩,λQ1 q=>q,λ_ Q2 q=>?_⟩;walk_at"";exact⟨d,rfl,(hb d N).1,(hb d N).2,q⟩
   rw[E1,K9.mpr (λ_ _=>rfl)];refine⟨_,lV _,_,rfl,?_⟩;rw[if_neg (by decide)];exact b _ _ ⟨a2 _ _ g,rfl⟩
  rintro _ m ⟨g,rfl⟩;refine bE (λe m=>m p=some (.lst l)/\e=[some (D.scr (u.map D.int)),some (.int c),some (.ref p),some (.str x)]) (λQ b=>?_) ?_
  ·walk_at"";refine⟨x,rfl,by lia,J,?_⟩;walk_at"";rw[J4,vd J (by obtain⟨c,U,h2⟩:=hx.n49;exact bV U h2),mQ,rL,show S5 x (tx [32])=S9 32 x.cps.toList from L2.fT x 32];rw[if_neg (by simp)];exact b _ _ ⟨g,rfl⟩
  rintro _ M4 ⟨g,rfl⟩;walk_at"";refine⟨by rw[fu];exact sz3 _ (by decide),?_⟩;refine kQ (λj C h M5=>∃(z:Option D) (l:List D),M5 p=some (.lst l)/\aR l/\C=(O5 j).map (λ_=>D.bl true)/\h=[none,none,some (.ref p),some (.str x),z]) ⟨none,l,g,n,rfl,rfl⟩ ?_ ?_
  ·rintro j d C h M5 X2 a4 ⟨z,l,g,n,rfl,rfl⟩ k2;obtain⟨hj,rfl⟩:=dv a4;refine⟨_,rfl,?_⟩;simp only[n8];walk_at"";refine⟨p,l,x,rfl,g,n,a3,λy l' hy t=>⟨y,rfl,by lia,k2 _ _ _ ⟨_,l',ar,t,?_,rfl⟩⟩⟩;rw[List.range_succ,X7];rfl
  ·rintro C h M5 ⟨z,l,g,n,rfl,rfl⟩;refine⟨_,lV _,_,rfl,?_⟩;rw[if_neg (by decide)];exact k' _ _ ⟨_,_,_,rfl⟩
 ·rintro h M ⟨S,O,L,rfl⟩;walk_at"";exact k _
end
theorem wZ:vR S_law:=λb R a e=>⟨b,rfl,rfl,a,e⟩
theorem uG{l:PySem.W.OpenLaw}{w:F8}{K:s0}{h:C9}{mg:Str->Option o0}{fa:A1}(X:K.In h)(G:h.Ns B1 mg)(q1:mg "law"=some (.ref fa))
  {f0:A1} {d0:B7}
  {f1:A1} {d1:B7}
  {f2:A1} {d2:B7}
  {f3:A1} {d3:B7}
  {f4:A1} {d4:B7}
  {f5:A1} {d5:B7}
  {f6:A1} {d6:B7}
  {f7:A1} {d7:B7}
  {f8:A1} {d8:B7}
  {f9:A1} {d9:B7}
  {m0:A1} {q9:B7}
  {l5:A1} {l2:B7}
  {l0:A1} {q2:B7}
  {o':A1} {k5:B7}
  {n':A1} {r7:B7}
  {l3:A1} {q':B7}
  {r9:A1} {k3:B7}
  {q5:A1} {k1:B7}
  {p3:A1} {j2:B7}
  {j3:A1} {n2:B7}
  {p':A1} {r5:B7}
  {q4:A1} {p1:B7}
  {l8:A1} {m1:B7}
  {q3:A1} {k':B7}
  {g:Tok}
  {j:Tok}
  {x:Tok}
  {H:Tok}
  {W WN:A1} {wn wq:Str} {l1:List o0} {wh:Bool} {r1:List Str} {g':List o0} {o1:Bool} {h3:Option Bool} {p2:Option A1} {w0 w1 w2 w3 w5:Option o0} {g1:String} {r2:o0} {r4:Option A1} {h':Array ac6} {p4:Nat} {r':Array (Option o0)}
  {A:A1}
  {E:A1}
  {f:A1}
  {B:A1}
  {m:A1}
  {b:A1}
  {p:A1}
  {N:A1}
  {C:A1}
  {o s2:A1} {q6 n0:Str} {i0:List o0}  {h0:List Str} {e3:List o0} {i':Bool} {c6:Option Bool} {h4:Option A1} {k2 q8 o2 n7 j':Option o0}
  {b2:A1} {g2 f':Option A1} {h1:Array (Option o0)} {i1 h7 h2 b4 g4:o0}
  (x0:bP K "is_whole" c7 f0 d0)
  (x1:bP K "is_tuple_of" b6 f1 d1)
  (x2:bP K "is_short_word" bo f2 d2)
  (x3:bP K "turn_in" dF f3 d3)
  (x4:bP K "_law_pool" gE f4 d4)
  (x5:bP K "_law_draw" gD f5 d5)
  (x6:bP K "_law_alone" ec f6 d6)
  (x7:bP K "_law_odd" jy f7 d7)
  (x8:bP K "_law_sign_of" cG f8 d8)
  (x9:bP K "is_mark" dU f9 d9)
  (d':bP K "is_turn" dE m0 q9)
  (b5:bP K "sign_in" dn l5 l2)
  (b':bP K "_law_word" cQ l0 q2)
  (b8:bP K "_law_sign" gS o' k5)
  (e1:bP K "_law_row_of" cV n' r7)
  (c':bP K "is_sign" dO l3 q')
  (c2:bP K "_law_text" g5 r9 k3)
  (e2:bP K "_law_spoilt" eL q5 k1)
  (b9:bP K "is_row" dh p3 j2)
  (c3:bP K "row_in" cW j3 n2)
  (a3:bP K "read_row" ck p' r5)
  (c0:bP K "_law_refused" dw q4 p1)
  (e0:bP K "_law_as_read" cD l8 m1)
  (e':bP K "law" lh q3 k')
  (z:C7 K B1 "isinstance"=some none)
  (c5:C7 K B1 "int"=some none)
  (b3:C7 K B1 "bool"=some none)
  (a':C7 K B1 "tuple"=some none)
  (e4:C7 K B1 "len"=some none)
  (c1:C7 K B1 "str"=some none)
  (c4:C7 K B1 "all"=some none)
  (e5:C7 K B1 "abs"=some none)
  (b0:C7 K B1 "range"=some none)
  (u:C7 K B1 "ValueError"=some none)
  (i:C7 K B1 "SMALL_LETTERS"=some (some (.str "abcdefghijklmnopqrstuvwxyz" g)))
  (n:C7 K B1 "MOST_LETTERS"=some (some (.int 8 j)))
  (L:C7 K B1 "MOST_TURN"=some (some (.int 99 x)))
  (O:C7 K B1 "NO_SIGNS"=some (some (.str "1" H)))
  (aW:C7 K B1 "WishError"=some (some (.ref W)))
  (lW:K.lookup W=some (K8 wn wq W WN l1 [.type "ValueError",.type "Exception",.type "BaseException",.type "object"] wh r1 g' o1 h3 p2 w0 w1 w2 w3 w5 g1))
  (nW:K.lookup WN=some ⟨r2,r4,.dict h' p4,r'⟩)
  (hW:h'.toList.all (λe=>e.key.isStr "__init__"==false&&match e.key with|.str _ _=>true|_=>false)=true)
  (sW:V1 K (.ref W) "__getattribute__"=some (some (.builtin "type.__getattribute__")))
  (rW:PySem.W.readsIn K W (.type "type")=true)
  (fW:PySem.W.findCls K (.ref W) (.type "type") "__init__"=some (.val (.builtin "ValueError.__init__")))
  (i4:V1 K (.builtin "object.__class__") "__get__"=some (some (.builtin "getset_descriptor.__get__")))
  (i5:PySem.W.takesIn K (.builtin "object.__class__")=some true)
  (a4:C7 K B1 "NoText"=some (some (.ref A)))
  (a8:C7 K B1 "NoWord"=some (some (.ref E)))
  (J:C7 K B1 "NoLexicon"=some (some (.ref f)))
  (a9:C7 K B1 "NoStep"=some (some (.ref B)))
  (R:C7 K B1 "NoNumber"=some (some (.ref m)))
  (M:C7 K B1 "NoDrawing"=some (some (.ref b)))
  (S:C7 K B1 "NoWorld"=some (some (.ref p)))
  (b1:C7 K B1 "NoRow"=some (some (.ref N)))
  (a2:C7 K B1 "NoKept"=some (some (.ref C)))
  (n1:C7 K B1 "NoText"=some (some (.ref o)))
  (q7:M8 K (.ref o)=true)
  (h6:K.lookup o=some (K8 q6 n0 o s2 i0 [.ref W,.type "ValueError",.type "Exception",.type "BaseException",.type "object"] true h0 e3 i' c6 h4 k2 q8 o2 n7 j' "ValueError.__new__"))
  (m2:F2 K (.ref o) "__getattribute__"=some (some (.builtin "BaseException.__getattribute__")))
  (s1:F2 K (.ref o) "__getattr__"=some none)
  (k0:W5 K o (.type "BaseException")=some true)
  (r3:(PySem.W.clsIn K o).isSome=true)
  (r6:F2 K (.ref o) "__class__"=some (some (.builtin "object.__class__")))
  (g3:W5 K o (.type "object")=some true)
  (l':C3 K (.ref o) (.type "ValueError")=some true)
  (a1:C3 K (.ref o) (.ref A)=some true)
  (Z:C3 K (.ref o) (.ref E)=some false)
  (q:C3 K (.ref o) (.ref f)=some false)
  (a0:C3 K (.ref o) (.ref B)=some false)
  (I:C3 K (.ref o) (.ref m)=some false)
  (t:C3 K (.ref o) (.ref b)=some false)
  (Q:C3 K (.ref o) (.ref p)=some false)
  (a5:C3 K (.ref o) (.ref N)=some false)
  (U:C3 K (.ref o) (.ref C)=some false)
  (k4:F2 K (.ref o) "__init__"=some (some (.ref b2)))
  (j1:K.lookup b2=some ⟨.type "function",g2,.func (P0 "__init__" "NoText.__init__" (cF eh) (bI eh) (ag eh) .none i1 h7 h2 f' b4 g4),h1⟩)
  (l4:V2 K b4 "NoText.__init__"=true)
  (m':M8 K (.ref b2)=true)
  (p9:F2 K (.ref o) "__setattr__"=some (some (.builtin "object.__setattr__")))
  (h9:F2 K (.ref o) "part"=some none)
  (p5:PySem.W.hasDictIn K o=true)
 :∃fd:B7,(∀(s:z4) (v:o0),ab8 s fd ⟨[v],[]⟩ [("_law_script",v)])/\∀base:C9,K.In base->base.Ns B1 mg->aS l.prog w K mg base CX0 9 fa fd ["_law_script"] (spD K 1 S_law):=by
 have T:Txt mg:=⟨H0 X G z,H0 X G c5,H0 X G b3,H0 X G a',H0 X G e4,H0 X G c1,H0 X G c4,H0 X G e5,H0 X G b0,H0 X G u,⟨_,D7 X G i⟩,⟨_,D7 X G n⟩,⟨_,D7 X G L⟩,⟨_,D7 X G O⟩⟩;have Y:rN K mg o W b2:=⟨⟨D7 X G n1,D7 X G aW,q7,⟨_,_,_,_,_,_,_,_,_,_,_,_,_,_,h6⟩,k4,⟨_,_,_,_,_,_,_,_,_,lW,nW,hW⟩,sW,rW,fW,p9,g3,h9⟩,⟨p5,h9⟩,D7 X G aW,al1 ⟨_,_,_,_,_,_,_,_,_,_,_,_,_,_,_,_,_,h6,by simp⟩,⟨_,_,_,_,_,_,_,_,_,_,_,_,_,_,_,_,_,lW,by simp⟩,al1 ⟨m2,s1,k0,r3,r6,i4,i5,g3⟩,ix1 l',⟨_,D7 X G a4,ix1 a1⟩,⟨_,D7 X G a8,ix1 Z⟩,⟨_,D7 X G J,ix1 q⟩,⟨_,D7 X G a9,ix1 a0⟩,⟨_,D7 X G R,ix1 I⟩,⟨_,D7 X G M,ix1 t⟩,⟨_,D7 X G S,ix1 Q⟩,⟨_,D7 X G b1,ix1 a5⟩,⟨_,D7 X G a2,ix1 U⟩⟩;have h8:=lG (st:=eh) j1 l4 m';have h5:=bd2 h8 λ_ _ _ _ _ _ _ _=>rfl;refine uq X G q1 e' (λ_ _ _ _ _ _ _=>rfl) λbase=>?_;have G7:=fg X G x0 (iu (P:=l.prog) (w:=w) (base:=base) x0.F T ) (bd1 x0.F λ_ _ _ _ _ _ _=>rfl);have G5:=fg X G x1 (fQ (P:=l.prog) (w:=w) (base:=base) x1.F T ) (bd2 x1.F λ_ _ _ _ _ _ _ _=>rfl);have G3:=fg X G x2 (eU (P:=l.prog) (w:=w) (base:=base) x2.F T ) (bd1 x2.F λ_ _ _ _ _ _ _=>rfl);have G9:=fg X G x3 (jW (P:=l.prog) (w:=w) (base:=base) x3.F T ) (bd1 x3.F λ_ _ _ _ _ _ _=>rfl);have Y4:=fg X G x4 (nu (P:=l.prog) (w:=w) (base:=base) x4.F T ) (bd1 x4.F λ_ _ _ _ _ _ _=>rfl);have G0:=fg X G x5 (nP (P:=l.prog) (w:=w) (base:=base) x5.F T ) (bd2 x5.F λ_ _ _ _ _ _ _ _=>rfl);have Y1:=fg X G x6 (lz (P:=l.prog) (w:=w) (base:=base) x6.F T Y ) (bd2 x6.F λ_ _ _ _ _ _ _ _=>rfl);have Y5:=fg X G x7 (pE (P:=l.prog) (w:=w) (base:=base) x7.F T ) (bd1 x7.F λ_ _ _ _ _ _ _=>rfl);have y2:=fg X G x8 (jr (P:=l.prog) (w:=w) (base:=base) x8.F T ) (bd1 x8.F λ_ _ _ _ _ _ _=>rfl);have G8:=fg X G x9 (jH (P:=l.prog) (w:=w) (base:=base) x9.F T G3) (bd1 x9.F λ_ _ _ _ _ _ _=>rfl);have y0:=fg X G d' (jP (P:=l.prog) (w:=w) (base:=base) d'.F T G7) (bd1 d'.F λ_ _ _ _ _ _ _=>rfl);have y4:=fg X G b5 (jj (P:=l.prog) (w:=w) (base:=base) b5.F T G9) (bd1 b5.F λ_ _ _ _ _ _ _=>rfl);have Y3:=fg X G b' (nV (P:=l.prog) (w:=w) (base:=base) b'.F T G0) (bd2 b'.F λ_ _ _ _ _ _ _ _=>rfl);have G4:=fg X G b8 (nO (P:=l.prog) (w:=w) (base:=base) b8.F T G0) (bd1 b8.F λ_ _ _ _ _ _ _=>rfl);have y8:=fg X G e1 (kZ (P:=l.prog) (w:=w) (base:=base) e1.F T y2) (bd1 e1.F λ_ _ _ _ _ _ _=>rfl);have y7:=fg X G c' (jY (P:=l.prog) (w:=w) (base:=base) c'.F T G5 G8 y0) (bd1 c'.F λ_ _ _ _ _ _ _=>rfl);have Y2:=fg X G c2 (nX (P:=l.prog) (w:=w) (base:=base) c2.F T Y3 G0) (bd1 c2.F λ_ _ _ _ _ _ _=>rfl);have Y0:=fg X G e2 (k8 (P:=l.prog) (w:=w) (base:=base) e2.F T G0 G4) (bd2 e2.F λ_ _ _ _ _ _ _ _=>rfl);have y9:=fg X G b9 (kY (P:=l.prog) (w:=w) (base:=base) b9.F T y7) (bd1 b9.F λ_ _ _ _ _ _ _=>rfl);have G2:=fg X G c3 (kq (P:=l.prog) (w:=w) (base:=base) c3.F T y4 y9) (bd1 c3.F λ_ _ _ _ _ _ _=>rfl);have a:=fg X G a3 (iG (P:=l.prog) (w:=w) (base:=base) a3.F T G2) (bd1 a3.F λ_ _ _ _ _ _ _=>rfl);have G6:=fgY X G a3 (il (P:=l.prog) (w:=w) (base:=base) a3.F T Y (pJ h8 Y.p0) h5 ⟨_,j1,rfl⟩ G2) (bd1 a3.F λ_ _ _ _ _ _ _=>rfl);have G1:=fg X G c0 (jR (P:=l.prog) (w:=w) (base:=base) c0.F T Y G6 Y1) (bd1 c0.F λ_ _ _ _ _ _ _=>rfl);have y3:=fg X G e0 (jC (P:=l.prog) (w:=w) (base:=base) e0.F T y8 G1 a) (bd1 e0.F λ_ _ _ _ _ _ _=>rfl);exact uR e'.F T Y4 Y2 a G1 y3 Y5 Y0
end My
namespace PySem.W.Fast
def tw10037944355553542982:=Nat
def tw10080524876731932220:=Nat
def tw10093206851224596800:=Nat
def tw10123432458476444479:=Nat
def tw1029287587631464463:=Nat
def tw10292923745344041462:=Nat
def tw10293626889388364501:=Nat
def tw10315831569212727556:=Nat
def tw10318239110913389973:=Nat
def tw10444694358026768513:=Nat
def tw10563816906155480622:=Nat
def tw10649294845859309841:=Nat
def tw10880830597513830719:=Nat
def tw10905705215849292026:=Nat
def tw1093821164027124529:=Nat
def tw1094352988332209969:=Nat
def tw11019729040952729888:=Nat
def tw11053941354734211784:=Nat
def tw11145588839858869244:=Nat
def tw1131475710421713114:=Nat
def tw11392358053778169955:=Nat
def tw11479652631144010500:=Nat
def tw11561671240698211827:=Nat
def tw11707956318609692882:=Nat
def tw11777980128296705489:=Nat
def tw117860418281396379:=Nat
def tw11915712497842450092:=Nat
def tw11938434004073995262:=Nat
def tw11984276724562812015:=Nat
def tw12224073803245627322:=Nat
def tw12356072166730357596:=Nat
def tw12376052498736818147:=Nat
def tw12405612895802340513:=Nat
def tw12468800066740495304:=Nat
def tw125286356560070781:=Nat
def tw12566633582683414999:=Nat
def tw12572652871131928668:=Nat
def tw13089649428786956818:=Nat
def tw13135596617979862647:=Nat
def tw13171793711721964845:=Nat
def tw13389903145181403074:=Nat
def tw13626709682565845298:=Nat
def tw13725133099396876368:=Nat
def tw13851787602252988595:=Nat
def tw1387763417427560448:=Nat
def tw14092850651186347934:=Nat
def tw14149492923046845934:=Nat
def tw14168676338495238044:=Nat
def tw14184819330694285738:=Nat
def tw14222160226923287876:=Nat
def tw14242614934098648983:=Nat
def tw14283264187074435393:=Nat
def tw14312248955501628242:=Nat
def tw14348752006662192467:=Nat
def tw14388801616692579952:=Nat
def tw14698406079862143406:=Nat
def tw1472856075126817718:=Nat
def tw14940801887255173129:=Nat
def tw15224268687446099084:=Nat
def tw15225167330423585743:=Nat
def tw15252938523323950428:=Nat
def tw15254103466542485091:=Nat
def tw15411635996198254558:=Nat
def tw15469827005442809428:=Nat
def tw15624811455443175173:=Nat
def tw15707821625869042764:=Nat
def tw15734478489704518657:=Nat
def tw15804667285379639596:=Nat
def tw15810804744382146629:=Nat
def tw15831297169464372427:=Nat
def tw16073694966321698448:=Nat
def tw16217079065716746045:=Nat
def tw16235780923538490424:=Nat
def tw16261933538173387352:=Nat
def tw16675797261049211260:=Nat
def tw16706128636945032585:=Nat
def tw17045793470103430330:=Nat
def tw17069290266888280738:=Nat
def tw17103816716596240220:=Nat
def tw17251491506248676837:=Nat
def tw17275939276829168299:=Nat
def tw17289400283110326267:=Nat
def tw1730626666802545338:=Nat
def tw17401762545095726978:=Nat
def tw17410918032347110140:=Nat
def tw17431791628305407223:=Nat
def tw17539465407939306388:=Nat
def tw17646226067624384033:=Nat
def tw17735986454637504287:=Nat
def tw17880700141210217228:=Nat
def tw18035900348506301321:=Nat
def tw18080084175620269006:=Nat
def tw18101910509708823803:=Nat
def tw18205220118645721736:=Nat
def tw183325530646042531:=Nat
def tw18339624072439688541:=Nat
def tw1898168154365813446:=Nat
def tw2061216169402162327:=Nat
def tw2067369723747539536:=Nat
def tw2082867022522228510:=Nat
def tw213410951328864401:=Nat
def tw2193011438485994248:=Nat
def tw2259344891368000294:=Nat
def tw2272633117110399760:=Nat
def tw2274591658839752509:=Nat
def tw2335915087759550609:=Nat
def tw2379512473745391826:=Nat
def tw2380997873316224399:=Nat
def tw2425355887906951037:=Nat
def tw2425907910233630863:=Nat
def tw2493127902709969819:=Nat
def tw2647130034646598199:=Nat
def tw273634617196507539:=Nat
def tw2803472753003155399:=Nat
def tw2819281307929217598:=Nat
def tw2839639973460910548:=Nat
def tw2854866045402294862:=Nat
def tw2892852937776067119:=Nat
def tw2916490033874320819:=Nat
def tw2957348627220231152:=Nat
def tw2970460823463369994:=Nat
def tw3049991133707990802:=Nat
def tw3282908086401189629:=Nat
def tw3457234671293720253:=Nat
def tw3590535489303304880:=Nat
def tw3601227854110992682:=Nat
def tw3750893479306904929:=Nat
def tw38978973777698746:=Nat
def tw3910329899789052297:=Nat
def tw3920922127864664685:=Nat
def tw3936843696643961148:=Nat
def tw3938686234301114309:=Nat
def tw4003724995292454336:=Nat
def tw4012706167128361239:=Nat
def tw4191397432301666000:=Nat
def tw4262079904680111499:=Nat
def tw427820851323681813:=Nat
def tw4279756783542540915:=Nat
def tw4383746697184937741:=Nat
def tw4590514258952952937:=Nat
def tw4603891181887635138:=Nat
def tw4729935094473243635:=Nat
def tw4888436551814718243:=Nat
def tw5015077738352271278:=Nat
def tw5167782103523425014:=Nat
def tw5191757451132052870:=Nat
def tw5201862622199280230:=Nat
def tw5296607674077501232:=Nat
def tw5594911259052421411:=Nat
def tw5620016152531543875:=Nat
def tw5655894039312869191:=Nat
def tw5759271902976708118:=Nat
def tw5822907718965969428:=Nat
def tw5987695720619538577:=Nat
def tw6057269763142411570:=Nat
def tw6108445027594649657:=Nat
def tw6223820283149963348:=Nat
def tw6265170199437458893:=Nat
def tw6273390977350111736:=Nat
def tw6293407129248734926:=Nat
def tw6330071603071307666:=Nat
def tw6393222499018709116:=Nat
def tw6406557240307979305:=Nat
def tw6533522276902126160:=Nat
def tw6655499816484744531:=Nat
def tw6668963929084438110:=Nat
def tw6861403509279416690:=Nat
def tw687431854699772151:=Nat
def tw6926647529424680403:=Nat
def tw6935106298791496287:=Nat
def tw6936884611157216461:=Nat
def tw7066990939326180737:=Nat
def tw7182339389397421810:=Nat
def tw7215970735122505563:=Nat
def tw7284148750903149436:=Nat
def tw7284302646474871312:=Nat
def tw7361144480189156577:=Nat
def tw7435202784015587826:=Nat
def tw7444256633287229997:=Nat
def tw7561151864617016100:=Nat
def tw7769672515167192363:=Nat
def tw7796599211950761980:=Nat
def tw7832500403917960684:=Nat
def tw7867268968331086794:=Nat
def tw7902506394058136995:=Nat
def tw7954166501367697444:=Nat
def tw7961802369850601303:=Nat
def tw7967785918525604294:=Nat
def tw8039358987798765223:=Nat
def tw8383509379661222926:=Nat
def tw8384260550654309868:=Nat
def tw8498412229705123357:=Nat
def tw8499906058590330207:=Nat
def tw862520360042965828:=Nat
def tw8636084845869541531:=Nat
def tw8832050222026317389:=Nat
def tw8871573717949455460:=Nat
def tw905522430334315670:=Nat
def tw9057501396387120098:=Nat
def tw9194049996515270777:=Nat
def tw9220879484703609186:=Nat
def tw9256242402248817664:=Nat
def tw9284914678625353923:=Nat
def tw9320489658773791196:=Nat
def tw9332864669573170370:=Nat
def tw939604090989229704:=Nat
def tw9481583433046452679:=Nat
def tw9508906311775818137:=Nat
def tw9625791456112446785:=Nat
def tw9691273029280051155:=Nat
def tw9733155415214130084:=Nat
def tw9781896080487110190:=Nat
def tw9820797654495010264:=Nat
def tw9896865678873105564:=Nat
end PySem.W.Fast
open PySem PySem.W PyProof.Rows
set_option maxRecDepth 100000 in
set_option maxHeartbeats 0 in
theorem PySem.Challenge.cw_wordwishes_k06_texts_of_no_row_holds : PySem.Challenge.rw_wordwishes_k06_texts_of_no_row.Holds := by
 w_on;o_law;z_head;(case hw=>w_witness2)
 k_fill
 refine L2.pW (fun _=>rfl) ?_;refine L2.wL (S:=My.S_law) My.wZ (k:=9) (x:="_law_script") (l:=PySem.Challenge.rw_wordwishes_k06_texts_of_no_row) ⟨rfl,by decide,by decide⟩ rfl rfl (fun w h Y=>Y) ?F
 case F =>
  intro w f e h b G a
  refine' My.uG b G a ?_ ?_ ?_ ?_ ?_ ?_ ?_ ?_ ?_ ?_ ?_ ?_ ?_ ?_ ?_ ?_ ?_ ?_ ?_ ?_ ?_ ?_ ?_ ?_ ?_ ?_ ?_ ?_ ?_ ?_ ?_ ?_ ?_ ?_ ?_ ?_ ?_ ?_ ?_ ?_ ?_ ?_ ?_ ?_ ?_ ?_ ?_ ?_ ?_ ?_ ?_ ?_ ?_ ?_ ?_ ?_ ?_ ?_ ?_ ?_ ?_ ?_ ?_ ?_ ?_ ?_ ?_ ?_ ?_ ?_ ?_ ?_ ?_ ?_ ?_ ?_ ?_ ?_ ?_ ?_ ?_ ?_
  all_goals try first|exact L2.xl (by k_is) (by k_is) (by k_is) (by k_is)|exact L2.lG (by k_is) (by k_is) (by k_is)|k_is|exact rfl
