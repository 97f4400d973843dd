import PyProof.Rows.All
import Wide.All
import OpenK.AllK
import Wide.FinOn
import Lean
import PyProof.EqAt
import PyProof.EqKinds
import PyProof.TupleCall
import KE.KRevIter
import PyProof.NeKinds
import PyProof.Draws
import PyProof.EnumMake
import KE.KSortTup
import PyProof.ZipIter
import KE.KDictList
import PyProof.AttrMissHeap
import KE.KDictOf
import PyProof.Rows.SetFrom
import PyProof.Rows.SortRunsK
import PyProof.IsRules
import PyProof.SetRoads
import KE.KSortKey
import PyProof.RulesDel
import PyProof.DelItemList
import PySem.Challenge.RW_wordwishes_k32_whole_rows_that_come
set_option Elab.async false
set_option linter.all false
set_option maxRecDepth 100000
set_option maxHeartbeats 4000000
set_option bootstrap.genMatcherCode false
set_option compiler.extract_closed false
noncomputable section
open PySem.W renaming Frag->o0,cellsFrom_some->N9,WData->R3,keepIn->U1,fnOf->W0
open PySem renaming wpAny_bind->s0,Value->u8,Shared->F1,sizeLine->F2,wpAny_pure->F4,Addr->F9,starEach->J1,Builtin->J3,wpAny->J4,Expr->J5,NameKind->J9,wpAny_newObj_type->K0,model->K3,Heap->K4,mem_of_lookup->K5,Program->L5,compareOp->L6,wpAny_mono->M8,assignEach->M9,Around->N3,wpAny_callSpecial?_slot->N6,foldedSetIterable->O1,wpAny_field->O4,cellsFrom->O6,wpAny_truthy_bool->O7,binaryOp->P2,wpAny_call_entry->P3,Paired->P5,World->P6,bootBuiltins->Q9,Scope->R0,wpAny_passesOwn->R8,wpAny_comprehension_free->S1,behindInMarks->S2,wpAny_holding->S3,wpAny_getItem_str_slice->S6,Spec->S9,letOwnedTupleGo->T1,sliceBounds->T3,builtinLookup_eq_fast->T4,wpAny_of_eq->T5,sysModules->T6,eval->T8,assign->U0,backTo->U6,wpAny_standAt->U7,FuncData->U8,wpAny_loadPart'->V0,newFunctionEnv->V6,isSubtype_type->V7,wpAny_setField->V8,swapsWith->V9,attributeBase->W3,Comprehension->W4,call_meets->W5,wpAny_execs_nil->W7,getItem->X1,wpAny_specialOf->X4,relabel->X5,post_val_or_str->X6,typeLookup_type->X7,codeAny->X9,firstArgMember->Z1,rawInt->Z3,cLine->Z9,tupleKind->aa0,Stmt->aa2,wpAny_typeOf->aa3,typeIs_int->aa7,mainGlobals->ab1,holding->ab2,IsRangeIter->ab3,subscripted->ab4,keywordEach->ab5,Keyword->ab6,IsPart->ac0,CmpOp->ac2,valueAt->ac5,pyNext->ac6,Operator->ac7,compEnvC->ac8,inplaceOp->ac9,PassesOwn->ad0,lastMarks->ad1,Result->ad2
open PySem.Heap renaming get?_push_of_some->F0,lt_size->F5,get?_push_size->F7,SameBut->N8,size_push->R5,get?_update_self->T2
open List renaming size_toArray->F3,mem_append_right->I0,replicate->J0,lookup_cons->J8,mem_cons_of_mem->K8,getElem?_eq_some_iff->L3,length_append->L8,getElem?_append_left->L9,mem_cons_self->M0,mem_singleton->N1,mem_cons->N5,map_cons->N7,replicate_succ->O8,any_cons->O9,mem_filterMap->P1,getElem?_map->P7,filterMap_cons->P9,find?_cons->Q0,getElem?_set_self->Q3,getElem?_append_right->Q4,all_eq_true->Q8,flatten_cons->R9,getElem?_replicate->S5,length_cons->S8,range->T7,getElem?_set_ne->T9,mem_append->U5,nodup_cons->U9,all_cons->V1,reverse_cons->V4,length_nil->W8,append_nil->W9,length_map->X0,mem_range->X8,length->Z5,lookup->ab7,foldl->ac4
open Nat renaming le_refl->F6,lt_of_lt_of_le->F8,ne_of_lt->H0,lt_succ_of_lt->K6,le_trans->L7,lt_irrefl->O0,lt_succ_self->P4,zero_le->R4,ne_of_gt->T0,le_of_succ_le->V5,le_succ->Z8
open Option.some renaming inj->J6
open PyProof.Rows renaming slot_tuple_getitem->J7,callWith_type1->N2,slicePart_none->Z0,kindOf->Z4,tupleItemsOf_->Z6,AllBare->aa1,IsTup->ab8,envOfC->ab9,Subscript_->ac3
open Bool renaming and_eq_true->K1,false_ne_true->L4,false_eq_true->M7
open PySem.Builtin.Tuple renaming tupleExact->K2,tupleItemsOf->Q6
open PySem.NameKind renaming free->K7,cell->P0
open Option renaming some->K9,isSome_iff_exists->O2,map_some->R7
open PySem.Builtin.Slice renaming slicePlaces->N0,sliceApplied->Q5
open PySem.SeqAt renaming EqAt->N4
open PySem.Builtin.Range renaming rangeSize->O3
open ForInStep renaming yield->O5
open PySem.Value renaming ref->P8,none->V3,type->ac1
open PySem.F renaming slot_tuple_iterator_next->Q7,slot_int_rmul->X3
open PySem.Obj renaming data_mapFields->R1,mapSeq->aa6
open PySem.Builtin.SmallTypes renaming nextOf->R6
open PySem.Builtin.List renaming listTooLong->S0
open PySem.Builtin.Str renaming occurrences->S4
open PySem.Heap.SameBut renaming update->S7
open Array renaming length_toList->U2
open False renaming elim->U3
open PySem.Str renaming ofString->U4
open Pure renaming pure->V2
open PySem.Paired renaming length->W1
open Ne renaming symm->W6
open PySem.Code renaming compLoop->Z7
open PySem.Txt renaming slice->aa4,slice_le->aa5
open True renaming intro->aa8
open Sum renaming inl->aa9,inr->ab0
open LawfulMonad renaming pure_bind->ad3
set_option compiler.extract_closed false
namespace L2
open PySem PySem.Spec PyProof.Rows
abbrev Key:=Sum Int Str
def nN:Key->u8->Bool
 |.inl k,v=>u8.isInt k v
 |.inr x,v=>u8.isStrOf x v
noncomputable def Fc(w:P6):Key->Int
 |.inl k=>hashInt k
 |.inr x=>hashStr w x
theorem bC:∀{k:Key}{v:u8},nN k v=true->(∃i t,k=aa9 i/\v=u8.int i t)∨(∃x t,k=ab0 x/\v=u8.str x t)
 |.inl i,v,h=>by
  obtain⟨t,e⟩:=u8.isInt_shape (k:=i) (v:=v) h;exact .inl ⟨i,t,rfl,e⟩
 |.inr x,v,h=>by
  obtain⟨t,e⟩:=u8.isStrOf_shape (x:=x) (v:=v) h;exact .inr ⟨x,t,rfl,e⟩
theorem vy(i:Int) (t:Tok):nN (.inl i) (.int i t)=true:=by simp[nN,u8.isInt]
theorem vc(x:Str) (t:Tok):nN (.inr x) (.str x t)=true:=by simp[nN,u8.isStrOf]
theorem By(a b:Int):decide ((aa9 a:Key)=aa9 b)=(a==b):=by
 by_cases e:a=b
 ·subst e;simp
 ·have h:¬ (aa9 a:Key)=aa9 b:=fun q=>e (aa9.inj q);rw[decide_eq_false h];exact(beq_eq_false_iff_ne.mpr e).symm
theorem BR(a b:Str):decide ((ab0 a:Key)=ab0 b)=decide (a=b):=by
 by_cases e:a=b
 ·subst e;simp
 ·have h:¬ (ab0 a:Key)=ab0 b:=fun q=>e (ab0.inj q);rw[decide_eq_false h,decide_eq_false e]
theorem CG(a:Int) (b:Str):decide ((aa9 a:Key)=ab0 b)=false:=decide_eq_false (fun q=>nomatch q)
theorem CC(a:Str) (b:Int):decide ((ab0 a:Key)=aa9 b)=false:=decide_eq_false (fun q=>nomatch q)
def bE(prog:L5) (w:P6):PySem.KeyKind prog w Key where
 is:=nN
 hash:=Fc w
 inj:=fun v a b ha hb=>by
  rcases bC ha with⟨i,t,rfl,rfl⟩|⟨x,t,rfl,rfl⟩
  ·rcases bC hb with⟨j,u,rfl,e⟩|⟨y,u,rfl,e⟩
   ·injection e with e1 _;rw[e1]
   ·exact nomatch e
  ·rcases bC hb with⟨j,u,rfl,e⟩|⟨y,u,rfl,e⟩
   ·exact nomatch e
   ·injection e with e1 _;rw[e1]
 byValue:=fun k v h=>by
  rcases bC h with⟨i,t,rfl,rfl⟩|⟨x,t,rfl,rfl⟩<;>rfl
 pyHash:=fun hv h=>by
  rcases bC hv with⟨i,t,rfl,rfl⟩|⟨x,t,rfl,rfl⟩
  ·exact wpAny_pyHash_int h
  ·exact wpAny_pyHash_str h
 eqBool:=fun hu hv h=>by
  rcases bC hu with⟨i,t,rfl,rfl⟩|⟨x,t,rfl,rfl⟩
  ·rcases bC hv with⟨j,u,rfl,rfl⟩|⟨y,u,rfl,rfl⟩
   ·rw[By]at h;exact wpAny_eqBool_int h
   ·rw[CG]at h;exact N4.int_str i t y u _ _ _ _ h
  ·rcases bC hv with⟨j,u,rfl,rfl⟩|⟨y,u,rfl,rfl⟩
   ·rw[CC]at h;exact N4.str_int x t j u _ _ _ _ h
   ·rw[BR]at h;exact wpAny_eqBool_str h
 «strs»:=fun k x t v h=>by
  rcases bC h with⟨i,u,rfl,e⟩|⟨y,u,rfl,e⟩
  ·exact nomatch e
  ·injection e with e1 _
   subst e1;cases v<;>rfl
theorem qu(prog:L5) (w:P6) (i:Int) (t:Tok):(bE prog w).is (.inl i) (.int i t)=true:=vy i t
theorem rh(prog:L5) (w:P6) (x:Str) (t:Tok):(bE prog w).is (.inr x) (.str x t)=true:=vc x t
inductive V where
 |non|bl (b:Bool)|int (i:Int)|str (x:Str)|byt (b:Array UInt8)|flt (b:UInt64)|ref (a:F9)|ty (n:String)
 deriving DecidableEq
def aL:V->u8->Prop
 |.non,u=>u=V3
 |.bl b,u=>u=u8.bool b
 |.int i,u=>∃t,u=u8.int i t
 |.str x,u=>∃t,u=u8.str x t
 |.byt b,u=>∃t,u=u8.bytes b t
 |.flt b,u=>∃t,u=u8.float b t
 |.ref a,u=>u=P8 a
 |.ty n,u=>u=ac1 n
abbrev aB:List V->List u8->Prop:=P5 aL
theorem aB.length{xs:List V}{us:List u8}(r:aB xs us):xs.length=us.length:=W1 r
theorem aB.get:∀{xs:List V}{us:List u8}{i:Nat}{x:V},aB xs us->xs[i]?=some x->∃u,us[i]?=some u/\aL x u
 |_,_,_,_,.nil,e=>by simp at e
 |_,_,0,_,.cons r _,e=>by simp at e;subst e;exact⟨_,rfl,r⟩
 |_,_,i+1,x,.cons _ t,e=>by
  obtain⟨u,h1,h2⟩:=aB.get (i:=i) (x:=x) t (by simpa using e);exact⟨u,by simpa using h1,h2⟩
theorem aB.set{x:V}{u:u8}(r:aL x u):∀{xs:List V}{us:List u8}(i:Nat),aB xs us->aB (xs.set i x) (us.set i u)
 |_,_,_,.nil=>.nil
 |_,_,0,.cons _ t=>.cons r t
 |_,_,i+1,.cons q t=>.cons q (aB.set r i t)
theorem aB.append:∀{xs ys:List V}{us ws:List u8},aB xs us->aB ys ws->aB (xs++ys) (us++ws)
 |_,_,_,_,.nil,s=>s
 |_,_,_,_,.cons r t,s=>.cons r (aB.append t s)
theorem aB.take:∀{xs:List V}{us:List u8}(n:Nat),aB xs us->aB (xs.take n) (us.take n)
 |_,_,0,_=>.nil
 |_,_,_+1,.nil=>.nil
 |_,_,n+1,.cons r t=>.cons r (aB.take n t)
theorem aB.drop:∀{xs:List V}{us:List u8}(n:Nat),aB xs us->aB (xs.drop n) (us.drop n)
 |_,_,0,r=>r
 |_,_,_+1,.nil=>.nil
 |_,_,n+1,.cons _ t=>aB.drop n t
def kL:Option V->Option u8->Prop
 |some v,some u=>aL v u
 |none,none=>True
 |_,_=>False
def KV{κ:Type}:List (κ×V)->List (κ×u8)->Prop:=P5 fun(p:κ×V) (q:κ×u8)=>p.1=q.1/\aL p.2 q.2
def kV:Key->V
 |.inl i=>.int i
 |.inr x=>.str x
inductive HO where
 |lst (xs:List V)
 |tup (xs:List V)
 |dK (kvs:List (Key×V))|dT (kvs:List (List Key×V))
 |set (S:Int->Bool) (n:Nat)
 |ins (C dx:F9) (fs:List (Str×V))
 |own (x:F9)
 |xd (fs:List (Str×V))
 |met (f x:F9)
 |rng (lo hi:Int)
 |frz (o:Obj) (u:HO)
 |tbl (ps:Array u8)
 |ext (φ:K4->Prop)
abbrev Hp:=F9->Option HO
def upd(H:Hp) (a:F9) (o:HO):Hp:=fun b=>if b=a then some o else H b
theorem aG{H:Hp}{a:F9}{o:HO}:upd H a o a=some o:=by unfold upd;rw[if_pos rfl]
theorem aA{H:Hp}{a b:F9}{o:HO}(h:b≠a):upd H a o b=H b:=by unfold upd;rw[if_neg h]
theorem Bb{H:Hp}{a b:F9}{o u:HO}(h:H a=some o) (h':H b=some u) (d:o≠u):a≠b:=by
 intro e;subst e;rw[h]at h';exact d (J6 h')
theorem bc{H:Hp}{a b:F9}{o:HO}(h:H a=some o) (h':H b=none):a≠b:=by
 intro e;subst e;rw[h]at h';cases h'
def ko(h:K4) (a:F9) (xs:Array u8):Prop:=∃o,h.get? a=some o/\o.cls=.type "tuple"/\(∃n,o.data=.seq xs n)/\o.dict=none
theorem ko.tup{h:K4}{a:F9}{xs:Array u8}(x:ko h a xs):ab8 h a xs:=let⟨o,e,c,d,_⟩:=x;⟨o,e,c,d⟩
theorem ko.lt{h:K4}{a:F9}{xs:Array u8}(x:ko h a xs):a<h.objs.size:=let⟨_,e,_⟩:=x;F5 e
theorem ko.new(h:K4) (xs:Array u8):ko (h.push { cls:=.type "tuple",data:=.seq xs }) h.objs.size xs:=⟨_,F7 h rfl,rfl,⟨_,rfl⟩,rfl⟩
section
variable(P:L5) (w:P6)
def br(H:Hp) (h:K4) (a:F9):HO->Prop
 |.lst xs=>xs.length<=F2/\∃(its:List u8) (n:Nat),aB xs its/\h.get? a=some { cls:=.type "list",data:=.seq its.toArray n }
 |.tup xs=>xs.length<=F2/\∃its:List u8,aB xs its/\ko h a its.toArray
 |.dK kvs=>kvs.length<=F2/\(a==T6)=false/\∃vs,KV kvs vs/\h.DictOf (bE P w) a vs
 | .dT kvs => kvs.length ≤ F2 ∧ (a == T6) = false ∧ ∃ xs:List (List Key × F9 × u8),
   P5 (fun(p:List Key×V) (q:List Key×F9×u8)=>p.1=q.1/\H q.2.1=some (.tup (p.1.map kV))/\aL p.2 q.2.2) kvs xs /\
   ∃o es ep,h.get? a=some o/\o.ExactDict/\o.data=.dict es ep/\es.toList=xs.map (entryOfKey (aa0 (bE P w)))/\(xs.map (·.1)).Nodup
 |.set S n=>h.SetOf (intKind P w) a S n
 | .ins C dx fs => H dx = some (.own a) ∧ fs.length ≤ 1000 ∧ dx ≠ a ∧ h.get? a = some (PySem.W.instObj C dx) ∧
   ∃mA,h.Ns1 dx mA/\(∀f,kL (fs.lookup f) (mA f))/\PySem.Within mA (fs.map (·.1))
 |.own _=>∃o,h.get? a=some o
 |.xd fs=>∃mA,h.Ns1 a mA/\∀f,kL (fs.lookup f) (mA f)
 |.rng lo hi=>∃t u v,h.get? a=some { cls:=.type "range",data:=.fields #[.int lo t,.int hi u,.int 1 v] }
 |.frz o u=>h.get? a=some o/\br H h a u
 |.tbl ps=>h.get? a=some { cls:=.none,data:=.fields ps }
 |.met f x=>h.get? a=some (PySem.W.methodObj (.ref f) (.ref x))
 |.ext φ=>φ h/\(∃o,h.get? a=some o)/\∀h1 h2:K4,φ h1->(∀o,h1.get? a=some o->h2.get? a=some o)->φ h2
def HOk(H:Hp) (h:K4):Prop:=∀a o,H a=some o->br P w H h a o
end
section
variable{P:L5}{w:P6}{H H':Hp}{h h':K4}{a:F9}{o:HO}
theorem br.lt(x:br P w H h a o):a<h.objs.size:=by
 cases o with
 |lst xs=>obtain⟨_,_,_,_,e⟩:=x;exact F5 e
 |tup xs=>obtain⟨_,_,_,p⟩:=x;exact p.lt
 |dK kvs=>obtain⟨_,_,_,_,o,_,_,e,_⟩:=x;exact F5 e
 |dT kvs=>obtain⟨_,_,_,_,o,_,_,e,_⟩:=x;exact F5 e
 |set S n=>obtain⟨o,_,_,_,e,_⟩:=x;exact F5 e
 |ins C dx fs=>obtain⟨_,_,_,e,_⟩:=x;exact F5 e
 |own y=>obtain⟨_,e⟩:=x;exact F5 e
 |xd fs=>obtain⟨_,⟨_,_,_,e,_⟩,_⟩:=x;exact F5 e
 |rng lo hi=>obtain⟨_,_,_,e⟩:=x;exact F5 e
 |frz ob u=>obtain⟨e,_⟩:=x;exact F5 e
 |tbl ps=>exact F5 (show h.get? a=some _ from x)
 |met f y=>exact F5 (show h.get? a=some _ from x)
 |ext φ=>obtain⟨_,⟨_,e⟩,_⟩:=x;exact F5 e
theorem P5.mapP{α β:Type}{F G:α->β->Prop}:∀{l₁:List α}{l₂:List β},P5 F l₁ l₂->(∀a b,F a b->G a b)->P5 G l₁ l₂
 |_,_,.nil,_=>.nil
 |_,_,.cons r t,f=>.cons (f _ _ r) (P5.mapP t f)
theorem P5.imp'{α β:Type}{F G:α->β->Prop}(f:∀a b,F a b->G a b) {l₁:List α}{l₂:List β}(r:P5 F l₁ l₂):P5 G l₁ l₂:=P5.mapP r f
theorem br.stay(x:br P w H h a o) (k:∀b u,(b=a∨H b=some (.own a))->h.get? b=some u->h'.get? b=some u)
  (ho:∀b,H b=some (.own a)->H' b=some (.own a)) (ht:∀b xs,H b=some (.tup xs)->H' b=some (.tup xs)):br P w H' h' a o:=by
 induction o with
 |lst xs=>obtain⟨z,its,n,r,e⟩:=x;exact⟨z,its,n,r,k _ _ (.inl rfl) e⟩
 |tup xs=>obtain⟨z,its,r,ob,e,c⟩:=x;exact⟨z,its,r,ob,k _ _ (.inl rfl) e,c⟩
 |dK kvs=>obtain⟨z,y,vs,r,ob,es,ep,e,c⟩:=x;exact⟨z,y,vs,r,ob,es,ep,k _ _ (.inl rfl) e,c⟩
 |dT kvs =>
  obtain⟨z,y,xs,r,ob,es,ep,e,c⟩:=x;exact⟨z,y,xs,P5.mapP r fun p q z=>⟨z.1,ht _ _ z.2.1,z.2.2⟩,ob,es,ep,k _ _ (.inl rfl) e,c⟩
 |set S n=>obtain⟨ob,es,ep,t,e,c⟩:=x;exact⟨ob,es,ep,t,k _ _ (.inl rfl) e,c⟩
 |ins C dx fs =>
  obtain⟨d,z,ne,e,mA,⟨od,es,ep,e2,c⟩,r⟩:=x;exact⟨ho _ d,z,ne,k _ _ (.inl rfl) e,mA,⟨od,es,ep,k _ _ (.inr d) e2,c⟩,r⟩
 |own y=>obtain⟨ob,e⟩:=x;exact⟨ob,k _ _ (.inl rfl) e⟩
 |xd fs=>obtain⟨mA,⟨od,es,ep,e,c⟩,r⟩:=x;exact⟨mA,⟨od,es,ep,k _ _ (.inl rfl) e,c⟩,r⟩
 |rng lo hi=>obtain⟨t,u,v,e⟩:=x;exact⟨t,u,v,k _ _ (.inl rfl) e⟩
 |frz ob u ih=>obtain⟨e,q⟩:=x;exact⟨k _ _ (.inl rfl) e,ih q⟩
 |tbl ps =>
  have e:h.get? a=some { cls:=.none,data:=.fields ps }:=x;show h'.get? a=some { cls:=.none,data:=.fields ps };exact k a _ (.inl rfl) e
 |met f y =>
  have e:h.get? a=some (PySem.W.methodObj (.ref f) (.ref y)):=x;show h'.get? a=some (PySem.W.methodObj (.ref f) (.ref y));exact k a _ (.inl rfl) e
 |ext φ=>obtain⟨p,⟨o,e⟩,st⟩:=x;exact⟨st _ _ p fun o q=>k _ _ (.inl rfl) q,⟨o,k _ _ (.inl rfl) e⟩,st⟩
theorem HOk.lt(x:HOk P w H h) (e:H a=some o):a<h.objs.size:=(x a o e).lt
theorem HOk.fresh(x:HOk P w H h) (e:h.objs.size<=a):H a=none:=by
 cases q:H a with
 |none=>rfl
 |some u=>exact absurd (F8 (x.lt q) e) (O0 _)
theorem HOk.kept(x:HOk P w H h) (k:∀b u,h.get? b=some u->h'.get? b=some u):HOk P w H h':=fun a o e =>
 (x a o e).stay (fun b u _ q=>k b u q) (fun _ q=>q) fun _ _ q=>q
theorem HOk.laid(x:HOk P w H h) (k:∀b u,h.get? b=some u->h'.get? b=some u) (hp:h.objs.size<=a) (new:br P w (upd H a o) h' a o):HOk P w (upd H a o) h':=fun b u e=>by
 have hn:=x.fresh hp
 by_cases hb:b=a
 ·subst hb;rw[aG]at e;cases e;exact new
 ·rw[aA hb]at e;exact(x b u e).stay (fun c v _ q=>k c v q) (fun c q=>by rw[aA (bc q hn)];exact q) fun c xs q=>by rw[aA (bc q hn)];exact q
end
def Rd(H:Hp) (a:F9) (u:HO):Prop:=H a=some u∨∃o,H a=some (.frz o u)
theorem Rd.of{H:Hp}{a:F9}{u:HO}(h:H a=some u):Rd H a u:=.inl h
theorem Rd.ok{P:L5}{w:P6}{H:Hp}{h:K4}{a:F9}{u:HO}(r:Rd H a u) (x:HOk P w H h):br P w H h a u:=by
 rcases r with r|⟨o,r⟩
 ·exact x a u r
 ·obtain⟨_,q⟩:=x a _ r;exact q
def Mut:Option HO->Prop
 |some (.lst _)=>True
 |some (.dK _)=>True
 |some (.dT _)=>True
 |some (.set _ _)=>True
 |some (.ins _ _ _)=>True
 |some (.ext _)=>True
 |_=>False
section
variable{P:L5}{w:P6}{H:Hp}{h h':K4}{x e:F9}{o':HO}
theorem HOk.write(ok:HOk P w H h) (mu:Mut (H x)) (he:e=x∨H e=some (.own x)) (k:∀b u,b≠e->h.get? b=some u->h'.get? b=some u) (heo:∃u,h'.get? e=some u)
  (new:br P w (upd H x o') h' x o'):HOk P w (upd H x o') h':=fun b u q=>by
 have nown:∀c y,H c=some (.own y)->c≠x:=fun c y r z=>by subst z;rw[r]at mu;exact mu
 have ntup:∀c xs,H c=some (.tup xs)->c≠x:=fun c xs r z=>by subst z;rw[r]at mu;exact mu
 by_cases hb:b=x
 ·subst hb;rw[aG]at q;cases q;exact new
 ·rw[aA hb]at q
  by_cases hbe:b=e
  ·have q':H b=some (.own x):=by
    rcases he with z|z
    ·exact absurd (hbe.trans z) hb
    ·rw[hbe];exact z
   rw[q]at q';cases q';obtain⟨v,hv⟩:=heo;exact⟨v,by rw[hbe];exact hv⟩
  ·refine(ok b u q).stay (fun c v hc r=>k c v ?_ r) (fun c r=>by rw[aA (nown c b r)];exact r) fun c xs r=>by rw[aA (ntup c xs r)];exact r
   rcases hc with rfl|hc
   ·exact hbe
   ·rintro rfl;rcases he with z|z
    ·exact nown c b hc z
    ·rw[hc]at z;cases z;exact hb rfl
end
structure Un(fs ex:List F9) (H H':Hp) (h h':K4):Prop where
 keep:∀b o,h.get? b=some o->H b=none->b∉fs->b∉ex->h'.get? b=some o
 slot:∀b o,h.get? b=some o->H b=none->b∈fs->b∉ex->∃sl,h'.get? b=some { o with slots:=sl }
 free:∀b o,h.get? b=some o->H b=none->b∉ex->H' b=none
 there:∀b o,h.get? b=some o->b∉ex->∃o',h'.get? b=some o'
 tups:∀b xs,H b=some (.tup xs)->H' b=some (.tup xs)
 frzs:∀b o u,H b=some (.frz o u)->H' b=some (.frz o u)
 tbls:∀b ps,H b=some (.tbl ps)->∃more,H' b=some (.tbl (ps++more))
section
variable{fs fs' ex ex':List F9}{H H1 H2:Hp}{h h1 h2 h':K4}{a x e:F9}{o:HO}
theorem Un.any(u:Un fs ex H H1 h h1) {b:F9}{ob:Obj}(q:h.get? b=some ob) (n:H b=none) (hx:b∉ex):∃sl,h1.get? b=some { ob with slots:=sl }:=by
 by_cases hb:b∈fs
 ·exact u.slot b ob q n hb hx
 ·exact⟨ob.slots,u.keep b ob q n hb hx⟩
theorem Un.kept(k:∀b u,h.get? b=some u->h'.get? b=some u):Un fs ex H H h h' :=
 ⟨fun b ob q _ _ _=>k b ob q,fun b ob q _ _ _=>⟨ob.slots,k b ob q⟩,fun _ _ _ n _=>n,fun b ob q _=>⟨ob,k b ob q⟩,fun _ _ q=>q,fun _ _ _ q=>q,fun _ ps q=>⟨#[],by rw[q];simp⟩⟩
theorem Un.refl:Un fs ex H H h h:=Un.kept fun _ _ q=>q
theorem Un.laid(k:∀b u,h.get? b=some u->h'.get? b=some u) (hp:h.objs.size<=a) (hn:H a=none):Un fs ex H (upd H a o) h h' where
 keep:=fun b u q _ _ _=>k b u q
 slot:=fun b u q _ _ _=>⟨u.slots,k b u q⟩
 free:=fun b u q n _=>by rw[aA (H0 (F8 (F5 q) hp))];exact n
 there:=fun b u q _=>⟨u,k b u q⟩
 tups:=fun b xs q=>by rw[aA (bc q hn)];exact q
 frzs:=fun b u xs q=>by rw[aA (bc q hn)];exact q
 tbls:=fun b ps q=>⟨#[],by rw[aA (bc q hn),q];simp⟩
theorem Un.write(mu:Mut (H x)) (he:e=x∨H e=some (.own x)) (k:∀b u,b≠e->h.get? b=some u->h'.get? b=some u) (heo:∃u,h'.get? e=some u):Un fs ex H (upd H x o) h h':=by
 have hx:∀b,H b=none->b≠x:=fun b n z=>by subst z;rw[n]at mu;exact mu
 have hb:∀b,H b=none->b≠e:=fun b n z=>by
  subst z;rcases he with r|r
  ·exact hx b n r
  ·rw[n]at r;cases r
 have hm:∀b u,H b=some u->¬ Mut (some u)->b≠x:=fun b u q nm z=>by subst z;rw[q]at mu;exact nm mu
 refine⟨fun b u q n _ _=>k b u (hb b n) q,fun b u q n _ _=>⟨u.slots,k b u (hb b n) q⟩,fun b u q n _=>by rw[aA (hx b n)];exact n,fun b u q _=>?_,
  fun b xs q=>by rw[aA (hm b _ q fun z=>z)];exact q,fun b u xs q=>by rw[aA (hm b _ q fun z=>z)];exact q,fun b ps q=>⟨#[],by rw[aA (hm b _ q fun z=>z),q];simp⟩⟩
 by_cases hbe:b=e
 ·subst hbe;exact heo
 ·exact⟨u,k b u hbe q⟩
end
def trk(h:K4) (H:Hp):List F9:=(T7 h.objs.size).filter fun a=>(H a).isSome
def nc(h:K4) (H:Hp):K4:=PySem.W.hideAll h (trk h H)
theorem vj(h:K4) (H:Hp):(nc h H).objs.size=h.objs.size:=PySem.W.hideAll_size _ _
theorem yj{h:K4}{H:Hp}{b:F9}{o:Obj}(e:h.get? b=some o) (n:H b=none):(nc h H).get? b=some o :=
 PySem.W.hideAll_get _ e fun hm=>by
  have q:(H b).isSome=true:=(List.mem_filter.mp hm).2;rw[n]at q;simp at q
theorem zV{h:K4}{H:Hp}{b:F9}{o:Obj}(e:(nc h H).get? b=some o):h.get? b=some o/\H b=none:=by
 have e':h.get? b=some o:=PySem.W.of_hideAll (trk h H) e;refine⟨e',?_⟩;cases q:H b with
 |none=>rfl
 |some x =>
  have hm:b∈trk h H:=List.mem_filter.mpr ⟨X8.mpr (F5 e'),by simp[q]⟩;have z:(nc h H).get? b=none:=PySem.W.hideAll_none (trk h H) hm;rw[z]at e;cases e
noncomputable def kW(g h:K4) (L:F9):List (F9×Obj):=(T7 h.objs.size).filterMap fun a=>if a=L∨(g.get? a).isSome=true then none else(h.get? a).map fun o=>(a,o)
theorem j3{g h:K4}{L a:F9}{o:Obj}(h1:a≠L) (h2:g.get? a=none) (h3:h.get? a=some o):(a,o)∈kW g h L :=
 P1.mpr ⟨a,X8.mpr (F5 h3),by simp[h1,h2,h3]⟩
theorem gD{g h:K4}{L:F9}{p:F9×Obj}(hp:p∈kW g h L):p.1≠L/\g.get? p.1=none/\h.get? p.1=some p.2:=by
 obtain⟨b,_,e⟩:=P1.mp hp
 split at e
 ·cases e
 ·rename_i hn;cases q:h.get? b with
  |none=>rw[q]at e;simp at e
  |some u =>
   rw[q]at e;simp only[R7,K9.injEq]at e;subst e;refine⟨fun z=>hn (.inl z),?_,q⟩;show g.get? b=none;cases r:g.get? b with
   |none=>rfl
   |some v=>exact(hn (.inr (by simp[r]))).elim
def bZ(g h:K4) (L d:F9):List (F9×Obj):=(kW g h L).filter fun p=>decide (p.1≠d)
structure Mod(K:o0) (mg:Str->Option u8) (base:K4):Prop where
 kin:K.In base
 glob:base.Ns ab1 mg
 blt:∃mb,base.Ns builtinsNs mb/\∀x:Str,x≠"__name__"->mb x=Q9 x
 nolimit:base.NoLimit
structure Cx where
 prog:L5
 w:P6
 K:o0
 mg:Str->Option u8
 base:K4
 A:N3
 N:List Str
 s₀:F1
 H₀:Hp
 env:Env
 outer:List Env
 stack:List Env
 ex:List F9
 fn:Str->Bool
 calm:Bool
 pn:List (F9×Obj)
 xe:u8->F1->Prop
def frs(l:List Env):List F9:=l.filterMap (·.frame)
abbrev Cx.fs(X:Cx):List F9:=frs X.outer
def Vis(sc:R0) (x:Str):Prop:=sc.names.lookup x=some .local∨sc.names.lookup x=some .cell∨sc.names.lookup x=some .free
def Loc(sc:R0) (x:Str):Prop:=sc.names.lookup x=some .local∨sc.names.lookup x=some .cell
def Fn(env:Env) (h:K4) (m:Str->Option u8) (x:Str) (u:u8):Prop :=
 (env.kindOf x=some .local/\m x=some u)∨((env.kindOf x=some .cell∨env.kindOf x=some .free)/\∃c,env.cells.lookup x=some c/\h.IsCell c (some u))
structure Cx.Ok(X:Cx):Prop where
 mod:Mod X.K X.mg X.base
 kind:X.env.scope.kind=.function
 glob:X.env.globals=ab1
 blt:X.env.builtins=builtinsNs
 above:X.s₀.heap.objs.size<=X.env.locals
 inj:∀x y c,X.env.cells.lookup x=some c->X.env.cells.lookup y=some c->x=y
 has:∀x,(X.env.kindOf x=some .cell∨X.env.kindOf x=some .free)->∃c,X.env.cells.lookup x=some c
 cab:∀x c,X.fn x=true->X.env.cells.lookup x=some c->X.s₀.heap.objs.size<=c
 hd:X.calm=true->X.A.handled=none
 frames:X.A.frames=some X.stack
 stk:X.stack=X.outer∨(X.stack=X.env::X.outer/\X.env.frame=some X.env.locals)
 exf:∀b∈X.ex,b≠X.env.locals/\∀x c,X.env.cells.lookup x=some c->c≠b
 bs:∀b o,X.base.get? b=some o->X.s₀.heap.get? b=some o/\X.H₀ b=none
 bsz:X.base.objs.size<=X.s₀.heap.objs.size
 noex:∀b o,X.base.get? b=some o->b∉X.ex
 exfs:∀b∈X.ex,b∉X.fs
 funs:X.s₀.heap.FunFrames X.base X.outer
 frf:∀b∈X.fs,X.H₀ b=none
structure Inv(X:Cx) (ag:List (F9×Obj)) (σ:List (Option V)) (H:Hp) (s:F1):Prop where
 ok:X.Ok
 os:s.os=X.s₀.os
 bare:aa1 s.gens
 base:Un X.fs X.ex X.H₀ H X.s₀.heap s.heap
 loc:∃m,s.heap.Ns X.env.locals m/\∀(i:Nat) (x:Str) (v:V),X.N[i]?=some x->σ[i]?=some (some v)->Vis X.env.scope x->∃u,aL v u/\Fn X.env s.heap m x u
 cell:∀x c,X.env.cells.lookup x=some c->∃v,s.heap.IsCell c v
 free:H X.env.locals=none
 freeC:∀x c,X.env.cells.lookup x=some c->H c=none
 pin:∀p∈X.pn++ag,s.heap.get? p.1=some p.2/\H p.1=none/\p.1≠X.env.locals/\p.1∉X.fs/\∀v,p.2.data≠.cell v
 hok:HOk X.prog X.w H s.heap
 len:σ.length=X.N.length
section
variable{X:Cx}{ag:List (F9×Obj)}{σ:List (Option V)}{H H':Hp}{s:F1}{h':K4}
theorem Cx.Ok.nofr(ok:X.Ok) {b:F9}{o:Obj}(e:X.base.get? b=some o):b∉X.fs:=fun hb=>by
 have:=(ok.funs.mem hb).1;rw[e]at this;cases this
theorem Inv.bs(I:Inv X ag σ H s):∀b o,X.base.get? b=some o->s.heap.get? b=some o/\H b=none:=fun b o e =>
 ⟨I.base.keep b o (I.ok.bs b o e).1 (I.ok.bs b o e).2 (I.ok.nofr e) (I.ok.noex b o e),I.base.free b o (I.ok.bs b o e).1 (I.ok.bs b o e).2 (I.ok.noex b o e)⟩
theorem Inv.bk(I:Inv X ag σ H s):∀b o,X.base.get? b=some o->s.heap.get? b=some o:=fun b o e=>(I.bs b o e).1
theorem Inv.mod(I:Inv X ag σ H s):Mod X.K X.mg X.base:=I.ok.mod
theorem Inv.kIn(I:Inv X ag σ H s):X.K.In s.heap:=I.ok.mod.kin.keeps I.bk
theorem Inv.lt(I:Inv X ag σ H s):X.env.locals<s.heap.objs.size:=let⟨_,hn,_⟩:=I.loc;hn.lt
theorem Inv.sz(I:Inv X ag σ H s):X.s₀.heap.objs.size<=s.heap.objs.size:=L7 I.ok.above (Nat.le_of_lt I.lt)
theorem Inv.nofs(I:Inv X ag σ H s) {a:F9}(h:s.heap.objs.size<=a):a∉X.fs:=fun hb=>by
 obtain⟨_,o,ho,_⟩:=I.ok.funs.mem hb;exact absurd (F8 (F5 ho) (L7 I.sz h)) (O0 _)
theorem Inv.cne(I:Inv X ag σ H s):∀x c,X.env.cells.lookup x=some c->c≠X.env.locals:=fun x c e z=>by
 obtain⟨v,o,ho,hd⟩:=I.cell x c e;obtain⟨m,⟨o',es,ep,ho',hd',_⟩,_⟩:=I.loc;rw[z,ho']at ho;cases ho;rw[hd']at hd;cases hd
theorem Inv.funs(I:Inv X ag σ H s):s.heap.FunFrames X.base X.outer:=by
 have all:∀(l:List Env),(∀b∈frs l,b∈X.fs)->X.s₀.heap.FunFrames X.base l->s.heap.FunFrames X.base l:=by
  intro l
  induction l with
  |nil=>intro _ _;trivial
  |cons env r ih =>
   intro hs hl;obtain⟨hk,⟨L,o,hf,hn,ho,hd⟩,hr⟩:=hl;have hL:L∈X.fs:=hs L (by unfold frs;rw[P9,hf];exact M0);obtain⟨sl,e⟩:=I.base.slot L o ho (I.ok.frf L hL) hL fun z=>I.ok.exfs L z hL;exact⟨hk,⟨L,_,hf,hn,e,hd⟩,ih (fun b hb=>hs b (by unfold frs;rw[P9,hf];exact K8 _ hb)) hr⟩
 exact all X.outer (fun _ hb=>hb) I.ok.funs
theorem Inv.stack(I:Inv X ag σ H s):s.heap.FunFrames X.base X.stack:=by
 rcases I.ok.stk with e|⟨e,hf⟩
 ·rw[e];exact I.funs
 ·rw[e];obtain⟨m,hn,_⟩:=I.loc;refine .cons (by rw[I.ok.kind];decide) hf hn ?_ I.funs;exact K4.get?_none_of_le (L7 I.ok.bsz I.ok.above)
theorem Inv.stkSub(I:Inv X ag σ H s):∀b∈frs X.stack,b∈X.env.locals::X.fs:=fun b hb=>by
 rcases I.ok.stk with e|⟨e,hf⟩
 ·rw[e]at hb;exact K8 _ hb
 ·rw[e]at hb;unfold frs at hb;rw[P9,hf]at hb;exact hb
theorem Inv.stkFree(I:Inv X ag σ H s):∀b∈frs X.stack,H b=none:=fun b hb=>by
 rcases N5.mp (I.stkSub b hb)with e|hb
 ·rw[e];exact I.free
 ·obtain⟨_,o,ho,_⟩:=I.ok.funs.mem hb;exact I.base.free b o ho (I.ok.frf b hb) fun z=>I.ok.exfs b z hb
theorem Inv.step{g':Array GenState}{t':Nat}{d':Drawn}{ch:List F9}(I:Inv X ag σ H s)
  (hch:∀b∈ch,(b∈X.ex∨X.s₀.heap.objs.size<=b)/\b≠X.env.locals/\(∀x c,X.env.cells.lookup x=some c->c≠b)/\∀p∈X.pn++ag,p.1≠b)
  (keep:∀b o,b≠X.env.locals->b∉X.fs->b∉ch->s.heap.get? b=some o->H b=none->h'.get? b=some o)
  (slot:∀b o,b≠X.env.locals->b∈X.fs->b∉ch->s.heap.get? b=some o->H b=none->∃sl,h'.get? b=some { o with slots:=sl }) (free:∀b o,b∉ch->s.heap.get? b=some o->H b=none->H' b=none)
  (there:∀b o,b∉ch->s.heap.get? b=some o->∃o',h'.get? b=some o')
  (tups:∀b xs,H b=some (.tup xs)->H' b=some (.tup xs)) (frzs:∀b o u,H b=some (.frz o u)->H' b=some (.frz o u)) (tbls:∀b ps,H b=some (.tbl ps)->∃more,H' b=some (.tbl (ps++more)))
  (ns:∀m,s.heap.Ns X.env.locals m->h'.Ns X.env.locals m) (hok:HOk X.prog X.w H' h') (hg:aa1 g') :
  Inv X ag σ H' { s with heap:=h',gens:=g',drawn:=d',toks:=t' }:=by
 have neL:∀b o,X.s₀.heap.get? b=some o->b≠X.env.locals:=fun b o e=>H0 (F8 (F5 e) I.ok.above);have neC:∀b o,X.s₀.heap.get? b=some o->b∉X.ex->b∉ch:=fun b o e hx hb=>by
  rcases(hch b hb).1 with z|z
  ·exact hx z
  ·exact absurd (F8 (F5 e) z) (O0 _)
 have cellK:∀x c,X.env.cells.lookup x=some c->∀v,s.heap.IsCell c v->h'.IsCell c v:=fun x c e v ⟨o,ho,hd⟩=>by
  have nch:c∉ch:=fun z=>(hch c z).2.2.1 x c e rfl
  by_cases hc:c∈X.fs
  ·obtain⟨sl,q⟩:=slot c o (I.cne x c e) hc nch ho (I.freeC x c e);exact⟨_,q,hd⟩
  ·exact⟨o,keep c o (I.cne x c e) hc nch ho (I.freeC x c e),hd⟩
 refine⟨I.ok,I.os,hg,⟨fun b o e n hb hx=>?_,fun b o e n hb hx=>?_,fun b o e n hx=>?_,fun b o e hx=>?_,fun b xs e=>tups b xs (I.base.tups b xs e),fun b o xs e=>frzs b o xs (I.base.frzs b o xs e),fun b ps e=>?_⟩,?_,fun x c e=>?_,?_,fun x c e=>?_,fun p hp=>?_,hok,I.len⟩
 ·exact keep b o (neL b o e) hb (neC b o e hx) (I.base.keep b o e n hb hx) (I.base.free b o e n hx)
 ·obtain⟨sl,e1⟩:=I.base.slot b o e n hb hx;obtain⟨sl',e2⟩:=slot b _ (neL b o e) hb (neC b o e hx) e1 (I.base.free b o e n hx);exact⟨sl',e2⟩
 ·obtain⟨o',e1⟩:=I.base.there b o e hx;exact free b o' (neC b o e hx) e1 (I.base.free b o e n hx)
 ·obtain⟨o',e1⟩:=I.base.there b o e hx;exact there b o' (neC b o e hx) e1
 ·obtain⟨m1,e1⟩:=I.base.tbls b ps e;obtain⟨m2,e2⟩:=tbls b _ e1;exact⟨m1++m2,by rw[e2,Array.append_assoc]⟩
 ·obtain⟨m,hn,hl⟩:=I.loc;refine⟨m,ns m hn,fun i x v e1 e2 e3=>?_⟩;obtain⟨u,r,l⟩:=hl i x v e1 e2 e3;refine⟨u,r,?_⟩;rcases l with l|⟨k,c,e,z⟩
  ·exact .inl l
  ·exact .inr ⟨k,c,e,cellK x c e _ z⟩
 ·obtain⟨v,z⟩:=I.cell x c e;exact⟨v,cellK x c e v z⟩
 ·obtain⟨m,⟨o,_,_,ho,_⟩,_⟩:=I.loc;exact free _ o (fun z=>(hch _ z).2.1 rfl) ho I.free
 ·obtain⟨v,o,ho,hd⟩:=I.cell x c e;exact free c o (fun z=>(hch c z).2.2.1 x c e rfl) ho (I.freeC x c e)
 ·obtain⟨e,n,ne,nf,d⟩:=I.pin p hp;have nch:p.1∉ch:=fun z=>(hch p.1 z).2.2.2 p hp rfl;exact⟨keep p.1 p.2 ne nf nch e n,free p.1 p.2 nch e n,ne,nf,d⟩
theorem Inv.un{t':Nat}(I:Inv X ag σ H s) (u:Un X.fs [] H H' s.heap h') (hok:HOk X.prog X.w H' h'):Inv X ag σ H' { s with heap:=h',toks:=t' }:=by
 obtain⟨m,⟨o,es,ep,ho,r⟩,_⟩:=id I.loc;obtain⟨sl,hL⟩:=u.any ho I.free (by simp);exact I.step (g':=s.gens) (d':=s.drawn) (ch:=[]) (fun _ z=>nomatch z) (fun b o _ hb _ e n=>u.keep b o e n hb (by simp)) (fun b o _ hb _ e n=>u.slot b o e n hb (by simp)) (fun b o _ e n=>u.free b o e n (by simp)) (fun b o _ e=>u.there b o e (by simp)) u.tups u.frzs u.tbls (fun m' hm=>by
  obtain⟨o',es',ep',ho',r'⟩:=hm;rw[ho]at ho';cases ho';exact⟨_,es',ep',hL,r'⟩) hok I.bare
theorem Inv.call{g':Array GenState}{t':Nat}{d':Drawn}{ch:List F9}(I:Inv X ag σ H s) (u:Un (frs X.stack) ch H H' s.heap h') (hok:HOk X.prog X.w H' h') (hg:aa1 g')
  (hch:∀b∈ch,(b∈X.ex∨X.s₀.heap.objs.size<=b)/\b≠X.env.locals/\(∀x c,X.env.cells.lookup x=some c->c≠b)/\∀p∈X.pn++ag,p.1≠b) :
  Inv X ag σ H' { s with heap:=h',gens:=g',drawn:=d',toks:=t' }:=by
 obtain⟨m,⟨o,es,ep,ho,r⟩,_⟩:=id I.loc;obtain⟨sl,hL⟩:=u.any ho I.free fun z=>(hch _ z).2.1 rfl;exact I.step (ch:=ch) hch (fun b o hL hb hc e n=>u.keep b o e n (fun z=>(N5.mp (I.stkSub b z)).elim hL hb) hc) (fun b o _ _ hc e n=>u.any e n hc) (fun b o hc e n=>u.free b o e n hc) (fun b o hc e=>u.there b o e hc) u.tups u.frzs u.tbls (fun m' hm=>by
  obtain⟨o',es',ep',ho',r'⟩:=hm;rw[ho]at ho';cases ho';exact⟨_,es',ep',hL,r'⟩) hok hg
theorem Inv.turned{t':Nat}{it:F9}(I:Inv X ag σ H s) (k:∀b o,b≠it->s.heap.get? b=some o->h'.get? b=some o) (hn:H it=none) (hL:it≠X.env.locals)
  (h1:it∈X.ex∨X.s₀.heap.objs.size<=it) (h2:∀x c,X.env.cells.lookup x=some c->c≠it) (h3:∀p∈X.pn++ag,p.1≠it):Inv X ag σ H { s with heap:=h',toks:=t' }:=by
 have nit:∀b u,H b=some u->b≠it:=fun b u e z=>by rw[z,hn]at e;cases e
 refine I.step (g':=s.gens) (d':=s.drawn) (ch:=[it]) (fun b hb=>?_) (fun b o _ _ hc e _=>k b o (fun z=>hc (by simp[z])) e) (fun b o _ _ hc e _=>⟨o.slots,k b o (fun z=>hc (by simp[z])) e⟩) (fun _ _ _ _ n=>n)
  (fun b o hc e=>⟨o,k b o (fun z=>hc (by simp[z])) e⟩) (fun _ _ e=>e) (fun _ _ _ e=>e) (fun b ps e=>⟨#[],by rw[e];simp⟩) (fun m hm=>?_) (fun b u e=>?_) I.bare
 ·have e:b=it:=by simpa using hb
  subst e;exact⟨h1,hL,h2,h3⟩
 ·obtain⟨o,es,ep,ho,r⟩:=hm;exact⟨o,es,ep,k _ o (W6 hL) ho,r⟩
 ·refine(I.hok b u e).stay (fun c v hc q=>k c v ?_ q) (fun _ q=>q) fun _ _ q=>q;rcases hc with z|z
  ·rw[z];exact nit b u e
  ·exact nit c _ z
theorem Inv.tok(I:Inv X ag σ H s) (t:Nat):Inv X ag σ H { s with toks:=t }:=I.un (h':=s.heap) (t':=t) Un.refl I.hok
theorem Inv.kept{t':Nat}(I:Inv X ag σ H s) (k:∀b u,s.heap.get? b=some u->h'.get? b=some u):Inv X ag σ H { s with heap:=h',toks:=t' }:=I.un (Un.kept k) (I.hok.kept k)
theorem Inv.laid{a:F9}{o:HO}{t':Nat}(I:Inv X ag σ H s) (k:∀b u,s.heap.get? b=some u->h'.get? b=some u) (hp:s.heap.objs.size<=a) (new:br X.prog X.w (upd H a o) h' a o) :
  Inv X ag σ (upd H a o) { s with heap:=h',toks:=t' }:=I.un (Un.laid k hp (I.hok.fresh hp)) (I.hok.laid k hp new)
theorem Inv.write{x e:F9}{o:HO}{t':Nat}(I:Inv X ag σ H s) (mu:Mut (H x)) (he:e=x∨H e=some (.own x)) (k:∀b u,b≠e->s.heap.get? b=some u->h'.get? b=some u) (heo:∃u,h'.get? e=some u)
  (new:br X.prog X.w (upd H x o) h' x o):Inv X ag σ (upd H x o) { s with heap:=h',toks:=t' }:=I.un (Un.write mu he k heo) (I.hok.write mu he k heo new)
theorem Inv.pins_of{pins':List (F9×Obj)}(I:Inv X ag σ H s) (h:∀p∈pins',s.heap.get? p.1=some p.2/\H p.1=none/\p.1≠X.env.locals/\p.1∉X.fs/\∀v,p.2.data≠.cell v):Inv X pins' σ H s :=
 ⟨I.ok,I.os,I.bare,I.base,I.loc,I.cell,I.free,I.freeC,fun p hp=>(U5.mp hp).elim (fun z=>I.pin p (List.mem_append_left _ z)) (h p),I.hok,I.len⟩
theorem pT{N:List Str}(hN:N.Nodup) {i j:Nat}{x:Str}(a:N[i]?=some x) (b:N[j]?=some x):i=j:=by
 obtain⟨h1,e1⟩:=L3.mp a;obtain⟨h2,e2⟩:=L3.mp b;exact(List.getElem_inj hN).mp (e1.trans e2.symm)
theorem jB{M:Model}{A:N3}{E:u8->F1->Prop}{i:Nat}{x:Str}{v:V}{u:u8}{Q:Unit->F1->Prop}(I:Inv X ag σ H s) (hN:X.N.Nodup) (hi:X.N[i]?=some x) (hx:Loc X.env.scope x) (r:aL v u)
  (h:∀s',Inv X ag (σ.set i (some v)) H s'->(∃a,N8 a s.heap s'.heap/\(a=X.env.locals∨X.env.cells.lookup x=some a))->Q () s') (hf:X.fn x=true∨X.env.scope.names.lookup x=some .local:=by first|exact .inl rfl|exact .inr rfl|assumption):J4 M A (storeName X.env x u) Q E s:=by
 obtain⟨m,hn,hl⟩:=id I.loc;have hcls:(X.env.scope.kind==.class || (X.env.scope.kind==.module&&X.env.locals != X.env.globals))=false:=by rw[I.ok.kind];rfl
 have hiσ:i<σ.length:=by rw[I.len];exact(L3.mp hi).1
 have cne:=I.cne;have tracked:∀{a:F9} {h':K4},(∃o,s.heap.get? a=some o/\H a=none)->N8 a s.heap h'->HOk X.prog X.w H h':=fun {a h'} ha hs b ob e=>by
  obtain⟨_,_,hfree⟩:=ha;refine(I.hok b ob e).stay (fun c w' hc q=>(hs.2 c ?_).trans q) (fun _ q=>q) fun _ _ q=>q;rintro rfl;rcases hc with rfl|hc
  ·rw[hfree]at e;cases e
  ·rw[hfree]at hc;cases hc
 rcases hx with hk|hk
 ·refine wpAny_storeName_local hk hn (fun h' hn' hs=>?_) hcls;obtain⟨oL,_,_,hoL,_⟩:=id hn;refine h _ ⟨I.ok,I.os,I.bare,⟨fun b o e n hb hx=>?_,fun b o e n hb hx=>?_,I.base.free,fun b o e hx=>?_,I.base.tups,I.base.frzs,I.base.tbls⟩,⟨_,hn',fun j y v' e1 e2 e3=>?_⟩,fun y c e=>?_,I.free,I.freeC,fun p hp=>?_,tracked ⟨oL,hoL,I.free⟩ hs,by simpa using I.len⟩ ⟨_,hs,.inl rfl⟩
  ·exact(hs.2 b (H0 (F8 (F5 e) I.ok.above))).trans (I.base.keep b o e n hb hx)
  ·obtain⟨sl,e1⟩:=I.base.slot b o e n hb hx;exact⟨sl,(hs.2 b (H0 (F8 (F5 e) I.ok.above))).trans e1⟩
  ·obtain⟨o',e1⟩:=I.base.there b o e hx;exact⟨o',(hs.2 b (H0 (F8 (F5 e) I.ok.above))).trans e1⟩
  ·by_cases hj:j=i
   ·subst hj;rw[hi]at e1;cases e1;rw[Q3 hiσ]at e2;cases e2;exact⟨u,r,.inl ⟨hk,by simp⟩⟩
   ·rw[T9 (W6 hj)]at e2;obtain⟨u',r',q⟩:=hl j y v' e1 e2 e3;refine⟨u',r',?_⟩;rcases q with⟨k,e⟩|⟨k,c,e,z⟩
    ·refine .inl ⟨k,?_⟩;have:y≠x:=fun e=>hj (pT hN e1 (e▸hi));simp[this,e]
    ·exact .inr ⟨k,c,e,z.sameBut hs (cne y c e)⟩
  ·obtain⟨w',z⟩:=I.cell y c e;exact⟨w',z.sameBut hs (cne y c e)⟩
  ·obtain⟨e,n,ne,nf,d⟩:=I.pin p hp;exact⟨(hs.2 p.1 ne).trans e,n,ne,nf,d⟩
 ·have hfn:X.fn x=true:=by
   rcases hf with z|z
   ·exact z
   ·rw[z]at hk;cases hk
  obtain⟨c,hc⟩:=I.ok.has x (.inl hk);obtain⟨w',z⟩:=I.cell x c hc;refine wpAny_storeName_cell I.ok.kind hk hc z (fun h' hc' hs=>?_);obtain⟨oc,hoc,hocd⟩:=id z;refine h { s with heap:=h' } ⟨I.ok,I.os,I.bare,⟨fun b o e n hb hx=>?_,fun b o e n hb hx=>?_,I.base.free,fun b o e hx=>?_,I.base.tups,I.base.frzs,I.base.tbls⟩,⟨m,hn.sameBut hs (W6 (cne x c hc)),fun j y v' e1 e2 e3=>?_⟩,fun y c' e=>?_,I.free,I.freeC,fun p hp=>?_,tracked ⟨oc,hoc,I.freeC x c hc⟩ hs,by simpa using I.len⟩ ⟨c,hs,.inr hc⟩
  ·exact(hs.2 b (H0 (F8 (F5 e) (I.ok.cab x c hfn hc)))).trans (I.base.keep b o e n hb hx)
  ·obtain⟨sl,e1⟩:=I.base.slot b o e n hb hx;exact⟨sl,(hs.2 b (H0 (F8 (F5 e) (I.ok.cab x c hfn hc)))).trans e1⟩
  ·obtain⟨o',e1⟩:=I.base.there b o e hx;exact⟨o',(hs.2 b (H0 (F8 (F5 e) (I.ok.cab x c hfn hc)))).trans e1⟩
  ·by_cases hj:j=i
   ·subst hj;rw[hi]at e1;cases e1;rw[Q3 hiσ]at e2;cases e2;exact⟨u,r,.inr ⟨.inl hk,c,hc,hc'⟩⟩
   ·rw[T9 (W6 hj)]at e2;obtain⟨u',r',q⟩:=hl j y v' e1 e2 e3;refine⟨u',r',?_⟩;rcases q with q|⟨k,c',e,z'⟩
    ·exact .inl q
    ·refine .inr ⟨k,c',e,z'.sameBut hs ?_⟩;rintro rfl;exact hj (pT hN e1 (I.ok.inj _ _ _ e hc▸hi))
  ·by_cases hcc:c'=c
   ·subst hcc;exact⟨_,hc'⟩
   ·obtain⟨w2,z2⟩:=I.cell y c' e;exact⟨w2,z2.sameBut hs hcc⟩
  ·obtain⟨e,n,ne,nf,d⟩:=I.pin p hp;refine⟨(hs.2 p.1 ?_).trans e,n,ne,nf,d⟩;intro q;rw[q,hoc]at e;have q':oc=p.2:=J6 e;exact d w' (by rw[<-q'];exact hocd)
theorem mF{M:Model}{A:N3}{E:u8->F1->Prop}{i:Nat}{x:Str}{v:V}{u:u8}{Q:Unit->F1->Prop}(I:Inv X ag σ H s) (hN:X.N.Nodup) (hi:X.N[i]?=some x) (hx:Loc X.env.scope x) (r:aL v u)
  (h:∀s',Inv X ag (σ.set i (some v)) H s'->Q () s') (hf:X.fn x=true∨X.env.scope.names.lookup x=some .local:=by first|exact .inl rfl|exact .inr rfl|assumption):J4 M A (storeName X.env x u) Q E s :=
 jB I hN hi hx r (fun s' I' _=>h s' I') hf
theorem Inv.call'{s':F1}{ch:List F9}(I:Inv X ag σ H s) (ho:s'.os=s.os) (u:Un (frs X.stack) ch H H' s.heap s'.heap) (hok:HOk X.prog X.w H' s'.heap) (hg:aa1 s'.gens)
  (hch:∀b∈ch,(b∈X.ex∨X.s₀.heap.objs.size<=b)/\b≠X.env.locals/\(∀x c,X.env.cells.lookup x=some c->c≠b)/\∀p∈X.pn++ag,p.1≠b):Inv X ag σ H' s':=by
 obtain⟨h',g',d',t',o'⟩:=s';have e:o'=s.os:=ho;subst e;exact I.call (g':=g') (t':=t') (d':=d') u hok hg hch
end
abbrev XK:=u8->Option F9->Hp->Prop
noncomputable abbrev St:=List (Option V)
abbrev VK:=V->Hp->Prop
abbrev TE:=St->Hp->VK->Prop
abbrev TT:=St->Hp->(Bool->Hp->Prop)->Prop
abbrev TA:=St->Hp->(List V->Hp->Prop)->Prop
structure qY where
 nx:St->Hp->Prop
 rt:VK
 bk:St->Hp->Prop:=fun _ _=>False
 ct:St->Hp->Prop:=fun _ _=>False
abbrev TS:=qY->St->Hp->Prop
def EP(X:Cx) (ag:List (F9×Obj)) (σ:St) (Q:VK) (u:u8) (s':F1):Prop:=∃v H',Inv X ag σ H' s'/\aL v u/\Q v H'
def TP(X:Cx) (ag:List (F9×Obj)) (σ:St) (Q:Bool->Hp->Prop) (b:Bool) (s':F1):Prop:=∃H',Inv X ag σ H' s'/\Q b H'
def AP(X:Cx) (ag:List (F9×Obj)) (σ:St) (Q:List V->Hp->Prop) (us:List u8) (s':F1):Prop:=∃vs H',Inv X ag σ H' s'/\aB vs us/\Q vs H'
theorem EP.el{X:Cx}{ag:List (F9×Obj)}{σ:St}{Q:VK}{u:u8}{s:F1}{P:Prop}(h:EP X ag σ Q u s) (f:∀(v:V) (H:Hp),Inv X ag σ H s->aL v u->Q v H->P):P:=by
 obtain⟨x1,x2,a,b,c⟩:=h;exact f x1 x2 a b c
theorem AP.el{X:Cx}{ag:List (F9×Obj)}{σ:St}{Q:List V->Hp->Prop}{u:List u8}{s:F1}{P:Prop}(h:AP X ag σ Q u s) (f:∀(v:List V) (H:Hp),Inv X ag σ H s->aB v u->Q v H->P):P:=by
 obtain⟨x1,x2,a,b,c⟩:=h;exact f x1 x2 a b c
theorem TP.el{X:Cx}{ag:List (F9×Obj)}{σ:St}{Q:Bool->Hp->Prop}{u:Bool}{s:F1}{P:Prop}(h:TP X ag σ Q u s) (f:∀(H:Hp),Inv X ag σ H s->Q u H->P):P:=by
 obtain⟨x1,a,b⟩:=h;exact f x1 a b
def SP(X:Cx) (ag:List (F9×Obj)) (D:qY) (f:Flow) (s':F1):Prop :=
 match f with
 |.next=>∃ σ' H',Inv X ag σ' H' s'/\D.nx σ' H'
 |.brk=>∃ σ' H',Inv X ag σ' H' s'/\D.bk σ' H'
 |.cont=>∃ σ' H',Inv X ag σ' H' s'/\D.ct σ' H'
 |.ret u=>∃v σ' H',Inv X ag σ' H' s'/\aL v u/\D.rt v H'
def PE(X:Cx) (e:J5) (t:TE):Prop :=
 ∀(ag:List (F9×Obj)) (s:F1) (σ:St) (H:Hp) (Q:VK),Inv X ag σ H s->t σ H Q->J4 (K3 X.prog X.w) X.A (T8 e X.env) (EP X ag σ Q) X.xe s
def PT(X:Cx) (e:J5) (t:TT):Prop :=
 ∀(ag:List (F9×Obj)) (s:F1) (σ:St) (H:Hp) (Q:Bool->Hp->Prop),Inv X ag σ H s->t σ H Q->J4 (K3 X.prog X.w) X.A (isTrue e X.env (T8 e X.env)) (TP X ag σ Q) X.xe s
def PW(X:Cx) (e:J5) (t:TT):Prop :=
 ∀(whole:Sem u8) (ag:List (F9×Obj)) (s:F1) (σ:St) (H:Hp) (Q:Bool->Hp->Prop),Inv X ag σ H s->t σ H Q->J4 (K3 X.prog X.w) X.A (isTrue e X.env whole) (TP X ag σ Q) X.xe s
theorem PW.pt{X:Cx}{e:J5}{t:TT}(h:PW X e t):PT X e t:=h _
def PA(X:Cx) (es:List J5) (t:TA):Prop :=
 ∀(pos:Pos) (ag:List (F9×Obj)) (s:F1) (σ:St) (H:Hp) (Q:List V->Hp->Prop),Inv X ag σ H s->t σ H Q->J4 (K3 X.prog X.w) X.A (spliced (U6 pos (J1 es X.env))) (AP X ag σ Q) X.xe s
def PS(X:Cx) (st:aa2) (t:TS):Prop :=
 ∀(ag:List (F9×Obj)) (s:F1) (σ:St) (H:Hp) (D:qY),Inv X ag σ H s->t D σ H->J4 (K3 X.prog X.w) X.A (exec st X.env) (SP X ag D) X.xe s
def PSs(X:Cx) (st:List aa2) (t:TS):Prop :=
 ∀(ag:List (F9×Obj)) (s:F1) (σ:St) (H:Hp) (D:qY),Inv X ag σ H s->t D σ H->J4 (K3 X.prog X.w) X.A (execs st X.env) (SP X ag D) X.xe s
theorem thn{α:Type}{t:Sem α}{Q Q':α->F1->Prop}{M:Model}{A:N3}{E:u8->F1->Prop}{s:F1}(h:J4 M A t Q E s) (hQ:∀a s,Q a s->Q' a s):J4 M A t Q' E s:=M8 h hQ fun _ _ x=>x
section
variable{X:Cx}
def FI(i:Nat):TE:=fun σ H Q=>∃v,σ[i]?=some (some v)/\Q v H
def tC(v:V):TE:=fun _ H Q=>Q v H
theorem C9{i:Nat}{x:Str}{pos:Pos}(hN:X.N[i]?=some x) (hv:Vis X.env.scope x) (hd:(x==("__debug__":Str))=false:=by decide) (hcd:(x==("__classdict__":Str))=false:=by decide):PE X (.Name x pos) (FI i):=by
 intro ag s σ H Q I h;obtain⟨v,e,h⟩:=h;obtain⟨m,hn,hl⟩:=I.loc;obtain⟨u,r,l⟩:=hl i x v hN e hv;have fin:EP X ag σ Q u s:=⟨v,H,I,r,h⟩;rcases l with⟨hk,hm⟩|⟨hk,c,hc,hcell⟩
 ·exact wpAny_Name (wpAny_loadName_local I.ok.kind hk hn hm fin) hd
 ·rcases hk with hk|hk
  ·exact wpAny_Name (wpAny_loadName_cell I.ok.kind hk hc hcell fin) hd
  ·exact wpAny_Name (wpAny_loadName_free I.ok.kind hk hc hcell fin hcd) hd
theorem CU{i j pos}:PE X (.Constant (.int i) j pos) (tC (.int i)):=fun _ _ _ H _ I h=>wpAny_Constant_int ⟨.int i,H,I.tok _,⟨_,rfl⟩,h⟩
theorem DS{b j pos}:PE X (.Constant (.bool b) j pos) (tC (.bl b)):=fun _ _ _ H _ I h=>Constant_bool ⟨.bl b,H,I,rfl,h⟩
theorem Cj{j pos}:PE X (.Constant .none j pos) (tC .non):=fun _ _ _ H _ I h=>Constant_none ⟨.non,H,I,rfl,h⟩
theorem Ci{x j pos}:PE X (.Constant (.str x) j pos) (tC (.str x)):=fun _ _ _ H _ I h=>Calls.Constant_str ⟨.str x,H,I.tok _,⟨_,rfl⟩,h⟩
def Gl(X:Cx) (x:Str):Prop:=X.env.kindOf x=some .globalImplicit
theorem zx{E:u8->F1->Prop}{ag:List (F9×Obj)}{s:F1}{σ:St}{H:Hp}{x:Str}{u:u8}{pos:Pos}{Q:u8->F1->Prop}(I:Inv X ag σ H s) (hg:Gl X x) (hm:X.mg x=some u) (h:Q u s)
  (hd:(x==("__debug__":Str))=false:=by decide):J4 (K3 X.prog X.w) X.A (T8 (.Name x pos) X.env) Q E s :=
 Calls.Name_function_global I.ok.kind hg (Calls.loadGlobal_global (by rw[I.ok.glob];exact I.mod.glob.keeps I.bk) hm h) hd
theorem dI{E:u8->F1->Prop}{ag:List (F9×Obj)}{s:F1}{σ:St}{H:Hp}{x:Str}{u:u8}{pos:Pos}{Q:u8->F1->Prop}(I:Inv X ag σ H s) (hg:Gl X x) (hm:X.mg x=none) (hv:Q9 x=some u) (h:Q u s)
  (hn:x≠"__name__":=by decide) (hd:(x==("__debug__":Str))=false:=by decide):J4 (K3 X.prog X.w) X.A (T8 (.Name x pos) X.env) Q E s:=by
 obtain⟨mb,h1,h2⟩:=I.mod.blt;exact Calls.Name_function_global I.ok.kind hg (Calls.loadGlobal_builtin (by rw[I.ok.glob];exact I.mod.glob.keeps I.bk) hm (by rw[I.ok.blt];exact h1.keeps I.bk) ((h2 x hn).trans hv) h) hd
theorem yL{x:Str}{v:V}{u:u8}{pos:Pos}(hg:Gl X x) (hm:X.mg x=none) (hv:Q9 x=some u) (r:aL v u) (hn:x≠"__name__":=by decide) (hd:(x==("__debug__":Str))=false:=by decide):PE X (.Name x pos) (tC v) :=
 fun _ _ _ H _ I h=>dI I hg hm hv ⟨v,H,I,r,h⟩ hn hd
variable{a b:J5}{ta tb:TE}{pos:Pos}
def PC(X:Cx) (op:ac2) (a b:J5) (t:TE):Prop :=
 ∀(ag:List (F9×Obj)) (s:F1) (σ:St) (H:Hp) (Q:VK),Inv X ag σ H s->t σ H Q ->
  J4 (K3 X.prog X.w) X.A (T8 a X.env) (fun v s₁=>J4 (K3 X.prog X.w) X.A (T8 b X.env) (fun u s₂=>J4 (K3 X.prog X.w) X.A (L6 op v u) (EP X ag σ Q) X.xe s₂) X.xe s₁) X.xe s
theorem lR(b:J5) {op:ac2}(h:op≠.In) (h2:op≠.NotIn):S2 op b=false:=by
 have e1:(op==ac2.In)=false:=by cases op<;>first|rfl|exact absurd rfl h
 have e2:(op==ac2.NotIn)=false:=by cases op<;>first|rfl|exact absurd rfl h2
 cases b<;>simp[S2,e1,e2]
def tB(t:TE):TT:=fun σ H Q=>t σ H fun x H1=>∃c,x=.bl c/\Q c H1
theorem Bj{op:ac2}{t:TE}(h:PC X op a b t) (h1:S2 op b=false:=by first|exact lR _ (by decide) (by decide)|rfl):PE X (.Compare a [op] [b] pos) t:=fun ag s σ H Q I hw=>wpAny_Compare1 (h ag s σ H Q I hw) h1
theorem Bi{op:ac2}{t:TE}(h:PC X op a b t) (h1:S2 op b=false:=by first|exact lR _ (by decide) (by decide)|rfl):PT X (.Compare a [op] [b] pos) (tB t):=by
 intro ag s σ H Q I hw;refine wpAny_isTrue_Compare1 (thn (h ag s σ H _ I hw) fun v s1 h1=>thn h1 fun u s2 h2=>thn h2 fun c s3 hup=>hup.el fun x H1 I1 r1 q1=>?_) h1;obtain⟨d,rfl,q⟩:=q1;cases r1;exact O7 ⟨H1,I1,q⟩
theorem Di{e:J5}{t:TE}(h:PE X e t) (he:∀whole,isTrue e X.env whole=(do let v <-whole;standAt e.pos;ab2 [v] (truthy v)):=by intro _;rfl):PT X e (tB t):=by
 intro ag s σ H Q I hw;refine isTrue_plain (thn (h ag s σ H _ I hw) fun v s1 hup=>hup.el fun x H1 I1 r1 q1=>?_) (he _);obtain⟨d,rfl,q⟩:=q1;cases r1;exact O7 ⟨H1,I1,q⟩
variable{tA tB':TT}{bZ:List J5}
def FL(t u:TT):TT:=fun σ H Q=>t σ H fun c H1=>if c=true then u σ H1 Q else Q false H1
def tOr(t u:TT):TT:=fun σ H Q=>t σ H fun c H1=>if c=true then Q true H1 else u σ H1 Q
def FC(t:TT):TT:=fun σ H Q=>t σ H fun c H1=>Q (!c) H1
theorem Ao(ha:PT X a tA):PW X (.BoolOp .And [a] pos) tA:=by
 intro wh ag s σ H Q I h;refine isTrue_and (thn (ha ag s σ H Q I h) fun c s1 e=>?_);cases c with
 |true=>exact isTrue_and_nil e
 |false=>exact e
theorem CK(ha:PT X a tA):PW X (.BoolOp .Or [a] pos) tA:=by
 intro wh ag s σ H Q I h;refine isTrue_or (thn (ha ag s σ H Q I h) fun c s1 e=>?_);cases c with
 |false=>exact isTrue_or_nil e
 |true=>exact e
theorem C5(ha:PT X a tA) (hb:PW X (.BoolOp .And (b::bZ) pos) tB'):PW X (.BoolOp .And (a::b::bZ) pos) (FL tA tB'):=by
 intro wh ag s σ H Q I h;refine isTrue_and (thn (ha ag s σ H _ I h) fun c s1 hup=>hup.el fun H1 I1 q1=>?_);cases c with
 |true=>exact hb wh ag s1 σ H1 Q I1 q1
 |false=>exact⟨H1,I1,q1⟩
theorem DR(ha:PT X a tA) (hb:PW X (.BoolOp .Or (b::bZ) pos) tB'):PW X (.BoolOp .Or (a::b::bZ) pos) (tOr tA tB'):=by
 intro wh ag s σ H Q I h;refine isTrue_or (thn (ha ag s σ H _ I h) fun c s1 hup=>hup.el fun H1 I1 q1=>?_);cases c with
 |true=>exact⟨H1,I1,q1⟩
 |false=>exact hb wh ag s1 σ H1 Q I1 q1
theorem BQ(ha:PT X a tA):PT X (.UnaryOp .Not a pos) (FC tA):=by
 intro ag s σ H Q I h;exact isTrue_not (ha ag s σ H (fun c H1=>Q (!c) H1) I h)
def Ew(ta tb:TE):TE:=fun σ H Q=>ta σ H fun x H1=>∃c,x=.bl c/\if c=true then tb σ H1 Q else Q (.bl false) H1
theorem Cs{op}{t:TE}(h:PE X a t):PE X (.BoolOp op [a] pos) t:=fun ag s σ H Q I hw=>BoolOp_one (h ag s σ H Q I hw)
theorem Cd(ha:PE X a ta) (hb:PE X (.BoolOp .And (b::bZ) pos) tb):PE X (.BoolOp .And (a::b::bZ) pos) (Ew ta tb):=by
 intro ag s σ H Q I h;refine BoolOp_and (thn (ha ag s σ H _ I h) fun v s1 hup=>hup.el fun x H1 I1 r1 q1=>?_);obtain⟨c,rfl,q1⟩:=q1;cases r1;refine O7 ?_;cases c with
 |true=>exact hb ag s1 σ H1 Q I1 q1
 |false=>exact⟨.bl false,H1,I1,rfl,q1⟩
def tIf(t:TT) (ta tb:TE):TE:=fun σ H Q=>t σ H fun c H1=>if c=true then ta σ H1 Q else tb σ H1 Q
theorem wW{c:J5}(hc:PT X c tA) (ha:PE X a ta) (hb:PE X b tb):PE X (.IfExp c a b pos) (tIf tA ta tb):=by
 intro ag s σ H Q I h;refine wpAny_IfExp (thn (hc ag s σ H _ I h) fun d s1 hup=>hup.el fun H1 I1 q1=>?_);cases d with
 |true=>exact ha ag s1 σ H1 Q I1 q1
 |false=>exact hb ag s1 σ H1 Q I1 q1
end
def SqL(K:o0) (H:Hp) (a:F9) (xs:List V):Prop :=
 Rd H a (.lst xs) ∨
  ∃(o:Obj) (its:Array u8) (n:Nat),K.lookup a=some o/\o.cls=.type "list"/\o.dict=none/\o.data=.seq its n/\its.size<=F2/\aB xs its.toList
def SqT(K:o0) (H:Hp) (a:F9) (xs:List V):Prop :=
 Rd H a (.tup xs) ∨
  ∃(o:Obj) (its:Array u8) (n:Nat),K.lookup a=some o/\(o.cls=.type "tuple"/\o.dict=none)/\o.data=.seq its n/\its.size<=F2/\aB xs its.toList
noncomputable def FR:u8->Option V
 |.none=>some .non
 |.bool b=>some (.bl b)
 |.int i _=>some (.int i)
 |.str x _=>some (.str x)
 |.bytes b _=>some (.byt b)
 |.float b _=>some (.flt b)
 |.ref a=>some (.ref a)
 |.type n=>some (.ty n)
 |_=>none
theorem aL.abs{x:V}{u:u8}(r:aL x u):FR u=some x:=by
 cases x with
 |non=>cases r;rfl
 |bl _=>cases r;rfl
 |int _=>obtain⟨t,rfl⟩:=r;rfl
 |str _=>obtain⟨t,rfl⟩:=r;rfl
 |byt _=>obtain⟨t,rfl⟩:=r;rfl
 |flt _=>obtain⟨t,rfl⟩:=r;rfl
 |ref _=>cases r;rfl
 |ty _=>cases r;rfl
theorem aL.inj{x y:V}{u:u8}(r:aL x u) (q:aL y u):x=y:=J6 (r.abs.symm.trans q.abs)
theorem aB.inj:∀{xs ys:List V}{us:List u8},aB xs us->aB ys us->xs=ys
 |_,_,_,.nil,.nil=>rfl
 |_,_,_,.cons r t,.cons r' t'=>by rw[r.inj r',aB.inj t t']
section
variable{X:Cx}{ag:List (F9×Obj)}{σ:St}{H:Hp}{s:F1}{a:F9}{xs ys:List V}
theorem SqL.of{K:o0}(h:H a=some (.lst xs)):SqL K H a xs:=.inl (.inl h)
theorem SqT.of{K:o0}(h:H a=some (.tup xs)):SqT K H a xs:=.inl (.inl h)
theorem Inv.list(I:Inv X ag σ H s) (h:SqL X.K H a xs):∃its:List u8,aB xs its/\PlainL s.heap a its.toArray/\xs.length<=F2:=by
 rcases h with h|⟨o,its,n,hk,hc,hd,hs,hz,r⟩
 ·obtain⟨z,its,n,r,e⟩:=h.ok I.hok;exact⟨its,r,⟨_,n,e,rfl,rfl,rfl⟩,z⟩
 ·refine⟨its.toList,r,⟨o,n,I.kIn a o hk,hc,hd,by simpa using hs⟩,?_⟩;have e:=r.length;simp only[U2]at e
  lia
theorem Inv.tuple(I:Inv X ag σ H s) (h:SqT X.K H a xs):∃its:List u8,aB xs its/\ab8 s.heap a its.toArray/\xs.length<=F2:=by
 rcases h with h|⟨o,its,n,hk,hc,hs,hz,r⟩
 ·obtain⟨z,its,r,p⟩:=h.ok I.hok;exact⟨its,r,p.tup,z⟩
 ·refine⟨its.toList,r,⟨o,I.kIn a o hk,hc.1,n,by simpa using hs⟩,?_⟩;have e:=r.length;simp only[U2]at e
  lia
theorem Inv.list_inj(I:Inv X ag σ H s) (h:SqL X.K H a xs) (h':SqL X.K H a ys):xs=ys:=by
 obtain⟨its,r,⟨o,n,e,_,_,d⟩,_⟩:=I.list h;obtain⟨its',r',⟨o',n',e',_,_,d'⟩,_⟩:=I.list h';rw[e]at e';cases e';rw[d]at d';injection d' with d1 _
 have:its=its':=by simpa using congrArg Array.toList d1
 subst this;exact r.inj r'
theorem Inv.tuple_inj(I:Inv X ag σ H s) (h:SqT X.K H a xs) (h':SqT X.K H a ys):xs=ys:=by
 obtain⟨its,r,⟨o,e,_,n,d⟩,_⟩:=I.tuple h;obtain⟨its',r',⟨o',e',_,n',d'⟩,_⟩:=I.tuple h';rw[e]at e';cases e';rw[d]at d';injection d' with d1 _
 have:its=its':=by simpa using congrArg Array.toList d1
 subst this;exact r.inj r'
end
abbrev Cx.wish(X:Cx) (E:u8->F1->Prop):Cx:={ X with xe:=E }
abbrev Cx.nox(X:Cx):Cx:=X.wish fun _ _=>False
theorem Cx.Ok.wish{X:Cx}(ok:X.Ok) (E:u8->F1->Prop):(X.wish E).Ok :=
 ⟨ok.mod,ok.kind,ok.glob,ok.blt,ok.above,ok.inj,ok.has,ok.cab,ok.hd,ok.frames,ok.stk,ok.exf,ok.bs,ok.bsz,ok.noex,ok.exfs,ok.funs,ok.frf⟩
theorem Cx.Ok.unwish{X:Cx}{E:u8->F1->Prop}(ok:(X.wish E).Ok):X.Ok :=
 ⟨ok.mod,ok.kind,ok.glob,ok.blt,ok.above,ok.inj,ok.has,ok.cab,ok.hd,ok.frames,ok.stk,ok.exf,ok.bs,ok.bsz,ok.noex,ok.exfs,ok.funs,ok.frf⟩
section
variable{X:Cx}{ag:List (F9×Obj)}{σ:St}{H:Hp}{s:F1}{E:u8->F1->Prop}
theorem Inv.wish(I:Inv X ag σ H s) (E:u8->F1->Prop):Inv (X.wish E) ag σ H s:=⟨I.ok.wish E,I.os,I.bare,I.base,I.loc,I.cell,I.free,I.freeC,I.pin,I.hok,I.len⟩
theorem Inv.unwish(I:Inv (X.wish E) ag σ H s):Inv X ag σ H s:=⟨I.ok.unwish,I.os,I.bare,I.base,I.loc,I.cell,I.free,I.freeC,I.pin,I.hok,I.len⟩
theorem SP.unwish{D:qY}{f:Flow}{s':F1}(h:SP (X.wish E) ag D f s'):SP X ag D f s':=by
 cases f with
 |next=>obtain⟨σ',H',I,q⟩:=h;exact⟨σ',H',I.unwish,q⟩
 |brk=>obtain⟨σ',H',I,q⟩:=h;exact⟨σ',H',I.unwish,q⟩
 |cont=>obtain⟨σ',H',I,q⟩:=h;exact⟨σ',H',I.unwish,q⟩
 |ret u=>obtain⟨v,σ',H',I,r,q⟩:=h;exact⟨v,σ',H',I.unwish,r,q⟩
theorem PSs.nox{st:List aa2}{t:TS}(h:PSs X.nox st t):PSs X st t:=fun ag s σ H D I hw =>
 M8 (h ag s σ H D (I.wish _) hw) (fun _ _ q=>q.unwish) fun _ _ z=>U3 z
end
section
variable{X:Cx}{st:aa2}{bZ:List aa2}{t u:TS}{e:J5}{te:TE}{pos:Pos}
def El:TS:=fun D σ H=>D.nx σ H
def FP(t u:TS):TS:=fun D σ H=>t { D with nx:=u D } σ H
theorem zJ:PSs X [] El:=fun _ _ σ H _ I h=>W7 ⟨σ,H,I,h⟩
theorem xJ(h1:PS X st t) (h2:PSs X bZ u):PSs X (st::bZ) (FP t u):=by
 intro ag s σ H D I h;refine wpAny_execs_cons (thn (h1 ag s σ H { D with nx:=u D } I h) fun f s1 q=>?_);cases f with
 |next =>
  obtain⟨σ',H',I',q⟩:=q;exact h2 ag s1 σ' H' D I' q
 |ret v=>exact q
 |brk=>exact q
 |cont=>exact q
theorem zB(h1:PS X st t):PSs X [st] t:=by
 intro ag s σ H D I h;refine wpAny_execs_cons (thn (h1 ag s σ H D I h) fun f s1 q=>?_);cases f with
 |next=>exact W7 q
 |ret v=>exact q
 |brk=>exact q
 |cont=>exact q
theorem Inv.quiet{ag:List (F9×Obj)}{σ:St}{H:Hp}{s:F1}(I:Inv X ag σ H s):interactive X.env=false:=by simp[interactive,I.ok.kind]
def Em(te:TE):TS:=fun D σ H=>te σ H fun _ H1=>D.nx σ H1
theorem Aw(he:PE X e te) (hs:V9 e none pos.line X.env=V2 false:=by rfl):PS X (.Expr e pos) (Em te):=by
 intro ag s σ H D I h;exact wpAny_Expr_any (thn (he ag s σ H _ I h) fun v s1 hup=>hup.el fun x H1 I1 r1 q1=>⟨σ,H1,I1,q1⟩) I.quiet hs
def Fx(te:TE):TS:=fun D σ H=>te σ H D.rt
theorem si(he:PE X e te):PS X (.Return (some e) pos) (Fx te):=by
 intro ag s σ H D I h;exact wpAny_Return_some (thn (he ag s σ H _ I h) fun v s1 hup=>hup.el fun x H1 I1 r1 q1=>⟨x,σ,H1,I1,r1,q1⟩)
def FN(c:TT) (t u:TS):TS:=fun D σ H=>c σ H fun b H1=>if b=true then t D σ H1 else u D σ H1
theorem DN{c:J5}{a b:List aa2}{tc:TT}(hc:PT X c tc) (ha:PSs X a t) (hb:PSs X b u):PS X (.If c a b pos) (FN tc t u):=by
 intro ag s σ H D I h;refine wpAny_If (thn (hc ag s σ H _ I h) fun d s1 hup=>hup.el fun H1 I1 q1=>?_);cases d with
 |true=>exact ha ag s1 σ H1 D I1 q1
 |false=>exact hb ag s1 σ H1 D I1 q1
end
abbrev TG:=V->St->Hp->(St->Hp->Prop)->Prop
abbrev TGs:=List V->St->Hp->(St->Hp->Prop)->Prop
def PG(X:Cx) (target:J5) (t:TG):Prop :=
 ∀(ag:List (F9×Obj)) (s:F1) (σ:St) (H:Hp) (v:V) (u:u8) (Q:St->Hp->Prop),Inv X ag σ H s->aL v u->t v σ H Q ->
  J4 (K3 X.prog X.w) X.A (U0 target X.env u) (fun _ s'=>∃ σ' H',Inv X ag σ' H' s'/\Q σ' H') X.xe s
def PGs(X:Cx) (ts:List J5) (t:TGs):Prop :=
 ∀(ag:List (F9×Obj)) (s:F1) (σ:St) (H:Hp) (vs:List V) (us:List u8) (Q:St->Hp->Prop),Inv X ag σ H s->aB vs us->t vs σ H Q ->
  J4 (K3 X.prog X.w) X.A (assignInOrder ((M9 ts X.env).map (·.2)) us) (fun _ s'=>∃ σ' H',Inv X ag σ' H' s'/\Q σ' H') X.xe s
abbrev Br:=V->V->V->Hp->(Hp->Prop)->Prop
def DO(X:Cx) (t:Br):Prop :=
 ∀(ag:List (F9×Obj)) (s:F1) (σ:St) (H:Hp) (o i v:V) (ov iv u:u8) (Q:Hp->Prop),Inv X ag σ H s->aL o ov->aL i iv->aL v u->t o i v H Q ->
  J4 (K3 X.prog X.w) X.A (setItem ov iv u) (fun _ s'=>∃H',Inv X ag σ H' s'/\Q H') X.xe s
abbrev TIp:=V->V->Hp->VK->Prop
def PIp(X:Cx) (op:ac7) (t:TIp):Prop :=
 ∀(ag:List (F9×Obj)) (s:F1) (σ:St) (H:Hp) (x y:V) (v u:u8) (Q:VK),Inv X ag σ H s->aL x v->aL y u->t x y H Q ->
  J4 (K3 X.prog X.w) X.A (ac9 op v u) (EP X ag σ Q) X.xe s
section
variable{X:Cx}{pos:Pos}
def mC(i:Nat):TG:=fun v σ H Q=>Q (σ.set i (some v)) H
theorem kZ{i:Nat}{x:Str}(hN:X.N.Nodup) (hi:X.N[i]?=some x) (hx:Loc X.env.scope x) (hf:X.fn x=true∨X.env.scope.names.lookup x=some .local:=by first|exact .inl rfl|exact .inr rfl|assumption):PG X (.Name x pos) (mC i):=by
 intro ag s σ H v u Q I r h;exact wpAny_assign_Name (mF I hN hi hx r (fun s' I'=>⟨_,H,I',h⟩) hf)
def Cn:TGs:=fun vs σ H Q=>vs=[]/\Q σ H
def xx(t:TG) (u:TGs):TGs:=fun vs σ H Q=>∃v r,vs=v::r/\t v σ H fun σ' H'=>u r σ' H' Q
theorem pj:PGs X [] Cn:=by
 intro ag s σ H vs us Q I r h;obtain⟨e,h⟩:=h;subst e;cases r;exact assignInOrder_nil ⟨σ,H,I,h⟩
theorem iS{e:J5}{es:List J5}{t:TG}{u:TGs}(h1:PG X e t) (h2:PGs X es u)
  (hs:(M9 (e::es) X.env).map (·.2)=U0 e X.env::(M9 es X.env).map (·.2):=by rfl):PGs X (e::es) (xx t u):=by
 intro ag s σ H vs us Q I r h;obtain⟨v,vr,e1,h⟩:=h;subst e1;cases r with
 |cons r rr =>
  rw[hs];refine assignInOrder_cons (thn (h1 ag s σ H _ _ _ I r h) fun _ s1 ⟨σ1,H1,I1,q1⟩=>?_);exact h2 ag s1 σ1 H1 _ _ Q I1 rr q1
def B8(K:o0) (n:Nat) (t:TGs):TG:=fun v σ H Q=>∃a xs,v=.ref a/\SqT K H a xs/\xs.length=n/\t xs σ H Q
theorem sd{es:List J5}{k:Nat}{t:TGs}{n:Nat}(hc:X.calm=true) (h:PGs X es t)
  (hn:(M9 es X.env).length=n:=by rfl) (hst:(M9 es X.env).findIdx? (·.1)=none:=by rfl):PG X (.Tuple es k pos) (B8 X.K n t):=by
 intro ag s σ H v u Q I r hw;obtain⟨a,xs,e1,hq,hl,hw⟩:=hw;subst e1;cases r;obtain⟨its,rv,ht,hz⟩:=I.tuple hq;refine assign_Tuple_tuple (I.ok.hd hc) ht (by simp[hn,<-hl,rv.length]) hst fun h' hx=>?_;have I1:Inv X ag σ H { s with heap:=h' }:=I.kept (t':=s.toks) fun b o e=>hx b o (H0 (F5 e)) e;exact h ag _ σ H xs _ Q I1 (by simpa using rv) hw
def Fh(to ti:TE) (t:Br):TG:=fun v σ H Q=>to σ H fun o H1=>ti σ H1 fun i H2=>t o i v H2 fun H3=>Q σ H3
theorem Dd{o i:J5}{to ti:TE}{t:Br}(ho:PE X o to) (hi:PE X i ti) (hs:DO X t)
  (ha:∀ v,U0 (.Subscript o i pos) X.env v = (do
   let ov <-ab2 [v] (T8 o X.env)
   let iv <-ab2 [v,ov] (T8 i X.env)
   standAt pos
   ab2 [v,ov,iv] (setItem ov iv v)
   release [v,ov,iv] []):=by intro _;rfl):PG X (.Subscript o i pos) (Fh to ti t):=by
 intro ag s σ H v u Q I r h;rw[ha];refine s0 (S3 (thn (ho ag s σ H _ I h) fun ov s1 hup=>hup.el fun x H1 I1 r1 q1=>?_));refine s0 (S3 (thn (hi ag s1 σ H1 _ I1 q1) fun iv s2 hup=>hup.el fun y H2 I2 r2 q2=>?_));refine s0 (U7 (s0 (S3 (thn (hs ag s2 σ H2 x y v ov iv u _ I2 r1 r2 r q2) fun _ s3 ⟨H3,I3,q3⟩=>?_))));exact wpAny_release ⟨σ,H3,I3,q3⟩
def zO(te:TE) (g:TG):TS:=fun D σ H=>te σ H fun x H1=>g x σ H1 D.nx
theorem xu{tg e:J5}{te:TE}{g:TG}(he:PE X e te) (hg:PG X tg g) (hs:swapsWithSole [tg] e pos.line X.env=V2 false:=by rfl) (hw:swappedStores [tg] e X.env=V2 none:=by rfl)
  (h1:(M9 [tg] X.env).map (·.2)=[U0 tg X.env]:=by rfl):PS X (.Assign [tg] e pos) (zO te g):=by
 intro ag s σ H D I h;refine wpAny_Assign_stores (thn (he ag s σ H _ I h) fun v s1 hup=>hup.el fun x H1 I1 r1 q1=>?_) hs hw;rw[h1];exact thn (hg ag s1 σ H1 x v _ I1 r1 q1) fun _ s2 q=>q
theorem CD{i:Nat}{x:Str}{e:J5}{te:TE}{pos':Pos}(hN:X.N.Nodup) (hi:X.N[i]?=some x) (hx:Loc X.env.scope x) (he:PE X e te) (hs:V9 e (some (.Name x pos')) pos.line X.env=V2 false:=by rfl) (hf:X.fn x=true∨X.env.scope.names.lookup x=some .local:=by first|exact .inl rfl|exact .inr rfl|assumption) :
  PS X (.Assign [.Name x pos'] e pos) (zO te (mC i)):=by
 intro ag s σ H D I h;refine wpAny_Assign_Name (thn (he ag s σ H _ I h) fun v s1 hup=>hup.el fun y H1 I1 r1 q1=>?_) hs;exact mF I1 hN hi hx r1 (fun s2 I2=>⟨_,H1,I2,q1⟩) hf
def Fg(i:Nat) (te:TE) (ti:TIp):TS:=fun D σ H=>∃x,σ[i]?=some (some x)/\te σ H fun y H1=>ti x y H1 fun z H2=>D.nx (σ.set i (some z)) H2
theorem Ce{i:Nat}{x:Str}{e:J5}{te:TE}{op:ac7}{ti:TIp}{pos':Pos}(hN:X.N.Nodup) (hi:X.N[i]?=some x) (hx:Loc X.env.scope x) (he:PE X e te) (ho:PIp X op ti) (hf:X.fn x=true∨X.env.scope.names.lookup x=some .local:=by first|exact .inl rfl|exact .inr rfl|assumption) :
  PS X (.AugAssign (.Name x pos') op e pos) (Fg i te ti):=by
 intro ag s σ H D I h;obtain⟨v,e1,h⟩:=h;obtain⟨m,hn,hl⟩:=I.loc;have vis:Vis X.env.scope x:=by rcases hx with k|k;exact .inl k;exact .inr (.inl k)
 obtain⟨u,r,l⟩:=hl i x v hi e1 vis;refine wpAny_AugAssign_Name ?_;have go:J4 (K3 X.prog X.w) X.A (T8 e X.env) (fun w s₂=>J4 (K3 X.prog X.w) X.A (ac9 op u w) (fun r s₃=>J4 (K3 X.prog X.w) X.A (storeName X.env x r) (fun _=>SP X ag D .next) X.xe s₃) X.xe s₂) X.xe s:=by
  refine thn (he ag s σ H _ I h) fun w s1 hup=>hup.el fun y H1 I1 r1 q1=>?_;refine thn (ho ag s1 σ H1 v y u w _ I1 r r1 q1) fun z s2 hup=>hup.el fun zv H2 I2 r2 q2=>?_;exact mF I2 hN hi hx r2 (fun s3 I3=>⟨_,H2,I3,q2⟩) hf
 rcases l with⟨hk,hm⟩|⟨hk,c,hc,hcell⟩
 ·exact wpAny_loadName_local I.ok.kind hk hn hm go
 ·rcases hk with hk|hk
  ·exact wpAny_loadName_cell I.ok.kind hk hc hcell go
  ·rcases hx with k|k
   ·have:X.env.scope.names.lookup x=some .free:=hk;rw[k]at this;cases this
   ·have:X.env.scope.names.lookup x=some .free:=hk;rw[k]at this;cases this
def ipI(f:Int->Int->Int):TIp:=fun x y H Q=>∃i j,x=.int i/\y=.int j/\Q (.int (f i j)) H
theorem Cg:PIp X .Add (ipI fun i j=>i+j):=by
 intro ag s σ H x y v u Q I r1 r2 h;obtain⟨i,j,e1,e2,q⟩:=h;subst e1;subst e2;obtain⟨t,rfl⟩:=r1;obtain⟨t',rfl⟩:=r2;exact iadd_int ⟨.int _,H,I.tok _,⟨_,rfl⟩,q⟩
end
section
variable{X:Cx}{pos:Pos}
def C7(c:TT) (tb:TS):TS:=fun D σ H=>∃W:Nat->St->Hp->Prop,(∃m,W m σ H)/\∀m σ H,W m σ H ->
 c σ H fun b H1=>if b=true then ∃N:St->Hp->Prop,(∀ σ' H',N σ' H'->∃m',m'<m/\W m' σ' H')/\tb { D with nx:=N,ct:=N,bk:=D.nx } σ H1 else D.nx σ H1
theorem xt{c:J5}{body:List aa2}{tc:TT}{tb:TS}(hp:ad0 (K3 X.prog X.w) X.A X.env X.xe) (hc:PT X c tc) (hb:PSs X body tb):PS X (.While c body [] pos) (C7 tc tb):=by
 intro ag s σ H D I h;obtain⟨W,⟨m0,w0⟩,turn⟩:=h;refine wpAny_While (codeAny_whileLoop (fun n s'=>∃ σ' H',Inv X ag σ' H' s'/\W n σ' H') ?_ m0 ⟨σ,H,I,w0⟩);rintro n s1 ⟨σ1,H1,I1,w1⟩;refine R8 hp (thn (hc ag s1 σ1 H1 _ I1 (turn n σ1 H1 w1)) fun b s2 hup=>hup.el fun H2 I2 q2=>?_);cases b with
 |true =>
  obtain⟨N,hN,q2⟩:=q2;rw[if_pos rfl];refine R8 hp (thn (hb ag s2 σ1 H2 _ I2 q2) fun f s3 q3=>?_);cases f with
  |next =>
   obtain⟨σ3,H3,I3,n3⟩:=q3;obtain⟨m',hm,w3⟩:=hN σ3 H3 n3;exact⟨m',hm,σ3,H3,I3,w3⟩
  |cont =>
   obtain⟨σ3,H3,I3,n3⟩:=q3;obtain⟨m',hm,w3⟩:=hN σ3 H3 n3;exact⟨m',hm,σ3,H3,I3,w3⟩
  |brk=>exact q3
  |ret v=>exact q3
 |false =>
  rw[if_neg L4];exact W7 ⟨σ1,H2,I2,q2⟩
end
structure It where
 go:Nat->Hp->Prop
 yld:Nat->Hp->V->Hp->Prop
 stop:Nat->Hp->Prop
def cV(X:Cx) (ag:List (F9×Obj)) (H:Hp) (b:F9):Prop :=
 H b=none/\b≠X.env.locals/\b∉X.fs/\(b∈X.ex∨X.s₀.heap.objs.size<=b)/\(∀x c,X.env.cells.lookup x=some c->c≠b)/\∀p∈X.pn++ag,p.1≠b
theorem Inv.fpOk{X:Cx}{ag:List (F9×Obj)}{σ:St}{H H':Hp}{s:F1}{b:F9}(I:Inv X ag σ H s) (hb:s.heap.objs.size<=b) (hn:H' b=none):cV X ag H' b:=by
 refine⟨hn,T0 (F8 I.lt hb),I.nofs hb,.inr (L7 I.sz hb),fun x c e z=>?_,fun p hp z=>?_⟩
 ·obtain⟨v,q⟩:=I.cell x c e;exact absurd (F8 q.lt (by rw[z];exact hb)) (O0 _)
 ·exact absurd (F8 (F5 (I.pin p hp).1) (by rw[z];exact hb)) (O0 _)
structure iD(P:L5) (w:P6) (K:o0) (tg:J5) (J:It) (fp:List F9) (it:F9) (tn:Nat->K4->Prop):Prop where
 mem:it∈fp
 obj:∀i h,tn i h->∀b∈fp,∃o,h.get? b=some o/\∀v,o.data≠.cell v
 keep:∀i h h',tn i h->(∀b∈fp,∀o,h.get? b=some o->h'.get? b=some o)->tn i h'
 item:∀(X:Cx),X.prog=P->X.w=w->X.K=K->X.calm=true->∀(i:Nat) (ag:List (F9×Obj)) (s:F1) (σ:St) (H:Hp) (E:u8->F1->Prop),Inv X ag σ H s->(∀b∈fp,cV X ag H b)->tn i s.heap->J.go i H ->
  J4 (K3 P w) X.A (ac6 (.ref it)) (fun r s1=>∃u,r=some u /\
   J4 (K3 P w) X.A (T1 tg (.ref it) u) (fun _ s2=>∃x H',Inv X ag σ H' s2/\aL x u/\J.yld i H x H'/\tn (i+1) s2.heap/\∀b∈fp,H' b=none) E s1) E s
 done:∀(X:Cx),X.prog=P->X.w=w->X.K=K->X.calm=true->∀(i:Nat) (ag:List (F9×Obj)) (s:F1) (σ:St) (H:Hp) (E:u8->F1->Prop),Inv X ag σ H s->(∀b∈fp,cV X ag H b)->tn i s.heap->J.stop i H ->
  J4 (K3 P w) X.A (ac6 (.ref it)) (fun r s1=>r=none/\Inv X ag σ H s1) E s
 self:∀(A:N3) (i:Nat) (s:F1) (Q:u8->F1->Prop) (E:u8->F1->Prop),tn i s.heap->Q (.ref it) s->J4 (K3 P w) A (pyIter (.ref it)) Q E s
abbrev TI:=St->Hp->(It->Hp->Prop)->Prop
def PIE(X:Cx) (ag:List (F9×Obj)) (σ:St) (tg:J5) (R:It->Hp->Prop) (itv:u8) (s2:F1):Prop :=
 ∃(it:F9) (fp:List F9) (tn:Nat->K4->Prop) (J:It) (H':Hp),itv=.ref it/\Inv X ag σ H' s2/\iD X.prog X.w X.K tg J fp it tn/\tn 0 s2.heap/\(∀b∈fp,cV X ag H' b)/\R J H'
def PI(X:Cx) (tg iter:J5) (wi:TI):Prop :=
 ∀(ag:List (F9×Obj)) (s:F1) (σ:St) (H:Hp) (R:It->Hp->Prop),Inv X ag σ H s->wi σ H R ->
  J4 (K3 X.prog X.w) X.A (T8 iter X.env) (fun v s1=>J4 (K3 X.prog X.w) X.A (pyIter v) (PIE X ag σ tg R) X.xe s1) X.xe s
theorem lH{M:Model}{A:N3}{E:u8->F1->Prop}{s:F1}{tg:J5}{it:F9}{u:u8}{o:Obj}{n:String}{vs:Array u8}{Q:Unit->F1->Prop}(ho:s.heap.get? it=some o) (hc:o.cls=.type n) (hd:o.data=.fields vs)
    (hn:["enumerate","zip","dict_itemiterator","dict_reverseitemiterator","odict_iterator","itertools.zip_longest","itertools.pairwise"].contains n=false) (hQ:Q () s):J4 M A (T1 tg (.ref it) u) Q E s:=by
  unfold T1;cases tg<;>first
    |exact F4 hQ
    |(cases u<;>first
        |exact F4 hQ
        | (refine s0 (wpAny_load ho ?_)
           rw[hc,hd];show J4 M A (if(["enumerate","zip","dict_itemiterator","dict_reverseitemiterator","odict_iterator","itertools.zip_longest","itertools.pairwise"].contains n&&vs[0]?==some (Z3 _))=true then _ else _) Q E s;rw[if_neg (by intro h;rw[hn,Bool.false_and]at h;cases h)];exact F4 hQ))
def Itl(K:o0) (a:F9):It :=
 ⟨fun i H=>∃xs x,SqL K H a xs/\xs[i]?=some x,fun i H x H'=>H'=H/\∀xs,SqL K H a xs->xs[i]?=some x,fun i H=>∃xs,SqL K H a xs/\xs.length<=i⟩
def Itt(K:o0) (a:F9):It :=
 ⟨fun i H=>∃xs x,SqT K H a xs/\xs[i]?=some x,fun i H x H'=>H'=H/\∀xs,SqT K H a xs->xs[i]?=some x,fun i H=>∃xs,SqT K H a xs/\xs.length<=i⟩
def Itr(lo:Int) (n:Nat):It:=⟨fun i _=>i<n,fun i H x H'=>H'=H/\x=.int (lo+i),fun i _=>n<=i⟩
theorem oo{P:L5}{w:P6}{K:o0}{tg:J5}(a it:F9):iD P w K tg (Itl K a) [it] it (fun i h=>h.IsListIter it a i) where
 mem:=by simp
 obj:=fun i h st b hb=>by
  have e:b=it:=by simpa using hb
  subst e;obtain⟨o,e,c,d⟩:=st;exact⟨o,e,fun v z=>by rw[d]at z;cases z⟩
 keep:=fun i h h' st k=>st.at fun o e=>k it (by simp) o e
 item:=by
  intro X hP hw hK hc i ag s σ H E I hf st hg;subst hP hw hK;obtain⟨xs,x,hq,hx⟩:=hg;obtain⟨its,rv,p,hz⟩:=I.list hq;obtain⟨u,hu,ru⟩:=rv.get hx;obtain⟨f0,f1,f2,f3,f4,f5⟩:=hf it (by simp);refine wpAny_pyNext_list_item st p.isList (x:=u) (by simpa using hu) fun h' st' sb=>?_;have I1:Inv X ag σ H { s with heap:=h' }:=I.turned (t':=s.toks) (fun b o hb e=>(sb.2 b hb).trans e) f0 f1 f3 f4 f5;obtain⟨o,e,c,d⟩:=id st';exact⟨u,rfl,lH (s:={ s with heap:=h' }) e c d (by decide) ⟨x,H,I1,ru,⟨rfl,fun ys hy=>by rw[I.list_inj hy hq];exact hx⟩,st',fun b hb=>(hf b hb).1⟩⟩
 done:=by
  intro X hP hw hK hc i ag s σ H E I hf st hg;subst hP hw hK;obtain⟨xs,hq,hx⟩:=hg;obtain⟨its,rv,p,hz⟩:=I.list hq;obtain⟨f0,f1,f2,f3,f4,f5⟩:=hf it (by simp);have hl:=rv.length;exact wpAny_pyNext_list_end (I.ok.hd hc) st p.isList (by simp;lia) fun h' eb=>⟨rfl,I.turned (t':=s.toks) (fun b o hb e=>eb b o hb e) f0 f1 f3 f4 f5⟩
 self:=fun _ _ _ _ _ st h=>wpAny_pyIter_listiter st h
theorem rO{P:L5}{w:P6}{K:o0}{tg:J5}(a it:F9):iD P w K tg (Itt K a) [it] it (fun i h=>h.IsTupleIter it a i) where
 mem:=by simp
 obj:=fun i h st b hb=>by
  have e:b=it:=by simpa using hb
  subst e;obtain⟨o,e,c,d⟩:=st;exact⟨o,e,fun v z=>by rw[d]at z;cases z⟩
 keep:=fun i h h' st k=>st.at fun o e=>k it (by simp) o e
 item:=by
  intro X hP hw hK hc i ag s σ H E I hf st hg;subst hP hw hK;obtain⟨xs,x,hq,hx⟩:=hg;obtain⟨its,rv,p,hz⟩:=I.tuple hq;obtain⟨u,hu,ru⟩:=rv.get hx;obtain⟨f0,f1,f2,f3,f4,f5⟩:=hf it (by simp);refine wpAny_pyNext_tuple_item st (show s.heap.IsTuple a its.toArray from p) (x:=u) (by simpa using hu) fun h' st' sb=>?_;have I1:Inv X ag σ H { s with heap:=h' }:=I.turned (t':=s.toks) (fun b o hb e=>(sb.2 b hb).trans e) f0 f1 f3 f4 f5;obtain⟨o,e,c,d⟩:=id st';exact⟨u,rfl,lH (s:={ s with heap:=h' }) e c d (by decide) ⟨x,H,I1,ru,⟨rfl,fun ys hy=>by rw[I.tuple_inj hy hq];exact hx⟩,st',fun b hb=>(hf b hb).1⟩⟩
 done:=by
  intro X hP hw hK hc i ag s σ H E I hf st hg;subst hP hw hK;obtain⟨xs,hq,hx⟩:=hg;obtain⟨its,rv,p,hz⟩:=I.tuple hq;obtain⟨f0,f1,f2,f3,f4,f5⟩:=hf it (by simp);have hl:=rv.length;exact wpAny_pyNext_tuple_end (I.ok.hd hc) st (show s.heap.IsTuple a its.toArray from p) (by simp;lia) fun h' eb=>⟨rfl,I.turned (t':=s.toks) (fun b o hb e=>eb b o hb e) f0 f1 f3 f4 f5⟩
 self:=fun _ _ _ _ _ st h=>wpAny_pyIter_tupleiter st h
theorem sx{P:L5}{w:P6}{K:o0}{tg:J5}(it:F9) (lo:Int) (n:Nat):iD P w K tg (Itr lo n) [it] it (fun i h=>ab3 h it (lo+(i:Nat)*1) ((n:Int)-(i:Nat)) 1) where
 mem:=by simp
 obj:=fun i h st b hb=>by
  have e:b=it:=by simpa using hb
  subst e;exact⟨_,st,fun v z=>by
   have z':Data.fields _=Data.cell v:=z;cases z'⟩
 keep:=fun i h h' st k=>k it (by simp) _ st
 item:=by
  intro X hP hw hK hc i ag s σ H E I hf st hg;subst hP hw hK;obtain⟨f0,f1,f2,f3,f4,f5⟩:=hf it (by simp);have W:=Walks.range (prog:=X.prog) (w:=X.w) (I.ok.hd hc) it lo 1 n;refine W.item i s _ _ hg st fun v h' tk hv st' kk=>?_;obtain⟨t,rfl⟩:=hv;have I1:Inv X ag σ H { s with heap:=h',toks:=tk }:=I.turned (fun b o hb e=>kk b o (by simpa using hb) e) f0 f1 f3 f4 f5;refine⟨_,rfl,lH (s:={ s with heap:=h',toks:=tk }) (n:="range_iterator") st' rfl rfl (by decide) ⟨.int (lo+i),H,I1,⟨t,?_⟩,⟨rfl,rfl⟩,st',fun b hb=>(hf b hb).1⟩⟩;rw[Int.mul_one]
 done:=by
  intro X hP hw hK hc i ag s σ H E I hf st hg;subst hP hw hK;obtain⟨f0,f1,f2,f3,f4,f5⟩:=hf it (by simp);exact wpAny_pyNext_range_end (I.ok.hd hc) st (by have:n<=i:=hg;lia) fun h' eb=>⟨rfl,I.turned (t':=s.toks) (fun b o hb e=>eb b o hb e) f0 f1 f3 f4 f5⟩
 self:=fun _ _ _ _ _ st h=>wpAny_pyIter_rangeiter st h
section
variable{X:Cx}{tg:J5}
theorem qD{ag:List (F9×Obj)}{σ:St}{H:Hp}{s:F1}{R:It->Hp->Prop}{E:u8->F1->Prop}{lo hi:Int}{t u v:Tok}{tk:Nat}(I:Inv X ag σ H s) (h1:-(2 ^ 62)<=lo) (h2:lo<2 ^ 62) (h3:-(2 ^ 62)<=hi) (h4:hi<2 ^ 62)
  (q:R (Itr lo (hi-lo).toNat) H):J4 (K3 X.prog X.w) X.A (pyIter (.ref s.heap.objs.size)) (PIE X ag σ tg R) E { s with heap:=s.heap.push { cls:=.type "range",data:=.fields #[.int lo t,.int hi u,.int 1 v] },toks:=tk }:=by
 refine wpAny_pyIter_range (IsRange.new ..) (small_one h1 h2 h3 h4) ?_;have I1:Inv X ag σ H { s with heap:=s.heap.push { cls:=.type "range",data:=.fields #[.int lo t,.int hi u,.int 1 v] },toks:=tk }:=I.kept fun b o e=>F0 _ e;refine⟨(s.heap.push { cls:=.type "range",data:=.fields #[.int lo t,.int hi u,.int 1 v] }).objs.size,[(s.heap.push { cls:=.type "range",data:=.fields #[.int lo t,.int hi u,.int 1 v] }).objs.size],_,_,H,rfl,
  I1.kept (t':=tk) fun b o e=>F0 _ e,sx _ lo (hi-lo).toNat,?_,fun b hb=>?_,q⟩
 ·have e1:lo+((0:Nat):Int)*1=lo:=by simp
  have e2:(((hi-lo).toNat:Nat):Int)-((0:Nat):Int)=O3 lo hi 1:=by rw[rangeSize_one];split<;>lia
  show ab3 _ _ (lo+((0:Nat):Int)*1) ((((hi-lo).toNat:Nat):Int)-((0:Nat):Int)) 1;rw[e1,e2];exact F7 _ rfl
 ·have e:b=(s.heap.push { cls:=.type "range",data:=.fields #[.int lo t,.int hi u,.int 1 v] }).objs.size:=by simpa using hb
  subst e;exact I1.fpOk (F6 _) (I1.hok.fresh (F6 _))
def EI(ta:TA):TI:=fun σ H R=>ta σ H fun vs H1=>∃j:Int,vs=[.int j]/\-(2 ^ 62)<=j/\j<2 ^ 62/\R (Itr 0 j.toNat) H1
def Dz(ta:TA):TI:=fun σ H R=>ta σ H fun vs H1=>∃i j:Int,vs=[.int i,.int j]/\(-(2 ^ 62)<=i/\i<2 ^ 62/\-(2 ^ 62)<=j/\j<2 ^ 62)/\R (Itr i (j-i).toNat) H1
theorem vK{a:J5}{ta:TA}{p pos:Pos}(hg:Gl X "range") (hm:X.mg "range"=none) (ha:PA X [a] ta) (hs:J1 [a] X.env=[(false,T8 a X.env)]:=by rfl):PI X tg (.Call (.Name "range" p) [a] [] pos) (EI ta):=by
 intro ag s σ H R I h;refine Call_ (dI I hg hm boot_range (N2 (thn (ha pos ag s σ H _ I h) fun us s1 hup=>hup.el fun vs H1 I1 r1 q1=>?_) hs rfl));obtain⟨j,e,q1,q2,q⟩:=q1;subst e;cases r1 with
 |cons r rr =>
  cases rr;obtain⟨t,rfl⟩:=r;exact call_range_1 (qD I1 (by lia) (by lia) q1 q2 (by simpa using q))
theorem vG{a b:J5}{ta:TA}{p pos:Pos}(hg:Gl X "range") (hm:X.mg "range"=none) (ha:PA X [a,b] ta) (hs:J1 [a,b] X.env=[(false,T8 a X.env),(false,T8 b X.env)]:=by rfl) (hs2:J1 [b] X.env=[(false,T8 b X.env)]:=by rfl) :
  PI X tg (.Call (.Name "range" p) [a,b] [] pos) (Dz ta):=by
 intro ag s σ H R I h;refine Call_ (dI I hg hm boot_range (N2 (thn (ha pos ag s σ H _ I h) fun us s1 hup=>hup.el fun vs H1 I1 r1 q1=>?_) (by rw[hs,hs2]) (by rw[hs2];rfl)));obtain⟨i,j,e,⟨q1,q2,q3,q4⟩,q⟩:=q1;subst e;cases r1 with
 |cons r rr =>
  cases rr with
  |cons r' rr =>
   cases rr;obtain⟨t,rfl⟩:=r;obtain⟨t',rfl⟩:=r';exact call_range_2 (qD I1 q1 q2 q3 q4 q)
def Fe(wi:TI) (g:TG) (tb:TS):TS:=fun D σ H=>wi σ H fun J H1=>∃W:Nat->Nat->St->Hp->Prop,(∃m,W 0 m σ H1)/\∀i m σ H,W i m σ H ->
 (J.stop i H/\D.nx σ H)∨(J.go i H/\∃N:St->Hp->Prop,(∀ σ' H',N σ' H'->∃m',m'<m/\W (i+1) m' σ' H')/\∀x H',J.yld i H x H'->g x σ H' fun σ2 H2=>tb { D with nx:=N,ct:=N,bk:=D.nx } σ2 H2)
def iO(fp:List F9) (h:K4):List (F9×Obj):=fp.filterMap fun b=>(h.get? b).map fun o=>(b,o)
theorem da{fp:List F9}{h:K4}{b:F9}{o:Obj}(hb:b∈fp) (e:h.get? b=some o):(b,o)∈iO fp h:=P1.mpr ⟨b,hb,by rw[e];rfl⟩
theorem ny{fp:List F9}{h:K4}{p:F9×Obj}(hp:p∈iO fp h):p.1∈fp/\h.get? p.1=some p.2:=by
 obtain⟨b,hb,e⟩:=P1.mp hp;cases q:h.get? b with
 |none=>rw[q]at e;cases e
 |some o =>
  rw[q]at e;have e':(b,o)=p:=J6 e;subst e';exact⟨hb,q⟩
theorem Inv.pinned{ag:List (F9×Obj)}{σ:St}{H:Hp}{s:F1}{fp:List F9}(I:Inv X ag σ H s) (hf:∀b∈fp,cV X ag H b) (ho:∀b∈fp,∃o,s.heap.get? b=some o/\∀v,o.data≠.cell v):Inv X (ag++iO fp s.heap) σ H s :=
 I.pins_of fun p hp=>(U5.mp hp).elim (fun z=>I.pin p (I0 _ z)) fun z=>by
  obtain⟨hb,e⟩:=ny z;obtain⟨f0,f1,f2,_⟩:=hf p.1 hb;obtain⟨o,e',d⟩:=ho p.1 hb;rw[e]at e';cases e';exact⟨e,f0,f1,f2,d⟩
theorem Inv.unpinned{ag pl:List (F9×Obj)}{σ:St}{H:Hp}{s:F1}(I:Inv X (ag++pl) σ H s):Inv X ag σ H s:=I.pins_of fun p hp=>I.pin p (I0 _ (List.mem_append_left _ hp))
theorem CJ{iter:J5}{body:List aa2}{wi:TI}{g:TG}{tb:TS}{pos:Pos}(hp:ad0 (K3 X.prog X.w) X.A X.env X.xe) (hc:X.calm=true) (hi:PI X tg iter wi) (hg:PG X tg g) (hb:PSs X body tb)
  (hs:∀x,O1 iter X.env x=V2 x:=by intro _;rfl):PS X (.For tg iter body [] pos) (Fe wi g tb):=by
 intro ag s σ H D I h;refine wpAny_For (thn (hi ag s σ H _ I h) fun v s1 h1=>thn h1 fun itv s2 h2=>?_) hs;obtain⟨it,fp,tn,J,H2,e,I2,T,st2,f2,W,⟨m0,w0⟩,turn⟩:=h2;subst e
 -- what stays true of the iterator's objects through the loop
 have stat:∀{H':Hp},(∀b∈fp,H' b=none)->∀b∈fp,cV X ag H' b:=fun hn b hb=>⟨hn b hb,(f2 b hb).2⟩;refine codeAny_forLoop_any (fun n s'=>∃i σ' H',Inv X ag σ' H' s'/\tn i s'.heap/\(∀b∈fp,H' b=none)/\W i n σ' H') ?_ m0 ⟨0,σ,H2,I2,st2,fun b hb=>(f2 b hb).1,w0⟩;rintro n s3 ⟨i,σ3,H3,I3,st3,fr3,w3⟩;rcases turn i n σ3 H3 w3 with⟨stop,qn⟩|⟨go,N,hN,step⟩
 ·refine R8 hp (thn (T.done X rfl rfl rfl hc i ag s3 σ3 H3 X.xe I3 (stat fr3) st3 stop) fun r s4 ⟨hr,I4⟩=>?_);subst hr;exact W7 ⟨σ3,H3,I4,qn⟩
 ·refine R8 hp (thn (T.item X rfl rfl rfl hc i ag s3 σ3 H3 X.xe I3 (stat fr3) st3 go) fun r s4 ⟨u,hr,h4⟩=>?_);subst hr;refine R8 hp (thn h4 fun _ s5 ⟨x,H5,I5,r5,y5,st5,fr5⟩=>?_);have I5':=I5.pinned (stat fr5) (T.obj _ _ st5);refine R8 hp (thn (hg _ s5 σ3 H5 x u _ I5' r5 (step x H5 y5)) fun _ s6 ⟨σ6,H6,I6,q6⟩=>?_);refine R8 hp (thn (hb _ s6 σ6 H6 _ I6 q6) fun f s7 q7=>?_);have again:∀{σ7:St} {H7:Hp},Inv X (ag++iO fp s5.heap) σ7 H7 s7->N σ7 H7->∃m,m<n/\∃i σ' H',Inv X ag σ' H' s7/\tn i s7.heap/\(∀b∈fp,H' b=none)/\W i m σ' H':=fun {σ7 H7} I7 n7=>by
   obtain⟨m',hm,w7⟩:=hN σ7 H7 n7;refine⟨m',hm,i+1,σ7,H7,I7.unpinned,T.keep _ _ _ st5 fun b hb o e=>(I7.pin (b,o) (I0 _ (I0 _ (da hb e)))).1,fun b hb=>?_,w7⟩;obtain⟨o,e,d⟩:=T.obj _ _ st5 b hb;exact(I7.pin (b,o) (I0 _ (I0 _ (da hb e)))).2.1
  cases f with
  |next=>obtain⟨σ7,H7,I7,n7⟩:=q7;exact again I7 n7
  |cont=>obtain⟨σ7,H7,I7,n7⟩:=q7;exact again I7 n7
  |brk=>obtain⟨σ7,H7,I7,q7⟩:=q7;exact⟨σ7,H7,I7.unpinned,q7⟩
  |ret v=>obtain⟨x7,σ7,H7,I7,r7,q7⟩:=q7;exact⟨x7,σ7,H7,I7.unpinned,r7,q7⟩
end
abbrev R2:=V->V->Hp->VK->Prop
def OpR(X:Cx) (f:u8->u8->Sem u8) (r:R2):Prop :=
 ∀(ag:List (F9×Obj)) (s:F1) (σ:St) (H:Hp) (x y:V) (v u:u8) (Q:VK),Inv X ag σ H s->aL x v->aL y u->r x y H Q ->
  J4 (K3 X.prog X.w) X.A (f v u) (EP X ag σ Q) X.xe s
def UnR(X:Cx) (f:u8->Sem u8) (r:V->Hp->VK->Prop):Prop :=
 ∀(ag:List (F9×Obj)) (s:F1) (σ:St) (H:Hp) (x:V) (v:u8) (Q:VK),Inv X ag σ H s->aL x v->r x H Q ->
  J4 (K3 X.prog X.w) X.A (f v) (EP X ag σ Q) X.xe s
def dF(X:Cx) (f:u8) (r:List V->Hp->VK->Prop):Prop :=
 ∀(ag:List (F9×Obj)) (s:F1) (σ:St) (H:Hp) (xs:List V) (us:List u8) (Q:VK),Inv X ag σ H s->aB xs us->r xs H Q ->
  J4 (K3 X.prog X.w) X.A (call f us) (EP X ag σ Q) X.xe s
def tOp(r:R2) (ta tb:TE):TE:=fun σ H Q=>ta σ H fun x H1=>tb σ H1 fun y H2=>r x y H2 Q
def tUn(r:V->Hp->VK->Prop) (ta:TE):TE:=fun σ H Q=>ta σ H fun x H1=>r x H1 Q
def rI(C:Int->Int->Prop) (g:Int->Int->V):R2:=fun x y H Q=>∃i j,x=.int i/\y=.int j/\C i j/\Q (g i j) H
def rI0(g:Int->Int->V):R2:=fun x y H Q=>∃i j,x=.int i/\y=.int j/\Q (g i j) H
def rU(g:Int->V):V->Hp->VK->Prop:=fun x H Q=>∃i,x=.int i/\Q (g i) H
section
variable{X:Cx}{a b c:J5}{ta tb tc:TE}{pos:Pos}
theorem Cw(ha:PE X a ta) (hb:PE X b tb) {ag:List (F9×Obj)}{s:F1}{σ:St}{H:Hp}{R:V->V->Hp->Prop}(I:Inv X ag σ H s)
  (h:ta σ H fun x H1=>tb σ H1 fun y H2=>R x y H2) {Q:u8->F1->Prop} {f:u8->u8->Sem u8}
  (hf:∀v u s2 x y H2,Inv X ag σ H2 s2->aL x v->aL y u->R x y H2->J4 (K3 X.prog X.w) X.A (f v u) Q X.xe s2) :
  J4 (K3 X.prog X.w) X.A (T8 a X.env) (fun v s₁=>J4 (K3 X.prog X.w) X.A (T8 b X.env) (fun u s₂=>J4 (K3 X.prog X.w) X.A (f v u) Q X.xe s₂) X.xe s₁) X.xe s:=by
 refine thn (ha ag s σ H _ I h) fun v s1 hup=>hup.el fun x H1 I1 r1 q1=>?_;refine thn (hb ag s1 σ H1 _ I1 q1) fun u s2 hup=>hup.el fun y H2 I2 r2 q2=>?_;exact hf v u s2 x y H2 I2 r1 r2 q2
theorem AL{op:ac7}{r:R2}(ho:OpR X (P2 op) r) (ha:PE X a ta) (hb:PE X b tb):PE X (.BinOp a op b pos) (tOp r ta tb):=by
 intro ag s σ H Q I h;exact wpAny_BinOp (Cw ha hb I h fun v u s2 x y H2 I2 rx ry q=>ho ag s2 σ H2 x y v u Q I2 rx ry q)
theorem Dw{op:UnaryOp}{r:V->Hp->VK->Prop}(ho:UnR X (unaryOp op) r) (ha:PE X a ta):PE X (.UnaryOp op a pos) (tUn r ta):=by
 intro ag s σ H Q I h;exact UnaryOp_ (thn (ha ag s σ H _ I h) fun v s1 hup=>hup.el fun x H1 I1 r1 q1=>ho ag s1 σ H1 x v Q I1 r1 q1)
theorem opI{f:u8->u8->Sem u8}{C:Int->Int->Prop}{g:Int->Int->Int}
  (rule:∀(i j:Int) (t u:Tok) (s:F1) (Q:u8->F1->Prop) (E:u8->F1->Prop),C i j->Q (.int (g i j) s.toks) { s with toks:=s.toks+1 }->J4 (K3 X.prog X.w) X.A (f (.int i t) (.int j u)) Q E s) :
  OpR X f (rI C fun i j=>.int (g i j)):=by
 intro ag s σ H x y v u Q I rx ry h;obtain⟨i,j,rfl,rfl,hc,q⟩:=h;obtain⟨t,rfl⟩:=rx;obtain⟨t',rfl⟩:=ry;exact rule i j t t' s _ _ hc ⟨.int (g i j),H,I.tok _,⟨_,rfl⟩,q⟩
theorem Dm{f:u8->u8->Sem u8}{g:Int->Int->Int}
  (rule:∀(i j:Int) (t u:Tok) (s:F1) (Q:u8->F1->Prop) (E:u8->F1->Prop),Q (.int (g i j) s.toks) { s with toks:=s.toks+1 }->J4 (K3 X.prog X.w) X.A (f (.int i t) (.int j u)) Q E s) :
  OpR X f (rI0 fun i j=>.int (g i j)):=by
 intro ag s σ H x y v u Q I rx ry h;obtain⟨i,j,rfl,rfl,q⟩:=h;obtain⟨t,rfl⟩:=rx;obtain⟨t',rfl⟩:=ry;exact rule i j t t' s _ _ ⟨.int (g i j),H,I.tok _,⟨_,rfl⟩,q⟩
theorem C6{f:u8->u8->Sem u8}{g:Int->Int->Bool}
  (rule:∀(i j:Int) (t u:Tok) (s:F1) (Q:u8->F1->Prop) (E:u8->F1->Prop),Q (.bool (g i j)) s->J4 (K3 X.prog X.w) X.A (f (.int i t) (.int j u)) Q E s) :
  OpR X f (rI0 fun i j=>.bl (g i j)):=by
 intro ag s σ H x y v u Q I rx ry h;obtain⟨i,j,rfl,rfl,q⟩:=h;obtain⟨t,rfl⟩:=rx;obtain⟨t',rfl⟩:=ry;exact rule i j t t' s _ _ ⟨.bl (g i j),H,I,rfl,q⟩
def o3(i j:Int):Prop:=0<j/\j<1073741824
def pS(i j:Int):Prop:=0<=j/\j<=1000000/\i.natAbs<2 ^ 64
def jO(i j:Int):Prop:=(-(2 ^ 64)<i/\i<2 ^ 64)∨(-(2 ^ 64)<j/\j<2 ^ 64)
theorem jO.ok{i j:Int}(h:jO i j):IntMulOk i j:=by
 rcases h with⟨h1,h2⟩|⟨h1,h2⟩
 ·exact .of_left (intBits_le_64 h1 h2)
 ·exact .of_right (intBits_le_64 h1 h2)
theorem BJ:OpR X (P2 .Add) (rI0 fun i j=>.int (i+j)):=Dm fun _ _ _ _ _ _ _ q=>add_int q
theorem BA:OpR X (P2 .Sub) (rI0 fun i j=>.int (i-j)):=Dm fun _ _ _ _ _ _ _ q=>sub_int q
theorem BB:OpR X (P2 .Mult) (rI jO fun i j=>.int (i*j)):=opI fun _ _ _ _ _ _ _ hc q=>mul_int q hc.ok
theorem BN:OpR X (P2 .Mod) (rI (fun _ j=>0<j) fun i j=>.int (i % j)):=opI fun i j _ _ _ _ _ hc q=>by
 have h1:(0:Int)<j:=hc;exact mod_int' (by lia) (by rw[Int.fmod_eq_emod_of_nonneg i (by lia)];exact q)
theorem B0:OpR X (P2 .Pow) (rI pS fun i j=>.int (i ^ j.toNat)):=opI fun _ _ _ _ _ _ _ hc q=>pow_int_small hc.1 hc.2.1 hc.2.2 q
theorem unI{f:u8->Sem u8}{g:Int->Int}
  (rule:∀(i:Int) (t:Tok) (s:F1) (Q:u8->F1->Prop) (E:u8->F1->Prop),Q (.int (g i) s.toks) { s with toks:=s.toks+1 }->J4 (K3 X.prog X.w) X.A (f (.int i t)) Q E s) :
  UnR X f (rU fun i=>.int (g i)):=by
 intro ag s σ H x v Q I rx h;obtain⟨i,rfl,q⟩:=h;obtain⟨t,rfl⟩:=rx;exact rule i t s _ _ ⟨.int (g i),H,I.tok _,⟨_,rfl⟩,q⟩
theorem Bv:UnR X (unaryOp .USub) (rU fun i=>.int (-i)):=unI fun _ _ _ _ _ q=>neg_int q
end
section
variable{X:Cx}{a b c:J5}{ta tb tc:TE}{pos:Pos}
theorem rD{ag:List (F9×Obj)}{σ:St}{H:Hp}{s:F1}{Q:VK}{k k':Bool}(I:Inv X ag σ H s) (q:Q (.bl k) H) (e:k=k'):EP X ag σ Q (.bool k') s:=by
 subst e;exact⟨.bl k,H,I,rfl,q⟩
theorem Es:OpR X (L6 .Lt) (rI0 fun i j=>.bl (decide (i<j))):=C6 fun _ _ _ _ _ _ _ q=>lt_int q
theorem Eh:OpR X (L6 .LtE) (rI0 fun i j=>.bl (decide (i<=j))):=C6 fun _ _ _ _ _ _ _ q=>le_int q
theorem D8:OpR X (L6 .Gt) (rI0 fun i j=>.bl (decide (j<i))):=C6 fun _ _ _ _ _ _ _ q=>gt_int q
theorem u7:OpR X (L6 .In) (fun x y H Q=>∃i j,x=.str i/\y=.str j/\Q (.bl (!(S4 j i 0 j.length 1).isEmpty)) H):=by
 intro ag s σ H x y v u Q I rx ry h;obtain⟨i,j,rfl,rfl,q⟩:=h;obtain⟨t,rfl⟩:=rx;obtain⟨t',rfl⟩:=ry;exact in_str (rD I q rfl)
theorem BO:OpR X (L6 .Is) (fun x y H Q=>y=.non/\Q (.bl (decide (x=.non))) H):=by
 intro ag s σ H x y v u Q I rx ry h;obtain⟨rfl,q⟩:=h;cases ry;refine is_none_gen (rD I q ?_);cases x<;>first
  |(cases rx;rfl)
  |(obtain⟨t,rfl⟩:=rx;rfl)
theorem oF:OpR X (L6 .NotIn) (fun x y H Q=>∃i j,x=.str i/\y=.str j/\Q (.bl (!(!(S4 j i 0 j.length 1).isEmpty))) H):=by
 intro ag s σ H x y v u Q I rx ry h;obtain⟨i,j,rfl,rfl,q⟩:=h;obtain⟨t,rfl⟩:=rx;obtain⟨t',rfl⟩:=ry;exact notIn_str (rD I q rfl)
theorem yI{op:ac2}{r:R2}(ho:OpR X (L6 op) r) (ha:PE X a ta) (hb:PE X b tb) (hm:S2 op b=false):PE X (.Compare a [op] [b] pos) (tOp r ta tb):=by
 intro ag s σ H Q I h;exact wpAny_Compare1 (Cw ha hb I h fun v u s2 x y H2 I2 rx ry q=>ho ag s2 σ H2 x y v u Q I2 rx ry q) hm
def wV(t:TE):TT:=fun σ H Q=>t σ H fun x H'=>∃k,x=.bl k/\Q k H'
theorem zT{op:ac2}{r:R2}(ho:OpR X (L6 op) r) (ha:PE X a ta) (hb:PE X b tb) (hm:S2 op b=false):PT X (.Compare a [op] [b] pos) (wV (tOp r ta tb)):=by
 intro ag s σ H Q I h;refine wpAny_isTrue_Compare1 (thn (ha ag s σ H _ I h) fun v s1 hup=>hup.el fun x H1 I1 r1 q1=>thn (hb ag s1 σ H1 _ I1 q1) fun u s2 hup=>hup.el fun y H2 I2 r2 q2 =>
  thn (ho ag s2 σ H2 x y v u _ I2 r1 r2 q2) fun c s3 ⟨z,H3,I3,r3,k,e,q3⟩=>?_) hm
 subst e;cases r3;exact O7 ⟨H3,I3,q3⟩
def yg(r r':R2) (ta tb tc:TE):TE:=fun σ H Q=>ta σ H fun x H1=>tb σ H1 fun y H2=>r x y H2 fun z H3=>∃k,z=.bl k /\
 (if k=true then tc σ H3 fun w' H4=>r' y w' H4 Q else Q (.bl false) H3)
theorem yF{op op':ac2}{r r':R2}(ho:OpR X (L6 op) r) (ho':OpR X (L6 op') r') (ha:PE X a ta) (hb:PE X b tb) (hc:PE X c tc)
  (hm:ad1 [op,op'] [b,c]=false:=by with_unfolding_all rfl):PE X (.Compare a [op,op'] [b,c] pos) (yg r r' ta tb tc):=by
 intro ag s σ H Q I h;refine Compare_chain (thn (ha ag s σ H _ I h) fun v s1 hup=>hup.el fun x H1 I1 r1 q1=>chain_link (thn (hb ag s1 σ H1 _ I1 q1) fun u s2 hup=>hup.el fun y H2 I2 r2 q2 =>
  thn (ho ag s2 σ H2 x y v u _ I2 r1 r2 q2) fun d s3 ⟨z,H3,I3,r3,k,e,q3⟩=>?_)) hm
 subst e;cases r3;refine O7 ?_;cases k with
 |false=>exact ite_ff ⟨.bl false,H3,I3,rfl,q3⟩
 |true=>exact ite_tt (chain_last (thn (hc ag s3 σ H3 _ I3 q3) fun w' s4 ⟨z',H4,I4,r4,q4⟩=>ho' ag s4 σ H4 y z' u w' Q I4 r2 r4 q4))
theorem xj{op op':ac2}{r r':R2}(ho:OpR X (L6 op) r) (ho':OpR X (L6 op') r') (ha:PE X a ta) (hb:PE X b tb) (hc:PE X c tc)
  (hm:ad1 [op,op'] [b,c]=false:=by with_unfolding_all rfl):PT X (.Compare a [op,op'] [b,c] pos) (wV (yg r r' ta tb tc)):=by
 intro ag s σ H Q I h;refine isTrue_chain (thn (ha ag s σ H _ I h) fun v s1 hup=>hup.el fun x H1 I1 r1 q1=>test_link (thn (hb ag s1 σ H1 _ I1 q1) fun u s2 hup=>hup.el fun y H2 I2 r2 q2 =>
  thn (ho ag s2 σ H2 x y v u _ I2 r1 r2 q2) fun d s3 ⟨z,H3,I3,r3,k,e,q3⟩=>?_)) hm
 subst e;cases r3;refine O7 ?_;cases k with
 |false =>
  obtain⟨k',e',q'⟩:=q3;cases e';exact ite_ff ⟨H3,I3,q'⟩
 |true =>
  refine ite_tt (test_last (thn (hc ag s3 σ H3 _ I3 q3) fun w' s4 ⟨z',H4,I4,r4,q4⟩=>thn (ho' ag s4 σ H4 y z' u w' _ I4 r2 r4 q4) fun d' s5 ⟨z2,H5,I5,r5,k2,e2,q5⟩=>?_));subst e2;cases r5;exact O7 ⟨H5,I5,q5⟩
theorem jG:(F2:Nat)<2 ^ 63:=by rw[sizeLine_eq];decide
theorem sC:OpR X (P2 .Add) (fun x y H Q=>∃i j,x=.str i/\y=.str j/\i.length+j.length<=F2/\Q (.str (i++j)) H):=by
 intro ag s σ H x y v u Q I rx ry h;obtain⟨i,j,rfl,rfl,hz,q⟩:=h;obtain⟨t,rfl⟩:=rx;obtain⟨t',rfl⟩:=ry;exact add_str (fun t' tk=>⟨.str (i++j),H,I.tok _,⟨_,rfl⟩,q⟩) hz
theorem uc{x:V}{us:List u8}(r:aB [x] us):∃u,us=[u]/\aL x u:=by
 cases r with
 |cons r1 r2=>cases r2;exact⟨_,rfl,r1⟩
theorem AO{x y:V}{us:List u8}(r:aB [x,y] us):∃u w',us=[u,w']/\aL x u/\aL y w':=by
 cases r with
 |cons r1 r2 =>
  cases r2 with
  |cons r3 r4=>cases r4;exact⟨_,_,rfl,r1,r3⟩
theorem vC(hc:X.calm=true):dF X (.builtin "max") (fun xs H Q=>∃i j,xs=[.int i,.int j]/\Q (.int (if j > i then j else i)) H):=by
 intro ag s σ H xs us Q I r h;obtain⟨i,j,rfl,q⟩:=h;obtain⟨u,w',rfl,⟨t,rfl⟩,⟨t',rfl⟩⟩:=AO r;refine max_two_ints (I.ok.hd hc) fun h' tk k=>⟨_,H,I.kept k,?_,q⟩
 by_cases hj:j > i
 ·rw[if_pos hj,if_pos hj];exact⟨_,rfl⟩
 ·rw[if_neg hj,if_neg hj];exact⟨_,rfl⟩
theorem qP:dF X (.builtin "divmod") (fun xs H Q=>∃i j,xs=[.int i,.int j]/\o3 i j/\∀p,H p=none->Q (.ref p) (upd H p (.tup [.int (i / j),.int (i % j)]))):=by
 intro ag s σ H xs us Q I r h;obtain⟨i,j,rfl,⟨h1,h2⟩,q⟩:=h;obtain⟨u,w',rfl,⟨t,rfl⟩,⟨t',rfl⟩⟩:=AO r;refine divmod_int (by lia) ?_ (.inl (PyProof.noPylong_small (by lia)));rw[Int.fdiv_eq_ediv_of_nonneg i (by lia),Int.fmod_eq_emod_of_nonneg i (by lia)];have hn:H s.heap.objs.size=none:=I.hok.fresh (F6 _);refine⟨.ref s.heap.objs.size,_,?_,rfl,q _ hn⟩;refine I.laid (fun b o e=>F0 _ e) (F6 _) ⟨by simp only[S8,W8];rw[sizeLine_eq];decide,[.int (i / j) s.toks,.int (i % j) (s.toks+1)],.cons ⟨_,rfl⟩ (.cons ⟨_,rfl⟩ .nil),?_⟩;exact⟨_,F7 s.heap rfl,rfl,⟨0,rfl⟩,rfl⟩
end
theorem kL.some_of{v:V}{o:Option u8}(r:kL (some v) o):∃u,o=some u/\aL v u:=by
 cases o with
 |none=>exact(show False from r).elim
 |some u=>exact⟨u,rfl,r⟩
structure cZ(k:Nat) (A:N3):Prop where
 hd:A.handled=none
 dp:A.depth+3*k+5<recursionLimit
 un:A.units+16*k+200<Z9
theorem cZ.mono{j k:Nat}{A:N3}(r:cZ k A) (h:j<=k):cZ j A:=⟨r.hd,by have:=r.dp;lia,by have:=r.un;lia⟩
theorem cZ.deeper{k:Nat}{A:N3}(r:cZ (k+1) A) (env:Env):cZ k (A.deeper env) :=
 ⟨r.hd,by have:=r.dp;show A.depth+1+3*k+5<_;lia,by have:=r.un;show A.units+3+16*k+200<_;lia⟩
theorem cZ.depth{k:Nat}{A:N3}(r:cZ k A):A.depth<recursionLimit:=by have:=r.dp;lia
theorem cZ.units{k:Nat}{A:N3}(r:cZ k A):A.units+64<Z9:=by have:=r.un;lia
theorem cZ.units0{k:Nat}{A:N3}(r:cZ k A):A.units<Z9:=by have:=r.un;lia
def Fw:TA:=fun _ H Q=>Q [] H
def E2(ta:TE) (tr:TA):TA:=fun σ H Q=>ta σ H fun x H1=>tr σ H1 fun xs H2=>Q (x::xs) H2
section
variable{X:Cx}{e:J5}{es:List J5}{te:TE}{t:TA}{pos:Pos}
theorem mr:PA X [] Fw:=fun _ _ _ _ H Q I h=>Calls.spliced_nil ⟨[],H,I,.nil,h⟩
theorem h8(ha:PE X e te) (hr:PA X es t) (hs:J1 (e::es) X.env=(false,T8 e X.env)::J1 es X.env:=by rfl):PA X (e::es) (E2 te t):=by
 intro pos ag s σ H Q I h;rw[hs];show J4 _ _ (spliced ((false,T8 e X.env)::U6 pos (J1 es X.env))) _ _ s;refine Calls.spliced_cons (thn (ha ag s σ H _ I h) fun u s1 hup=>hup.el fun x H1 I1 r1 q1=>?_);exact thn (hr pos ag s1 σ H1 _ I1 q1) fun us s2 hup=>hup.el fun xs H2 I2 r2 q2=>⟨x::xs,H2,I2,.cons r1 r2,q2⟩
def Cp(t:TA):TE:=fun σ H Q=>t σ H fun xs H1=>xs.length<=F2/\∀p,H1 p=none->Q (.ref p) (upd H1 p (.tup xs))
def Fi(t:TA):TE:=fun σ H Q=>t σ H fun xs H1=>xs.length<=F2/\∀p,H1 p=none->Q (.ref p) (upd H1 p (.lst xs))
theorem lz{x1}(h:PA X es t):PE X (.Tuple es x1 pos) (Cp t):=by
 intro ag s σ H Q I hq;refine wpAny_Tuple_spliced (thn (h pos ag s σ H _ I hq) fun us s1 ⟨xs,H1,I1,r,z,q⟩=>⟨by rw[<-r.length];exact z,?_⟩);have hf:H1 s1.heap.objs.size=none:=I1.hok.fresh (F6 _);refine⟨.ref s1.heap.objs.size,upd H1 s1.heap.objs.size (.tup xs),I1.laid (t':=s1.toks) (fun b u e=>F0 _ e) (F6 _) ?_,rfl,q _ hf⟩;exact⟨z,us,r,⟨_,F7 _ rfl,rfl,⟨_,rfl⟩,rfl⟩⟩
theorem wg(h:PA X es t):PE X (.List es pos) (Fi t):=by
 intro ag s σ H Q I hq;refine wpAny_List_spliced (thn (h pos ag s σ H _ I hq) fun us s1 ⟨xs,H1,I1,r,z,q⟩=>⟨by rw[<-r.length];exact z,?_⟩);have hf:H1 s1.heap.objs.size=none:=I1.hok.fresh (F6 _);refine⟨.ref s1.heap.objs.size,upd H1 s1.heap.objs.size (.lst xs),I1.laid (t':=s1.toks) (fun b u e=>F0 _ e) (F6 _) ?_,rfl,q _ hf⟩;exact⟨z,us,0,r,F7 _ rfl⟩
end
abbrev Sp:=List V->Hp->VK->XK->Prop
abbrev CXT:=List Env->Hp->F1->XK->u8->F1->Prop
structure yV(P:L5) (w:P6) (K:o0) (mg:Str->Option u8) (base:K4) (A:N3) (outer:List Env) (s:F1) (H:Hp):Prop where
 frames:A.frames=some outer
 mod:Mod K mg base
 bs:∀b o,base.get? b=some o->s.heap.get? b=some o/\H b=none
 bsz:base.objs.size<=s.heap.objs.size
 funs:s.heap.FunFrames base outer
 frf:∀b∈frs outer,H b=none
 hok:HOk P w H s.heap
 bare:aa1 s.gens
def CE(outer:List Env) (P:L5) (w:P6) (H:Hp) (s:F1) (Q:VK) (u:u8) (s':F1):Prop :=
 ∃v H',s'.os=s.os/\aa1 s'.gens/\Un (frs outer) [] H H' s.heap s'.heap/\HOk P w H' s'.heap/\aL v u/\Q v H'
def CR(CX:CXT) (outer:List Env) (P:L5) (w:P6) (H:Hp) (s:F1) (Q:VK) (E:XK) (r:ad2) (s':F1):Prop :=
 match r with
 |.ok (.ret u)=>CE outer P w H s Q u s'
 |.ok _=>False
 |.error e=>CX outer H s E e s'
structure bj(P:L5) (w:P6) (K:o0) (mg:Str->Option u8) (base:K4) (CX:CXT) (k:Nat) (f:F9) (fd:U8) (ps:List Str) (sp:Sp):Prop where
 len:∀vs H Q E,sp vs H Q E->vs.length=ps.length
 run:∀(A:N3) (outer:List Env) (s:F1) (H:Hp) (args:Args) (us:List u8) (vs:List V) (Q:VK) (E:XK),cZ k A->yV P w K mg base A outer s H->BindsTo s fd args (ps.zip us)->aB vs us->sp vs H Q E ->
  X9 (K3 P w) A (.call (.ref f) args) (CR CX outer P w H s Q E) s
section
variable{X:Cx}{ag:List (F9×Obj)}{σ:St}{H:Hp}{s s':F1}
theorem Inv.env0(I:Inv X ag σ H s):yV X.prog X.w X.K X.mg X.base X.A X.stack s H :=
 ⟨I.ok.frames,I.ok.mod,I.bs,L7 I.ok.bsz I.sz,I.stack,I.stkFree,I.hok,I.bare⟩
theorem Inv.after{Q:VK}{u:u8}(I:Inv X ag σ H s) (h:CE X.stack X.prog X.w H s Q u s'):EP X ag σ Q u s':=by
 obtain⟨v,H',os,bare,un,hok,r,q⟩:=h;obtain⟨hh,g,d,t,os'⟩:=s';obtain rfl:os'=s.os:=os;exact⟨v,H',I.call (h':=hh) (g':=g) (d':=d) (t':=t) (ch:=[]) un hok bare (fun b z=>absurd z (by simp)),r,q⟩
end
def EU(sp:Sp) (dvs:List V) (E:XK) (t:TA):TE:=fun σ H Q=>t σ H fun vs H1=>sp (vs++dvs) H1 Q E
def dZ(K:o0) (fd:U8) (ps:List Str) (ds:List u8):Prop :=
 ∀(s:F1) (us:List u8),K.In s.heap->(us++ds).length=ps.length->BindsTo s fd ⟨us,[]⟩ (ps.zip (us++ds))
theorem dZ.all{K:o0}{fd:U8}{ps:List Str}(h:∀us:List u8,us.length=ps.length->bindArgs fd ⟨us,[]⟩=V2 (ps.zip us)):dZ K fd ps []:=fun s us _ hl=>by
 rw[W9]at hl ⊢;exact .of_eq (h us hl)
def sF(CX:CXT) (X:Cx) (E:XK):Prop:=∀(ag:List (F9×Obj)) (σ:St) (H:Hp) (s:F1) (e:u8) (s':F1),Inv X ag σ H s->CX X.stack H s E e s'->X.xe e s'
section
variable{X:Cx}{CX:CXT}{k:Nat}{f C:F9}{fd:U8}{ps:List Str}{sp:Sp}{dvs:List V}{ds:List u8}{E:XK}{x m:Str}{p pos cp:Pos}{e o:J5}{es:List J5}{ta:TE}{t:TA}
theorem Bw{ag:List (F9×Obj)}{σ:St}{H:Hp}{s:F1}{Q:VK}{us:List u8}{vs:List V}(F:bj X.prog X.w X.K X.mg X.base CX k f fd ps sp) (hr:cZ k X.A) (hb:dZ X.K fd ps ds) (hd:aB dvs ds) (hx:sF CX X E)
  (I:Inv X ag σ H s) (r:aB vs us) (h:sp (vs++dvs) H Q E):J4 (K3 X.prog X.w) X.A (call (.ref f) us) (EP X ag σ Q) X.xe s:=by
 have r2:aB (vs++dvs) (us++ds):=r.append hd;have hl:(us++ds).length=ps.length:=by rw[<-r2.length];exact F.len _ _ _ _ h
 refine wpAny_call (codeAny_mono (F.run X.A X.stack s H ⟨us,[]⟩ (us++ds) (vs++dvs) Q E hr I.env0 (hb s us I.kIn hl) r2 h) fun r s' hq=>?_);cases r with
 |error e=>exact hx ag σ H s e s' I hq
 |ok fl =>
  cases fl with
  |ret u=>exact I.after hq
  |next=>exact U3 hq
  |brk=>exact U3 hq
  |cont=>exact U3 hq
theorem yN(F:bj X.prog X.w X.K X.mg X.base CX k f fd ps sp) (hr:cZ k X.A) (hg:Gl X x) (hm:X.mg x=some (.ref f)) (hk:U1 X.K (.ref f)=true) (hb:dZ X.K fd ps ds) (hd:aB dvs ds) (hx:sF CX X E)
  (ha:PA X (e::es) t) (hdb:(x==("__debug__":Str))=false:=by decide) (he:J1 (e::es) X.env=(false,T8 e X.env)::J1 es X.env:=by rfl) (hpl:(U6 pos (J1 es X.env)).any (·.1)=false:=by rfl) :
  PE X (.Call (.Name x p) (e::es) [] pos) (EU sp dvs E t):=by
 intro ag s σ H Q I h;refine wpAny_Call_Name_kw (zx I hg hm ?_ hdb);refine PySem.W.callWith_K (h₀:=X.base) I.ok.mod.kin hk (thn (ha pos ag s σ H _ I h) fun us s1 hup=>hup.el fun vs H1 I1 r q=>⟨I1.kIn,?_⟩) he hpl;exact Bw F hr hb hd hx I1 r q
structure Mk(K:o0) (C f:F9):Prop where
 makes:PySem.W.makesIn K C=true
 init:PySem.W.findIn K (.ref C) "__init__"=some (some (.ref f))
 fn:PySem.W.isFn K (.ref f)=true
 kp:U1 K (.ref C)=true
end
structure az(N P:List Str) (sc:R0):Prop where
 kind:sc.kind=.function
 co:sc.isCoroutine=false
 gen:sc.isGenerator=false
 nd:N.Nodup
 pre:N.take P.length=P
 par:∀x∈P,sc.names.lookup x=some .local∨sc.names.lookup x=some .cell
 nofree:∀y∈sc.names,y.2≠.free
theorem nQ{Z4:Str->Option J9}{x:Str}:∀{binds:List (Str×u8)}{m:Str->Option u8},(∀v,(x,v)∉binds)->bindL Z4 binds m x=m x
 |[],_,_=>rfl
 |(n,v)::r,m,h=>by
  unfold bindL;rw[nQ fun w hw=>h w (K8 _ hw)]
  split
  ·have:x≠n:=by rintro rfl;exact h v M0
   simp[this]
  ·rfl
theorem nI{Z4:Str->Option J9}{x:Str}:∀{binds:List (Str×u8)}{m:Str->Option u8},(∀v,(x,v)∉binds)->bindC Z4 binds m x=m x
 |[],_,_=>rfl
 |(n,v)::r,m,h=>by
  unfold bindC;rw[nI fun w hw=>h w (K8 _ hw)]
  split
  ·rfl
  ·have:x≠n:=by rintro rfl;exact h v M0
   simp[this]
theorem nP{Z4:Str->Option J9}{x:Str}{v:u8}:∀{P:List Str}{vs:List u8}{i:Nat}{m:Str->Option u8},P.Nodup->P[i]?=some x->vs[i]?=some v->Z4 x=some .local ->
  bindL Z4 (P.zip vs) m x=some v
 |[],_,_,_,_,h,_,_=>by simp at h
 |_::_,[],_,_,_,_,h,_=>by simp at h
 |p::P,w::vs,0,m,nd,h1,h2,hk=>by
  simp at h1 h2;subst h1;subst h2;show bindL Z4 ((p,w)::P.zip vs) m p=_;unfold bindL;rw[nQ fun v hv=>(U9.mp nd).1 (List.of_mem_zip hv).1,if_pos hk];simp
 |p::P,w::vs,i+1,m,nd,h1,h2,hk=>by
  show bindL Z4 ((p,w)::P.zip vs) m x=_;unfold bindL;exact nP (i:=i) (U9.mp nd).2 (by simpa using h1) (by simpa using h2) hk
theorem nq{Z4:Str->Option J9}{x:Str}{v:u8}:∀{P:List Str}{vs:List u8}{i:Nat}{m:Str->Option u8},P.Nodup->P[i]?=some x->vs[i]?=some v->Z4 x≠some .local ->
  bindC Z4 (P.zip vs) m x=some v
 |[],_,_,_,_,h,_,_=>by simp at h
 |_::_,[],_,_,_,_,h,_=>by simp at h
 |p::P,w::vs,0,m,nd,h1,h2,hk=>by
  simp at h1 h2;subst h1;subst h2;show bindC Z4 ((p,w)::P.zip vs) m p=_;unfold bindC;rw[nI fun v hv=>(U9.mp nd).1 (List.of_mem_zip hv).1,if_neg hk];simp
 |p::P,w::vs,i+1,m,nd,h1,h2,hk=>by
  show bindC Z4 ((p,w)::P.zip vs) m x=_;unfold bindC;exact nq (i:=i) (U9.mp nd).2 (by simpa using h1) (by simpa using h2) hk
def gd(N:List Str) (vs:List V):St:=vs.map some++J0 (N.length-vs.length) none
noncomputable def oV(CX:CXT) (P:L5) (w:P6) (K:o0) (mg:Str->Option u8) (base:K4) (N:List Str) (qual:Str) (scope:R0) (f:F9) (cd:u8) (A:N3) (outer:List Env) (s:F1) (H:Hp) (E:XK):Cx where
 prog:=P
 w:=w
 K:=K
 mg:=mg
 base:=base
 A:=A.deeper (ab9 qual scope s.heap.objs.size f cd)
 N:=N
 s₀:=s
 H₀:=H
 env:=ab9 qual scope s.heap.objs.size f cd
 outer:=outer
 stack:=ab9 qual scope s.heap.objs.size f cd::outer
 ex:=[]
 calm:=true
 fn:=fun _=>true
 pn:=[]
 xe:=fun e s'=>J4 (K3 P w) (A.deeper (ab9 qual scope s.heap.objs.size f cd)) (leaving (ab9 qual scope s.heap.objs.size f cd) e) (fun _ s''=>CX outer H s E e s'') (fun e' s''=>CX outer H s E e' s'') s'
theorem qv{sc:R0}{n:Nat}{x:Str}(h:sc.names.lookup x=some .cell):∃c,(O6 n sc.names []).lookup x=some c:=by
 have q:=N9 sc.names n [] (.inl h);exact O2.mp q
theorem vm{CX:CXT}{P:L5}{w:P6}{K:o0}{mg:Str->Option u8}{base:K4}{N ps:List Str}{qual:Str}{scope:R0}{f:F9}{cd:u8}{A:N3}{outer:List Env}{s s1:F1}{H:Hp}{E:XK}{us:List u8}{vs:List V}
  (S:az N ps scope) (hd:A.handled=none) (e0:yV P w K mg base A outer s H) (hl:vs.length=ps.length) (r:aB vs us)
  (x:InCallC s s.heap.objs.size (bindL (ab9 qual scope s.heap.objs.size f cd).kindOf (ps.zip us) fun _=>none) (O6 (s.heap.objs.size+1) scope.names []) (bindC (ab9 qual scope s.heap.objs.size f cd).kindOf (ps.zip us) fun _=>none) s1) :
  Inv (oV CX P w K mg base N qual scope f cd A outer s H E) [] (gd N vs) H s1:=by
 have hpl:ps.length<=N.length:=by have:=congrArg Z5 S.pre;rw[List.length_take]at this;lia
 obtain⟨h1,tk,rfl,hk⟩:=x.done;have noA:∀b:F9,b∉(oV CX P w K mg base N qual scope f cd A outer s H E).ex:=fun b z=>absurd (show b∈([]:List F9)from z) (by simp);refine⟨⟨e0.mod,S.kind,rfl,rfl,F6 _,fun y z c h1 h2=>?_,fun y hy=>?_,fun y c _ h=>?_,fun _=>hd,N3.frames_deeper e0.frames,.inr ⟨rfl,rfl⟩,fun b z=>absurd z (noA b),e0.bs,e0.bsz,fun b _ _=>noA b,fun b z=>absurd z (noA b),e0.funs,e0.frf⟩,
  rfl,e0.bare,Un.kept hk,⟨_,x.toInCall.ns,fun i y v h1 h2 h3=>?_⟩,fun y c h=>⟨_,x.cell y c h⟩,e0.hok.fresh (F6 _),fun y c h=>?_,fun p hp=>absurd (show p∈([]:List (F9×Obj))from hp) (by simp),e0.hok.kept hk,?_⟩
 ·exact name_of_addr x.apart (K5 h1) (K5 h2)
 ·have hy:scope.names.lookup y=some .cell∨scope.names.lookup y=some .free:=hy;rcases hy with hy|hy
  ·exact qv hy
  ·exact absurd rfl (S.nofree _ (K5 hy))
 ·exact Nat.le_of_lt (x.above y c (K5 h))
 ·have hi:i<vs.length:=by
   unfold gd at h2
   by_cases hi:i<vs.length
   ·exact hi
   ·rw[Q4 (by simpa using hi)]at h2;rw[S5]at h2
    split at h2<;>cases h2
  have ha:vs[i]?=some v:=by
   unfold gd at h2;rw[L9 (by simpa using hi),P7]at h2;cases e:vs[i]? with
   |none=>rw[e]at h2;cases h2
   |some a=>rw[e]at h2;cases h2;rfl
  obtain⟨u,hu,rv⟩:=r.get ha;have hp:ps[i]?=some y:=by
   rw[<-S.pre,List.getElem?_take_of_lt (by lia)];exact h1
  have ndP:ps.Nodup:=by rw[<-S.pre];exact S.nd.sublist (List.take_sublist _ _)
  refine⟨u,rv,?_⟩;rcases S.par y (List.mem_of_getElem? hp)with k|k
  ·exact .inl ⟨k,nP ndP hp hu k⟩
  ·obtain⟨c,e⟩:=qv (n:=s.heap.objs.size+1) k;refine .inr ⟨.inl k,c,e,?_⟩;have q:=x.cell y c e;rw[nq ndP hp hu (by show scope.names.lookup y≠_;rw[k];decide)]at q;exact q
 ·exact e0.hok.fresh (Nat.le_of_lt (x.above y c (K5 h)))
 ·unfold gd;show _=N.length;rw[L8,X0,List.length_replicate]
  lia
theorem A4{CX:CXT}{P:L5}{w:P6}{K:o0}{mg:Str->Option u8}{base:K4}{k:Nat}{f:F9}{name qual:Str}{params:Arguments}{body:List aa2}{scope:R0}{dV kV doc pm cdv ct oc:u8}{an od:Option F9}
  {osl:Array (Option u8)} {N ps:List Str} {sp:Sp} (lk:K.lookup f=some ⟨oc,od,.func (W0 name qual params body scope dV kV doc pm an cdv ct),osl⟩) (hcd:PySem.W.codeIn K cdv qual=true) (S:az N ps scope)
  (len:∀vs H Q E,sp vs H Q E->vs.length=ps.length)
  (hbody:∀ (A:N3) (outer:List Env) (s:F1) (H:Hp) (vs:List V) (Q:VK) (E:XK),cZ k (A.deeper (ab9 qual scope s.heap.objs.size f cdv)) → sp vs H Q E →
   ∃t,PSs (oV CX P w K mg base N qual scope f cdv A outer s H E) body t/\t { nx:=fun _ H'=>Q .non H',rt:=Q } (gd N vs) H) :
  bj P w K mg base CX (k+1) f (W0 name qual params body scope dV kV doc pm an cdv ct) ps sp:=by
 refine⟨len,fun A outer s H args us vs Q E hr e0 hb r hsp=>?_⟩;have hl:=len _ _ _ _ hsp;have KX:K.In s.heap:=e0.mod.kin.keeps fun b o e=>(e0.bs b o e).1;have lim:s.heap.NoLimit:=e0.mod.nolimit.keeps fun b o e=>(e0.bs b o e).1;have hkind:∀y∈ps.zip us,scope.names.lookup y.1=some .local∨(scope.names.lookup y.1=some .cell/\((O6 (s.heap.objs.size+1) scope.names []).lookup y.1).isSome=true):=fun⟨n,v⟩ hy=>by
  rcases S.par n (List.of_mem_zip hy).1 with q|q
  ·exact .inl q
  ·exact .inr ⟨q,N9 _ _ _ (.inl q)⟩
 refine codeAny_call_function hr.depth (KX _ _ lk) rfl S.co S.gen rfl (PySem.W.codeRec_of KX hcd) (hb _ _ _ _ ?_);refine wpAny_newFunctionEnv_cells S.kind hkind fun env he s1 x=>?_;subst he;refine⟨lim.keeps x.toInCall.keep,codeAny_func ?_⟩;obtain⟨t,ht,hq⟩:=hbody A outer s H vs Q E (hr.deeper _) hsp;have I:Inv (oV CX P w K mg base N qual scope f cdv A outer s H E) [] (gd N vs) H s1:=vm S hr.hd e0 hl r x;refine M8 (ht [] s1 (gd N vs) H _ I hq) (fun fl s' hs=>?_) fun e s' hs=>hs;have fin:∀{σ':St} {H':Hp} {v:V} {u:u8},Inv (oV CX P w K mg base N qual scope f cdv A outer s H E) [] σ' H' s'->aL v u->Q v H'->CE outer P w H s Q u s' :=
  fun {σ' H' v u} J rv q=>⟨v,H',J.os,J.bare,J.base,J.hok,rv,q⟩
 cases fl with
 |ret u =>
  obtain⟨v,σ',H',J,rv,q⟩:=hs;exact fin J rv q
 |next =>
  obtain⟨σ',H',J,q⟩:=hs;exact fin (v:=V.non) (u:=V3) J rfl q
 |brk =>
  obtain⟨_,_,_,q⟩:=hs;exact U3 q
 |cont =>
  obtain⟨_,_,_,q⟩:=hs;exact U3 q
section
variable{X:Cx}{x:Str}{p pos:Pos}{e:J5}{es:List J5}{t:TA}{id T:String}{r:List V->Hp->VK->Prop}
def tCB(r:List V->Hp->VK->Prop) (t:TA):TE:=fun σ H Q=>t σ H fun vs H1=>r vs H1 Q
theorem qF(hc:dF X (.builtin id) r) (hg:Gl X x) (hm:X.mg x=none) (hv:Q9 x=some (.builtin id)) (ha:PA X (e::es) t) (hn:x≠"__name__":=by decide) (hdb:(x==("__debug__":Str))=false:=by decide)
  (he:J1 (e::es) X.env=(false,T8 e X.env)::J1 es X.env:=by rfl) (hpl:(U6 pos (J1 es X.env)).any (·.1)=false:=by rfl):PE X (.Call (.Name x p) (e::es) [] pos) (tCB r t):=by
 intro ag s σ H Q I h;refine wpAny_Call_Name_kw (dI I hg hm hv ?_ hn hdb);exact PyProof.Rows.callWith_builtin1 (thn (ha pos ag s σ H _ I h) fun us s1 hup=>hup.el fun vs H1 I1 r1 q1=>hc ag s1 σ H1 vs us Q I1 r1 q1) he hpl
theorem u9(hc:dF X (.type T) r) (hg:Gl X x) (hm:X.mg x=none) (hv:Q9 x=some (.type T)) (ha:PA X (e::es) t) (hn:x≠"__name__":=by decide) (hdb:(x==("__debug__":Str))=false:=by decide)
  (he:J1 (e::es) X.env=(false,T8 e X.env)::J1 es X.env:=by rfl) (hpl:(U6 pos (J1 es X.env)).any (·.1)=false:=by rfl):PE X (.Call (.Name x p) (e::es) [] pos) (tCB r t):=by
 intro ag s σ H Q I h;refine wpAny_Call_Name_kw (dI I hg hm hv ?_ hn hdb);exact N2 (thn (ha pos ag s σ H _ I h) fun us s1 hup=>hup.el fun vs H1 I1 r1 q1=>hc ag s1 σ H1 vs us Q I1 r1 q1) he hpl
end
end L2
namespace HT
open PySem PyProof.Rows
section
open PySem.SeqAt
open PySem.AutoSeq1 (wpAny_loadPart')
open PySem.MeetsSeq PySem.MeetsSeq2 PySem.MeetsSeq3
end
section
variable{prog:L5}{w:P6}{A:N3}{E:u8->F1->Prop}{s:F1}
theorem cat_tup{t b:F9}{vs ws:List u8}{Q:u8->F1->Prop}(ht:ab8 s.heap t vs.toArray) (hb:ab8 s.heap b ws.toArray) (hv:vs≠[])
  (h1:ws=[]->Q (.ref t) s) (h2:ws≠[]->Q (.ref s.heap.objs.size) { s with heap:=s.heap.push { cls:=.type "tuple",data:=.seq (vs++ws).toArray } })
  (hsz:vs.length+ws.length<=F2):J4 (K3 prog w) A (P2 .Add (.ref t) (.ref b)) Q E s:=by
 obtain⟨⟨cls,dd,data,sl⟩,ho,hc,n,hd⟩:=id ht;obtain⟨⟨cls2,dd2,data2,sl2⟩,ho2,hc2,n2,hd2⟩:=id hb;simp only at hc hd hc2 hd2;subst hc hd hc2 hd2;have e:vs.toArray++ws.toArray=(vs++ws).toArray:=by simp
 by_cases hw:ws=[]
 ·exact concat_meets ⟨_,ho,rfl⟩ ⟨_,ho2,rfl⟩ noFill_tuple_add seq_tuple_add PySem.F.slot_tuple_add PySem.F.entry_tuple_add (PySem.F.args_tuple_add_2 _ _)
   (tuple_addW1 t b vs.toArray ws.toArray n n2 dd dd2 sl sl2 (by simpa using hv) (by simp[hw])) ⟨ho,ho2,h1 hw⟩
 ·refine concat_meets ⟨_,ho,rfl⟩ ⟨_,ho2,rfl⟩ noFill_tuple_add seq_tuple_add PySem.F.slot_tuple_add PySem.F.entry_tuple_add (PySem.F.args_tuple_add_2 _ _)
   (tuple_addW2 t b vs.toArray ws.toArray n n2 dd dd2 sl sl2 (by simpa using hv) (by simpa using hw) (by rw[F3,F3];exact hsz)) ⟨ho,ho2,?_⟩
  rw[e];exact h2 hw
noncomputable def sIx(n d:Nat):Option Int->Nat
 |none=>d
 |some v=>if v<0 then(v+(n:Int)).toNat else min v.toNat n
theorem sIx_none(n d:Nat):sIx n d none=d:=rfl
theorem sIx_nat(n d k:Nat):sIx n d (some (k:Int))=min k n:=by
 show(if(k:Int)<0 then((k:Int)+(n:Int)).toNat else min (k:Int).toNat n)=min k n;rw[if_neg (by lia),Int.toNat_natCast]
theorem Cy(n d:Nat) (hd:d<=n) (o:Option Int):sIx n d o<=n:=by
 cases o with
 |none=>exact hd
 |some v =>
  show(if v<0 then(v+(n:Int)).toNat else min v.toNat n)<=n
  by_cases hv:v<0
  ·rw[if_pos hv];lia
  ·rw[if_neg hv];exact Nat.min_le_right _ _
theorem uk(v:Int) (n d:Nat):(if v<0 then max (v+(n:Int)) 0 else min v (n:Int))=((sIx n d (some v):Nat):Int):=by
 show(if v<0 then max (v+(n:Int)) 0 else min v (n:Int))=(((if v<0 then(v+(n:Int)).toNat else min v.toNat n):Nat):Int)
 by_cases hv:v<0
 ·simp only[if_pos hv];lia
 ·simp only[if_neg hv];lia
theorem rK(lo hi:Option Int) (n:Nat):J3.Slice.sliceAdjust lo hi 1 (n:Int)=(((sIx n 0 lo:Nat):Int),((sIx n n hi:Nat):Int)):=by
 have h1:¬ ((1:Int)<0):=by lia
 unfold J3.Slice.sliceAdjust;simp only[h1,if_false];refine Prod.ext ?_ ?_
 ·cases lo with
  |none=>rfl
  |some v=>exact uk v n 0
 ·cases hi with
  |none=>rfl
  |some v=>exact uk v n n
theorem sV(i j:Nat):N0 (i:Int) (j:Int) 1=j-i:=by
 unfold N0;have h1:(1:Int) > 0:=by lia
 simp only[h1,if_true,Int.ediv_one]
 split<;>lia
theorem lA{v:u8}{o:Option Int}{Q:Option Int->F1->Prop}(p:ac0 v o) (h:Q o s):J4 (K3 prog w) A (J3.Slice.slicePartIndex v) Q E s:=by
 cases p with
 |none=>exact Z0 h
 |int i t=>exact slicePart_int h
theorem fG{sl:F9}{vl vu:u8}{lo hi:Option Int}{n:Nat}{Q:Int×Int×Nat->F1->Prop}(hs:s.heap.IsSliceOf sl vl vu .none) (pl:ac0 vl lo) (pu:ac0 vu hi)
  (h:Q (((sIx n 0 lo:Nat):Int),1,sIx n n hi-sIx n 0 lo) s):J4 (K3 prog w) A (Q5 (.ref sl) (V2 (n:Int))) Q E s:=by
 obtain⟨os,hos,hcs,hds⟩:=id hs;unfold Q5 J3.Slice.sliceFields;refine s0 (s0 (O4 hos hds (x:=vl) rfl (s0 (O4 hos hds (x:=vu) rfl (s0 (O4 hos hds (x:=.none) rfl (F4 ?_)))))));refine s0 (Z0 ?_);show J4 _ _ (if((1:Int)==0)=true then _ else _) _ _ s;rw[if_neg (by decide)];refine s0 (lA pl (s0 (lA pu (s0 (F4 ?_)))));show J4 _ _ (match J3.Slice.sliceAdjust lo hi 1 (n:Int)with|(lo,hi)=>V2 (lo,(1:Int),N0 lo hi 1)) _ _ s;rw[rK lo hi n];show J4 _ _ (V2 (((sIx n 0 lo:Nat):Int),(1:Int),N0 ((sIx n 0 lo:Nat):Int) ((sIx n n hi:Nat):Int) 1)) _ _ s;rw[sV];exact F4 h
theorem wc(xs:Array u8) (i k:Nat):((T7 k).filterMap fun(m:Nat)=>xs[((i:Int)+(m:Int)*1).toNat]?).toArray=((xs.toList.drop i).take k).toArray:=by
 have e:(fun(m:Nat)=>xs[((i:Int)+(m:Int)*1).toNat]?)=fun m=>xs[i+m]?:=by
  funext m;have:((i:Int)+(m:Int)*1).toNat=i+m:=by lia
  rw[this]
 rw[e];have:=pick_run xs i k;rw[List.filterMap_map]at this;have e2:((fun x=>xs[x]?)∘fun x=>i+x)=fun m=>xs[i+m]?:=rfl;rw[e2]at this;rw[this]
theorem getItem_tuple_cut{t sl:F9}{items:Array u8}{vl vu:u8}{lo hi:Option Int}{Q:u8->F1->Prop}(ht:ab8 s.heap t items) (hs:s.heap.IsSliceOf sl vl vu .none) (pl:ac0 vl lo) (pu:ac0 vu hi)
  (hw:¬ (sIx items.size 0 lo=0/\sIx items.size items.size hi=items.size))
  (h:Q (.ref s.heap.objs.size) { s with heap:=s.heap.push { cls:=.type "tuple",data:=.seq ((items.toList.drop (sIx items.size 0 lo)).take (sIx items.size items.size hi-sIx items.size 0 lo)).toArray } })
  (hsz:items.size<=F2):J4 (K3 prog w) A (X1 (.ref t) (.ref sl)) Q E s:=by
 have htake:sizeOk (.seq ((items.toList.drop (sIx items.size 0 lo)).take (sIx items.size items.size hi-sIx items.size 0 lo)).toArray):=by
  show((items.toList.drop (sIx items.size 0 lo)).take (sIx items.size items.size hi-sIx items.size 0 lo)).toArray.size<=F2;rw[F3,List.length_take,List.length_drop,U2]
  lia
 have hj:sIx items.size items.size hi<=items.size:=Cy _ _ (F6 _) hi;obtain⟨os,hos,hcs,hds⟩:=id hs;have hTs:s.TypeIs (.ref sl) "slice":=⟨os,hos,hcs⟩;unfold X1
 try with_reducible refine S3 ?_
 first|refine s0 (F4 ?_)|skip
 refine s0 (wpAny_sequenceKey ht.typeIs (by decide) ?_);refine s0 (N6 (name:=U4 "__getitem__") ht.typeIs J7
  (P3 J7 ht.typeIs entry_tuple_getitem ?_ (args_tuple_getitem _ _)))
 show J4 _ _ (Q6 (.ref t) >>= _) _ _ s;refine s0 (Z6 ht ?_);refine s0 (aa3 hTs ?_);rw[if_pos (by decide)];refine s0 (fG hs pl pu ?_);have hno:¬ ((((sIx items.size 0 lo:Nat):Int)==0&&(1:Int)==1&&(sIx items.size items.size hi-sIx items.size 0 lo)==items.size)=true):=by
  intro q;rw[K1,K1]at q;have q1:((sIx items.size 0 lo:Nat):Int)=0:=eq_of_beq q.1.1;have q2:sIx items.size items.size hi-sIx items.size 0 lo=items.size:=eq_of_beq q.2;exact hw ⟨by lia,by lia⟩
 show J4 _ _ (if(((sIx items.size 0 lo:Nat):Int)==0&&(1:Int)==1&&(sIx items.size items.size hi-sIx items.size 0 lo)==items.size)=true then _ else _) _ _ s;rw[if_neg hno,wc]
 first
  |exact s0 (m:=K2 _) (K0 (F4 ⟨_,rfl,F4 h⟩) htake)
  |exact s0 (m:=K2 _) (K0 (s0 (F4 (F4 ⟨_,rfl,F4 h⟩))) htake)
  |exact s0 (s0 (m:=K2 _) (K0 (F4 (F4 ⟨_,rfl,F4 h⟩)) htake))
  |exact s0 (s0 (m:=K2 _) (K0 (F4 ⟨_,rfl,F4 h⟩) htake))
end
end HT
namespace L2
open PySem PySem.Spec PyProof.Rows
abbrev TO:=St->Hp->(Option Int->Hp->Prop)->Prop
def PO(X:Cx) (e:Option J5) (t:TO):Prop :=
 ∀(ag:List (F9×Obj)) (s:F1) (σ:St) (H:Hp) (Q:Option Int->Hp->Prop),Inv X ag σ H s->t σ H Q ->
  J4 (K3 X.prog X.w) X.A (evalPart e X.env) (fun u s'=>∃o H',Inv X ag σ H' s'/\ac0 u o/\Q o H') X.xe s
def As:TO:=fun _ H Q=>Q none H
def EZ(t:TE):TO:=fun σ H Q=>t σ H fun x H1=>∃i,x=.int i/\Q (some i) H1
section
variable{X:Cx}{e:J5}{te:TE}{lo hi:Option J5}{tl th:TO}{pos p2:Pos}
theorem Ai:PO X none As:=by
 intro ag s σ H Q I h;rw[evalPart_none];exact F4 ⟨none,H,I,.none,h⟩
theorem zh(h:PE X e te):PO X (some e) (EZ te):=by
 intro ag s σ H Q I hw;rw[evalPart_some];refine thn (h ag s σ H _ I hw) fun u s1 hup=>hup.el fun x H1 I1 r1 q1=>?_;obtain⟨i,rfl,q⟩:=q1;obtain⟨t,rfl⟩:=r1;exact⟨some i,H1,I1,.int i t,q⟩
def SlR(X:Cx) (r:V->Option Int->Option Int->Hp->VK->Prop):Prop :=
 ∀(ag:List (F9×Obj)) (s:F1) (σ:St) (H:Hp) (x:V) (v vl vu:u8) (lo hi:Option Int) (sl:F9) (Q:VK),Inv X ag σ H s->aL x v->s.heap.IsSliceOf sl vl vu .none->ac0 vl lo->ac0 vu hi->r x lo hi H Q ->
  ∃T id,typeLookup (.type T) "__getitem__"=V2 (some (.builtin id))/\s.TypeIs v T/\J4 (K3 X.prog X.w) X.A (X1 v (.ref sl)) (EP X ag σ Q) X.xe s
theorem SlR.or{r r':V->Option Int->Option Int->Hp->VK->Prop}(h:SlR X r) (h':SlR X r'):SlR X (fun x lo hi H Q=>r x lo hi H Q∨r' x lo hi H Q):=by
 intro ag s σ H x v vl vu lo hi sl Q I rx hs pl pu q;rcases q with q|q
 ·exact h ag s σ H x v vl vu lo hi sl Q I rx hs pl pu q
 ·exact h' ag s σ H x v vl vu lo hi sl Q I rx hs pl pu q
def tSl(r:V->Option Int->Option Int->Hp->VK->Prop) (te:TE) (tl th:TO):TE:=fun σ H Q=>te σ H fun x H1=>tl σ H1 fun l H2=>th σ H2 fun u H3=>r x l u H3 Q
theorem ym{r:V->Option Int->Option Int->Hp->VK->Prop}(hr:SlR X r) (he:PE X e te) (hl:PO X lo tl) (hu:PO X hi th):PE X (.Subscript e (.Slice lo hi none p2) pos) (tSl r te tl th):=by
 intro ag s σ H Q I h;refine ac3 (thn (he ag s σ H _ I h) fun v s1 hup=>hup.el fun x H1 I1 r1 q1=>?_);refine wpAny_Slice (thn (hl ag s1 σ H1 _ I1 q1) fun vl s2 ⟨l,H2,I2,pl,q2⟩=>thn (hu ag s2 σ H2 _ I2 q2) fun vu s3 ⟨u,H3,I3,pu,q3⟩=>?_);rw[evalPart_none];refine F4 ?_;have I4:Inv X ag σ H3 { s3 with heap:=s3.heap.push { cls:=.type "slice",data:=.fields #[vl,vu,.none] } }:=I3.kept (t':=s3.toks) fun b ob q=>F0 _ q;obtain⟨T,id,hT,ht,hg⟩:=hr ag { s3 with heap:=s3.heap.push { cls:=.type "slice",data:=.fields #[vl,vu,.none] } } σ H3 x v vl vu l u s3.heap.objs.size Q I4 r1 (K4.IsSliceOf.new ..) pl pu q3;show J4 (K3 X.prog X.w) X.A (subscriptTail e (.Slice lo hi none p2) v (.ref s3.heap.objs.size)) (EP X ag σ Q) X.xe { s3 with heap:=s3.heap.push { cls:=.type "slice",data:=.fields #[vl,vu,.none] } };exact tail_any (ops:=[.ref s3.heap.objs.size,v]) ht hT hg (by with_unfolding_all rfl)
def pF(xs:List V) (lo hi:Option Int):List V:=(xs.drop (HT.sIx xs.length 0 lo)).take (HT.sIx xs.length xs.length hi-HT.sIx xs.length 0 lo)
theorem ki(xs:List V) (lo hi:Option Int):(pF xs lo hi).length<=xs.length:=by
 unfold pF;rw[List.length_take,List.length_drop]
 lia
def Ff(K:o0):V->Option Int->Option Int->Hp->VK->Prop:=fun x lo hi H Q=>∃a xs,x=.ref a/\SqT K H a xs /\
 ¬ (HT.sIx xs.length 0 lo=0/\HT.sIx xs.length xs.length hi=xs.length)/\∀p,H p=none->Q (.ref p) (upd H p (.tup (pF xs lo hi)))
theorem Bl:SlR X (Ff X.K):=by
 intro ag s σ H x v vl vu lo hi sl Q I rx hs pl pu h;obtain⟨a,xs,rfl,hx,hw,q⟩:=h;cases rx;obtain⟨its,r,ht,hz⟩:=I.tuple hx;have bG:its.toArray.size=xs.length:=by rw[F3];exact r.length.symm
 refine⟨"tuple",_,J7.lookup,ht.typeIs,?_⟩;refine HT.getItem_tuple_cut ht hs pl pu (by rw[bG];exact hw) ?_ (by rw[bG];exact hz);rw[bG];refine⟨.ref s.heap.objs.size,_,I.laid (t':=s.toks) (o:=.tup (pF xs lo hi)) (fun b ob q=>F0 _ q) (F6 _) ?_,rfl,q _ (I.hok.fresh (F6 _))⟩;exact⟨L7 (ki xs lo hi) hz,_,(r.drop (HT.sIx xs.length 0 lo)).take (HT.sIx xs.length xs.length hi-HT.sIx xs.length 0 lo),ko.new _ _⟩
def Dp(K:o0):R2:=fun x y H Q=>∃a b xs ys,x=.ref a/\y=.ref b/\SqT K H a xs/\SqT K H b ys/\xs≠[]/\xs.length+ys.length<=F2 /\
 (ys=[]->Q (.ref a) H)/\(ys≠[]->∀p,H p=none->Q (.ref p) (upd H p (.tup (xs++ys))))
theorem aB.nil_iff{xs:List V}{us:List u8}(r:aB xs us):us=[]↔xs=[]:=by
 cases r with
 |nil=>simp
 |cons _ _=>simp
theorem zS:OpR X (P2 .Add) (Dp X.K):=by
 intro ag s σ H x y v u Q I rx ry h;obtain⟨a,b,xs,ys,rfl,rfl,ha,hb,hx,hz,q1,q2⟩:=h;cases rx;cases ry;obtain⟨its,r1,p1,_⟩:=I.tuple ha;obtain⟨its2,r2,p2,_⟩:=I.tuple hb;refine HT.cat_tup p1 p2 (fun z=>hx (r1.nil_iff.mp z)) (fun z=>⟨.ref a,H,I,rfl,q1 (r2.nil_iff.mp z)⟩) (fun z=>?_) (by rw[<-r1.length,<-r2.length];exact hz);refine⟨.ref s.heap.objs.size,_,I.laid (t':=s.toks) (o:=.tup (xs++ys)) (fun b ob q=>F0 _ q) (F6 _) ?_,rfl,q2 (fun w=>z (r2.nil_iff.mpr w)) _ (I.hok.fresh (F6 _))⟩;exact⟨by rw[L8];exact hz,_,r1.append r2,ko.new _ _⟩
end
noncomputable def ixN(n:Nat) (i:Int):Option Nat:=if 0<=i then(if i<n then some i.toNat else none)else if -(n:Int)<=i then some (i+n).toNat else none
def atI{α:Type}(xs:List α) (i:Int):Option α:=(ixN xs.length i).bind fun j=>xs[j]?
theorem uO{n:Nat}{i:Int}{j:Nat}(h:ixN n i=some j):seqIndex? i n=some j/\j<n/\-(n:Int)<=i/\i<n:=by
 unfold ixN at h
 by_cases h0:0<=i
 ·rw[if_pos h0]at h
  by_cases h1:i<n
  ·rw[if_pos h1]at h;have e:i.toNat=j:=J6 h;exact⟨by rw[seqIndex_of h0 h1,e],by lia,by lia,h1⟩
  ·rw[if_neg h1]at h;cases h
 ·rw[if_neg h0]at h
  by_cases h1:-(n:Int)<=i
  ·rw[if_pos h1]at h;have e:(i+n).toNat=j:=J6 h;exact⟨by rw[seqIndex_neg (by lia) h1,e],by lia,h1,by lia⟩
  ·rw[if_neg h1]at h;cases h
theorem oA{α:Type}{xs:List α}{i:Int}{v:α}(h:atI xs i=some v):∃j,seqIndex? i xs.length=some j/\xs[j]?=some v/\j<xs.length/\-(xs.length:Int)<=i/\i<xs.length:=by
 unfold atI at h;cases e:ixN xs.length i with
 |none=>rw[e]at h;cases h
 |some j =>
  rw[e]at h;obtain⟨h1,h2,h3,h4⟩:=uO e;exact⟨j,h1,h,h2,h3,h4⟩
theorem du{α:Type}{xs:List α}{j:Nat}{v:α}(h:xs[j]?=some v):atI xs (j:Int)=some v:=by
 have hj:j<xs.length:=(L3.mp h).1;have e:ixN xs.length (j:Int)=some j:=by
  unfold ixN;rw[if_pos (by lia),if_pos (by lia)];simp
 unfold atI;rw[e];exact h
def uf(b:J5):Prop:=∀o i,ab4 b false o i=operate [o,i] (X1 o i)
def IxR(X:Cx) (r:R2):Prop :=
 ∀(value slice:J5) (ag:List (F9×Obj)) (s:F1) (σ:St) (H:Hp) (x y:V) (v u:u8) (Q:VK),Inv X ag σ H s->aL x v->aL y u->r x y H Q ->
  ab4 slice false v u=operate [v,u] (X1 v u)->J4 (K3 X.prog X.w) X.A (subscriptTail value slice v u) (EP X ag σ Q) X.xe s
def MtR(X:Cx) (id:String) (r:V->List V->Hp->VK->Prop):Prop :=
 ∀(ag:List (F9×Obj)) (s:F1) (σ:St) (H:Hp) (x:V) (xs:List V) (v:u8) (us:List u8) (Q:VK),Inv X ag σ H s->aL x v->aB xs us->r x xs H Q ->
  J4 (K3 X.prog X.w) X.A (call (.builtin id) (v::us)) (EP X ag σ Q) X.xe s
section
variable{X:Cx}{a b:J5}{ta tb:TE}{pos:Pos}
theorem E4{r:R2}(hr:IxR X r) (ha:PE X a ta) (hb:PE X b tb) (hs:uf b):PE X (.Subscript a b pos) (tOp r ta tb):=by
 intro ag s σ H Q I h;exact ac3 (Cw ha hb I h fun v u s2 x y H2 I2 rx ry q=>hr a b ag s2 σ H2 x y v u Q I2 rx ry q (hs _ _))
def Fv(K:o0):R2:=fun x y H Q=>∃p xs i v,x=.ref p/\y=.int i/\SqL K H p xs/\atI xs i=some v/\Q v H
def FB(K:o0):R2:=fun x y H Q=>∃p xs i v,x=.ref p/\y=.int i/\SqT K H p xs/\atI xs i=some v/\Q v H
def Fz:R2:=fun x y H Q=>∃z i c,x=.str z/\y=.int i/\z.length<=F2/\atI z.cps.toList i=some c/\Q (.str ⟨#[c]⟩) H
theorem uz:IxR X (Fv X.K):=by
 intro value slice ag s σ H x y v u Q I rx ry h hs;obtain⟨p,xs,i,z,rfl,rfl,hq,he,q⟩:=h;cases rx;obtain⟨t,rfl⟩:=ry;obtain⟨its,r,pl,hz⟩:=I.list hq;obtain⟨j,h1,h2,h3,h4,h5⟩:=oA he;obtain⟨w,ew,rw'⟩:=r.get h2;have hl:=r.length;have hn:=jG;have fin:EP X ag σ Q w s:=⟨z,H,I,rw',q⟩
 by_cases h0:0<=i
 ·have hj:i.toNat=j:=by
   rw[seqIndex_of h0 h5]at h1;exact J6 h1
  exact item_listR pl.isList h0 (by lia) (by rw[hj];simpa using ew) fin hs
 ·have hj:(i+(its.toArray.size:Int)).toNat=j:=by
   rw[seqIndex_neg (by lia) h4]at h1;rw[F3,<-hl];exact J6 h1
  exact subscriptTail_builtinR (x:=w) pl.isList.typeIs slot_list_getitem.lookup
   (wpAny_getItem_list_neg (Q:=fun r s'=>r=w/\EP X ag σ Q r s') pl.isList (by lia) (by rw[F3]<;>lia) (by lia) (by rw[hj];simpa using ew) ⟨rfl,fin⟩) hs
theorem BU:IxR X (FB X.K):=by
 intro value slice ag s σ H x y v u Q I rx ry h hs;obtain⟨p,xs,i,z,rfl,rfl,hq,he,q⟩:=h;cases rx;obtain⟨t,rfl⟩:=ry;obtain⟨its,r,pl,hz⟩:=I.tuple hq;obtain⟨j,h1,h2,h3,h4,h5⟩:=oA he;obtain⟨w,ew,rw'⟩:=r.get h2;have hl:=r.length;have hn:=jG;have fin:EP X ag σ Q w s:=⟨z,H,I,rw',q⟩;exact subscriptTail_builtinR (x:=w) pl.typeIs slot_tuple_getitem.lookup
  (getItem_tuple (j:=j) (Q:=fun r s'=>r=w/\EP X ag σ Q r s') pl (by lia) (by lia) (by rw[F3,<-hl];exact h1) (by simpa using ew) ⟨rfl,fin⟩) hs
theorem Cq:IxR X Fz:=by
 intro value slice ag s σ H x y v u Q I rx ry h hs;obtain⟨z,i,c,rfl,rfl,hz,he,q⟩:=h;obtain⟨t,rfl⟩:=rx;obtain⟨t',rfl⟩:=ry;obtain⟨j,h1,h2,h3,h4,h5⟩:=oA he;have hl:z.cps.toList.length=z.length:=by simp[Str.length]
 rw[hl]at h1 h4 h5;have hn:=jG;exact tail_any (typeIs_str s z t) slot_str_getitem.lookup (getItem_str (c:=c) (by
  have e1:decide (i < -(2 ^ 63:Int))=false:=decide_eq_false (by lia);have e2:decide (i>=2 ^ 63)=false:=decide_eq_false (by lia);rw[e1,e2,Bool.or_false]) (by rw[h1];simpa using h2) ⟨.str ⟨#[c]⟩,H,I.tok _,⟨_,rfl⟩,q⟩) hs
theorem rL(its:List u8) (n j:Nat) (u:u8):aa6 (·.setIfInBounds j u) { cls:=.type "list",data:=.seq its.toArray n }={ cls:=.type "list",data:=.seq (its.set j u).toArray n }:=by
 simp[aa6]
theorem Inv.lst{ag:List (F9×Obj)}{σ:St}{H:Hp}{s:F1}{p:F9}{xs:List V}(I:Inv X ag σ H s) (h:H p=some (.lst xs)) :
  ∃(its:List u8) (n:Nat),aB xs its/\s.heap.get? p=some { cls:=.type "list",data:=.seq its.toArray n }/\xs.length<=F2:=by
 obtain⟨z,its,n,r,e⟩:=I.hok p _ h;exact⟨its,n,r,e,z⟩
theorem Inv.lstUpd{ag:List (F9×Obj)}{σ:St}{H:Hp}{s:F1}{p:F9}{xs ys:List V}{its its':List u8}{n n':Nat}{f:Obj->Obj}(I:Inv X ag σ H s) (h:H p=some (.lst xs))
  (ho:s.heap.get? p=some { cls:=.type "list",data:=.seq its.toArray n }) (hf:f { cls:=.type "list",data:=.seq its.toArray n }={ cls:=.type "list",data:=.seq its'.toArray n' }) (r:aB ys its') (hz:ys.length<=F2) (t:Nat) :
  Inv X ag σ (upd H p (.lst ys)) { s with heap:=s.heap.update p f,toks:=t }:=by
 have e:(s.heap.update p f).get? p=some { cls:=.type "list",data:=.seq its'.toArray n' }:=by
  rw[T2 f ho (by rw[hf]<;>rfl),hf]
 refine I.write (x:=p) (e:=p) (by rw[h];trivial) (.inl rfl) (fun b u hb q=>(K4.get?_update_other _ _ (W6 hb)).trans q) ⟨_,e⟩ ?_;exact⟨hz,its',n',r,e⟩
def Ex:V->V->V->Hp->(Hp->Prop)->Prop:=fun o i v H Q=>∃p xs k j,o=.ref p/\i=.int k/\H p=some (.lst xs)/\ixN xs.length k=some j/\Q (upd H p (.lst (xs.set j v)))
theorem yp:DO X Ex:=by
 intro ag s σ H o i v ov iv u Q I ro ri rv h;obtain⟨p,xs,k,j,rfl,rfl,hp,hj,q⟩:=h;cases ro;obtain⟨t,rfl⟩:=ri;obtain⟨its,n,r,ho,hz⟩:=I.lst hp;obtain⟨h1,h2,h3,h4⟩:=uO hj;have hl:=r.length;have hn:=jG;have I':Inv X ag σ (upd H p (.lst (xs.set j v))) { s with heap:=s.heap.update p (aa6 (·.setIfInBounds j u)) } :=
  I.lstUpd hp ho (rL its n j u) (r.set rv j) (by rw[List.length_set];exact hz) s.toks
 by_cases h0:0<=k
 ·have hk:k.toNat=j:=by
   rw[seqIndex_of h0 h4]at h1;exact J6 h1
  exact PySem.W.ki_setAt ho h0 (by lia) (by rw[F3,<-hl];exact h4) (by rw[hk];exact⟨_,I',q⟩)
 ·have hk:(k+(its.toArray.size:Int)).toNat=j:=by
   rw[seqIndex_neg (by lia) h3]at h1;rw[F3,<-hl];exact J6 h1
  exact PySem.W.ki_setBack ho (by lia) (by rw[F3,<-hl];exact h3) (by lia) (by rw[hk];exact⟨_,I',q⟩)
theorem o5(lo hi:Option Int) (n:Nat):(T3 lo hi none n).1=((HT.sIx n 0 lo:Nat):Int)/\(T3 lo hi none n).2.1=((HT.sIx n n hi:Nat):Int)/\(T3 lo hi none n).2.2=1:=by
 refine⟨?_,?_,rfl⟩
 ·cases lo with
  |none=>simp[T3,HT.sIx]
  |some i =>
   simp only[T3,HT.sIx,Option.getD_none,show(1:Int) > 0 by decide,if_true]
   by_cases h:i<0
   ·simp only[h,if_true]<;>lia
   ·simp only[h,if_false]<;>lia
 ·cases hi with
  |none=>simp[T3,HT.sIx]
  |some i =>
   simp only[T3,HT.sIx,Option.getD_none,show(1:Int) > 0 by decide,if_true]
   by_cases h:i<0
   ·simp only[h,if_true]<;>lia
   ·simp only[h,if_false]<;>lia
theorem mX(its:List u8) (lo hi:Option Int):slicePick its.toArray lo hi none=((its.drop (HT.sIx its.length 0 lo)).take (HT.sIx its.length its.length hi-HT.sIx its.length 0 lo)).toArray:=by
 obtain⟨h1,h2,h3⟩:=o5 lo hi its.toArray.size;unfold slicePick;rw[h1,h2,h3];simp only[sliceRange_one,pick_run,F3]<;>rfl
def FJ(K:o0):V->Option Int->Option Int->Hp->VK->Prop:=fun x lo hi H Q=>∃a xs,x=.ref a/\SqL K H a xs/\∀p,H p=none->Q (.ref p) (upd H p (.lst (pF xs lo hi)))
theorem Ar:SlR X (FJ X.K):=by
 intro ag s σ H x v vl vu lo hi sl Q I rx hs pl pu h;obtain⟨a,xs,rfl,hx,q⟩:=h;cases rx;obtain⟨its,r,ht,hz⟩:=I.list hx;have bG:=r.length;refine⟨"list",_,slot_list_getitem.lookup,ht.isList.typeIs,?_⟩;refine wpAny_getItem_list_slice ht.isList hs pl pu .none (by simp) ?_ (by rw[F3]<;>lia);rw[mX,<-bG];refine⟨.ref s.heap.objs.size,_,I.laid (t':=s.toks) (o:=.lst (pF xs lo hi)) (fun b ob q=>F0 _ q) (F6 _) ?_,rfl,q _ (I.hok.fresh (F6 _))⟩;exact⟨L7 (ki xs lo hi) hz,_,0,(r.drop (HT.sIx xs.length 0 lo)).take (HT.sIx xs.length xs.length hi-HT.sIx xs.length 0 lo),F7 _ rfl⟩
def gM:V->Bool
 |.non=>true
 |.bl _=>true
 |.int _=>true
 |.str _=>true
 |_=>false
noncomputable def eqV:V->V->Bool
 |.non,.non=>true
 |.bl a,.bl b=>a==b
 |.bl a,.int b=>(if a then 1 else 0)==b
 |.int a,.bl b=>a==(if b then 1 else 0)
 |.int a,.int b=>a==b
 |.str a,.str b=>a==b
 |_,_=>false
theorem Bm{A:N3}{s:F1}{y x:V}{u v:u8}(ry:aL y u) (rx:aL x v) (fy:gM y=true) (fx:gM x=true):N4 A s u v (eqV y x):=by
 cases y with
 |non =>
  cases ry;cases x with
  |non=>cases rx;exact N4.same _
  |bl b=>cases rx;exact N4.none_bool b
  |int b=>obtain⟨t,rfl⟩:=rx;exact N4.none_int b t
  |str b=>obtain⟨t,rfl⟩:=rx;exact N4.none_str b t
  |_=>exact absurd (show false=true from fx) L4
 |bl a =>
  cases ry;cases x with
  |non=>cases rx;exact N4.bool_none a
  |bl b=>cases rx;exact N4.bool_bool a b
  |int b=>obtain⟨t,rfl⟩:=rx;exact N4.bool_int a b t
  |str b=>obtain⟨t,rfl⟩:=rx;exact N4.bool_str a b t
  |_=>exact absurd (show false=true from fx) L4
 |int a =>
  obtain⟨t',rfl⟩:=ry;cases x with
  |non=>cases rx;exact N4.int_none a t'
  |bl b=>cases rx;exact N4.int_bool a t' b
  |int b=>obtain⟨t,rfl⟩:=rx;exact N4.int_int a t' b t
  |str b=>obtain⟨t,rfl⟩:=rx;exact N4.int_str a t' b t
  |_=>exact absurd (show false=true from fx) L4
 |str a =>
  obtain⟨t',rfl⟩:=ry;cases x with
  |non=>cases rx;exact N4.str_none a t'
  |bl b=>cases rx;exact N4.str_bool a t' b
  |int b=>obtain⟨t,rfl⟩:=rx;exact N4.str_int a t' b t
  |str b=>obtain⟨t,rfl⟩:=rx;exact N4.str_str a t' b t
  |_=>exact absurd (show false=true from fx) L4
 |_=>exact absurd (show false=true from fy) L4
def eqU(x:V) (u:u8):Bool:=match u with
 |.none=>eqV .non x
 |.bool b=>eqV (.bl b) x
 |.int i _=>eqV (.int i) x
 |.str z _=>eqV (.str z) x
 |_=>false
theorem xV{x y:V}{u:u8}(r:aL y u) (f:gM y=true):eqU x u=eqV y x:=by
 cases y with
 |non=>cases r;rfl
 |bl b=>cases r;rfl
 |int i=>obtain⟨t,rfl⟩:=r;rfl
 |str z=>obtain⟨t,rfl⟩:=r;rfl
 |_=>exact absurd (show false=true from f) L4
theorem je{x:V}:∀{xs:List V}{us:List u8},aB xs us->xs.all gM=true->us.any (eqU x)=xs.any fun y=>eqV y x
 |_,_,.nil,_=>rfl
 |y::xs,u::us,.cons r t,f=>by
  rw[V1,K1]at f;rw[O9,O9,xV r f.1,je t f.2]
theorem gU{A:N3}{s:F1}{x:V}{v:u8}(rx:aL x v) (fx:gM x=true):∀{xs:List V}{us:List u8},aB xs us->xs.all gM=true->∀u∈us,N4 A s u v (eqU x u)
 |_,_,.nil,_=>fun u hu=>by cases hu
 |y::xs,u::us,.cons r t,f=>fun u' hu=>by
  rw[V1,K1]at f;rcases N5.mp hu with rfl|hu
  ·rw[xV r f.1];exact Bm r rx f.1 fx
  ·exact gU rx fx t f.2 u' hu
def inV(x:V) (xs:List V):Bool:=xs.any fun y=>eqV y x
def rIn(K:o0) (neg:Bool):R2:=fun x y H Q=>∃p xs,y=.ref p/\(SqL K H p xs∨SqT K H p xs)/\gM x=true/\xs.all gM=true/\Q (.bl (if neg then !inV x xs else inV x xs)) H
theorem vJ:OpR X (L6 .In) (rIn X.K false):=by
 intro ag s σ H x y v u Q I rx ry h;obtain⟨p,xs,rfl,hq,fx,fs,q⟩:=h;cases ry;rcases hq with hq|hq
 ·obtain⟨its,r,pl,hz⟩:=I.list hq;refine SeqAt.in_listAt (eqU x) pl.isList (fun w hw=>gU rx fx r fs w (by simpa using hw)) ⟨.bl _,H,I,rfl,?_⟩;rw[show its.toArray.any (eqU x)=its.any (eqU x)by simp,je r fs];exact q
 ·obtain⟨its,r,pl,hz⟩:=I.tuple hq;refine SeqAt.in_tupleAt (eqU x) pl (fun w hw=>gU rx fx r fs w (by simpa using hw)) ⟨.bl _,H,I,rfl,?_⟩;rw[show its.toArray.any (eqU x)=its.any (eqU x)by simp,je r fs];exact q
theorem o7:OpR X (L6 .NotIn) (rIn X.K true):=by
 intro ag s σ H x y v u Q I rx ry h;obtain⟨p,xs,rfl,hq,fx,fs,q⟩:=h;cases ry;rcases hq with hq|hq
 ·obtain⟨its,r,pl,hz⟩:=I.list hq;refine SeqAt.notIn_listAt (eqU x) pl.isList (fun w hw=>gU rx fx r fs w (by simpa using hw)) ⟨.bl _,H,I,rfl,?_⟩;rw[show its.toArray.any (eqU x)=its.any (eqU x)by simp,je r fs];exact q
 ·obtain⟨its,r,pl,hz⟩:=I.tuple hq;refine SeqAt.notIn_tupleAt (eqU x) pl (fun w hw=>gU rx fx r fs w (by simpa using hw)) ⟨.bl _,H,I,rfl,?_⟩;rw[show its.toArray.any (eqU x)=its.any (eqU x)by simp,je r fs];exact q
theorem pq:dF X (.builtin "len") (fun xs H Q=>∃p ys,xs=[.ref p]/\(SqL X.K H p ys∨SqT X.K H p ys)/\Q (.int ys.length) H):=by
 intro ag s σ H xs us Q I r h;obtain⟨p,ys,rfl,hq,q⟩:=h;obtain⟨u,rfl,rx⟩:=uc r;cases rx;have hn:=jG;rcases hq with hq|hq
 ·obtain⟨its,r',pl,hz⟩:=I.list hq;have bG:=r'.length;exact Calls.call_len_list pl.isList (by simp only[F3]<;>lia) ⟨.int ys.length,H,I.tok _,⟨s.toks+1,by rw[F3,bG]⟩,q⟩
 ·obtain⟨its,r',pl,hz⟩:=I.tuple hq;have bG:=r'.length;exact len_tuple pl (by simp only[F3]<;>lia) ⟨.int ys.length,H,I.tok _,⟨s.toks+1,by rw[F3,bG]⟩,q⟩
theorem oS:dF X (.builtin "len") (fun xs H Q=>∃z,xs=[.str z]/\z.length<=F2/\Q (.int z.length) H):=by
 intro ag s σ H xs us Q I r h;obtain⟨z,rfl,hz,q⟩:=h;obtain⟨u,rfl,t,rfl⟩:=uc r;have hn:=jG;exact len_str (by lia) ⟨.int z.length,H,I.tok _,⟨_,rfl⟩,q⟩
theorem dF.or{f:u8}{r r':List V->Hp->VK->Prop}(h:dF X f r) (h':dF X f r'):dF X f (fun xs H Q=>r xs H Q∨r' xs H Q):=by
 intro ag s σ H xs us Q I rs q;rcases q with q|q
 ·exact h ag s σ H xs us Q I rs q
 ·exact h' ag s σ H xs us Q I rs q
theorem o4:dF X (.type "list") (fun xs H Q=>∃p ys,xs=[.ref p]/\(SqL X.K H p ys∨SqT X.K H p ys)/\∀l,H l=none->Q (.ref l) (upd H l (.lst ys))):=by
 intro ag s σ H xs us Q I r h;obtain⟨p,ys,rfl,hq,q⟩:=h;obtain⟨u,rfl,rx⟩:=uc r;cases rx;have fin:∀(its:List u8),aB ys its->ys.length<=F2->∀(h':K4) (c':Nat),(∀b o',s.heap.get? b=some o'->h'.get? b=some o') ->
   h'.get? s.heap.objs.size=some { cls:=.type "list",dict:=none,data:=.seq its.toArray c',slots:=#[] }->EP X ag σ Q (.ref s.heap.objs.size) { s with heap:=h' }:=fun its r' hz h' c' kp e =>
  ⟨.ref s.heap.objs.size,_,I.laid (t':=s.toks) kp (F6 _) (show br X.prog X.w _ h' _ (.lst ys)from⟨hz,its,c',r',e⟩),rfl,q _ (I.hok.fresh (F6 _))⟩
 rcases hq with hq|hq
 ·obtain⟨its,r',pl,hz⟩:=I.list hq;have bG:=r'.length;obtain⟨o,ho,hc,n,hd⟩:=pl.isList;exact call_list_seq p (.inl rfl) ho hc hd (fun h' c' kp e=>fin its r' hz h' c' kp e) (by simp only[F3]<;>lia)
 ·obtain⟨its,r',pl,hz⟩:=I.tuple hq;have bG:=r'.length;obtain⟨o,ho,hc,n,hd⟩:=pl;exact call_list_seq p (.inr rfl) ho hc hd (fun h' c' kp e=>fin its r' hz h' c' kp e) (by simp only[F3]<;>lia)
theorem mZ:dF X (.type "tuple") (fun xs H Q=>∃p ys,xs=[.ref p]/\((SqL X.K H p ys/\∀l,H l=none->Q (.ref l) (upd H l (.tup ys)))∨(SqT X.K H p ys/\Q (.ref p) H))):=by
 intro ag s σ H xs us Q I r h;obtain⟨p,ys,rfl,h⟩:=h;obtain⟨u,rfl,rx⟩:=uc r;cases rx;rcases h with⟨hq,q⟩|⟨hq,q⟩
 ·obtain⟨its,r',pl,hz⟩:=I.list hq;have bG:=r'.length;refine call_tuple_list pl.isList (fun h' kp=>?_) (by simp only[F3]<;>lia);have I1:Inv X ag σ H { s with heap:=h' }:=I.kept (t':=s.toks) kp;have I2:Inv X ag σ (upd H h'.objs.size (.tup ys)) { s with heap:=h'.push { cls:=.type "tuple",data:=.seq its.toArray } } :=
   I1.laid (t':=s.toks) (fun b o e=>F0 _ e) (F6 _) (show br X.prog X.w _ _ _ (.tup ys)from⟨hz,its,r',ko.new _ _⟩)
  exact⟨.ref h'.objs.size,_,I2,rfl,q _ (I1.hok.fresh (F6 _))⟩
 ·obtain⟨its,r',pl,hz⟩:=I.tuple hq;exact call_tuple_same pl ⟨.ref p,H,I,rfl,q⟩
def tyV(K:o0) (T:String) (x:V) (H:Hp):Prop:=match x with
 |.str _=>T="str"
 |.int _=>T="int"
 | .ref p => (T = "list" ∧ ∃ xs,SqL K H p xs) ∨ (T = "tuple" ∧ ∃ o,K.lookup p = some o ∧ o.cls = .type "tuple" ∧ o.dict = none) ∨
   (T="dict"/\((∃kvs,H p=some (.dK kvs))∨∃kvs,H p=some (.dT kvs)))∨(T="set"/\∃S n,H p=some (.set S n))
 |_=>False
theorem ya{ag:List (F9×Obj)}{σ:St}{H:Hp}{s:F1}{T:String}{x:V}{v:u8}(I:Inv X ag σ H s) (r:aL x v) (ty:tyV X.K T x H) :
  s.TypeIs v T/\∀a,v=.ref a->∃ob,s.heap.get? a=some ob/\ob.dict=none:=by
 cases x with
 |str z =>
  obtain⟨t,rfl⟩:=r;cases(show T="str" from ty);exact⟨typeIs_str s z t,fun _ e=>nomatch e⟩
 |int i =>
  obtain⟨t,rfl⟩:=r;cases(show T="int" from ty);exact⟨aa7 s i t,fun _ e=>nomatch e⟩
 |ref p =>
  cases r;rcases ty with⟨rfl,xs,hq⟩|⟨rfl,o,hk,hc,hd⟩|⟨rfl,hk⟩|⟨rfl,S,n,hk⟩
  ·obtain⟨its,_,pl,_⟩:=I.list hq;refine⟨pl.isList.typeIs,fun a e=>?_⟩;cases e;obtain⟨o,n,e,c,hd,_⟩:=pl;exact⟨o,e,hd⟩
  ·refine⟨⟨o,I.kIn p o hk,hc⟩,fun a e=>?_⟩;cases e;exact⟨o,I.kIn _ o hk,hd⟩
  ·have z:∃o,s.heap.get? p=some o/\o.ExactDict:=by
    rcases hk with⟨kvs,hk⟩|⟨kvs,hk⟩
    ·obtain⟨_,_,_,_,o,_,_,e,ex,_⟩:=I.hok p _ hk;exact⟨o,e,ex⟩
    ·obtain⟨_,_,_,_,o,_,_,e,ex,_⟩:=I.hok p _ hk;exact⟨o,e,ex⟩
   obtain⟨o,e,ex⟩:=z;refine⟨⟨o,e,ex.1⟩,fun a e2=>?_⟩;cases e2;exact⟨o,e,ex.2.1⟩
  ·obtain⟨o,_,_,_,e,ex,_⟩:=I.hok p _ hk;refine⟨⟨o,e,ex.1⟩,fun a e2=>?_⟩;cases e2;exact⟨o,e,ex.2.1⟩
 |_=>exact U3 ty
def FO(K:o0) (T:String) (r:V->List V->Hp->VK->Prop) (to:TE):TE:=fun σ H Q=>to σ H fun x H1=>tyV K T x H1/\r x [] H1 Q
def tBM(K:o0) (T:String) (r:V->List V->Hp->VK->Prop) (to:TE) (t:TA):TE:=fun σ H Q=>to σ H fun x H1=>tyV K T x H1/\t σ H1 fun xs H2=>r x xs H2 Q
variable{o e:J5}{es:List J5}{to:TE}{t:TA}{name:Str}{cp bq:Pos}{T id:String}{r:V->List V->Hp->VK->Prop}
theorem CM(pa:PlainAttrs T) (slot:Slot T name id) (hty:typeOf (.builtin id)=V2 (.type "method_descriptor")) (hm:MtR X id r) (ho:PE X o to)
  (eC:W3 o name X.env (T8 o X.env)=T8 o X.env:=by rfl) (eR:(cp.endLine==bq.line)=true:=by rfl):PE X (.Call (.Attribute o name cp) [] [] bq) (FO X.K T r to):=by
 intro ag s σ H Q I h;refine wpAny_Call_method0_late eC eR (thn (ho ag s σ H _ I h) fun v s1 ⟨x,H1,I1,r1,ty,q1⟩=>?_);obtain⟨h1,h2⟩:=ya I1 r1 ty;exact⟨T,id,pa,slot,hty,h1,h2,Calls.callWith_builtin rfl (PySem.evalArgs_none (hm ag s1 σ H1 x [] v [] Q I1 r1 .nil q1))⟩
theorem xp(pa:PlainAttrs T) (slot:Slot T name id) (hty:typeOf (.builtin id)=V2 (.type "method_descriptor")) (hm:MtR X id r) (ho:PE X o to) (ha:PA X (e::es) t)
  (eC:W3 o name X.env (T8 o X.env)=T8 o X.env:=by rfl)
  (lb:((U6 bq (J1 (e :: es) X.env)).all (fun x => !x.1) && (backToKw bq (ab5 [] X.env)).all (fun x => x.1.isSome)
  &&decide ((e::es).length+([]:List ab6).length+(if([]:List ab6).isEmpty then 0 else 1)<30))=true:=by rfl)
  (eR:(cp.endLine==bq.line)=true:=by rfl) (hs:J1 (e::es) X.env=(false,T8 e X.env)::J1 es X.env:=by rfl) (iC:(U6 bq (J1 es X.env)).any (·.1)=false:=by rfl) :
  PE X (.Call (.Attribute o name cp) (e::es) [] bq) (tBM X.K T r to t):=by
 intro ag s σ H Q I h;refine wpAny_Call_method_late eC lb eR rfl (thn (ho ag s σ H _ I h) fun v s1 ⟨x,H1,I1,r1,ty,q1⟩=>?_);obtain⟨h1,h2⟩:=ya I1 r1 ty;refine⟨T,id,pa,slot,hty,h1,h2,?_⟩;have hA:=ha bq ag s1 σ H1 _ I1 q1;rw[hs]at hA ⊢;refine Calls.callWith_builtin (by show(false || (U6 bq (J1 es X.env)).any (·.1))=false;rw[iC]<;>rfl) (Calls.evalArgs_plain ?_);exact thn hA fun us s2 hup=>hup.el fun vs H2 I2 r2 q2=>hm ag s2 σ H2 x vs v us Q I2 r1 r2 q2
end
def MtM(X:Cx) (id:String) (r:V->List V->Hp->VK->Prop):Prop :=
 ∀(ag:List (F9×Obj)) (s:F1) (σ:St) (H:Hp) (x:V) (xs:List V) (v:u8) (us:List u8) (Q:VK),Inv X ag σ H s->aL x v->aB xs us->r x xs H Q ->
  J4 (K3 X.prog X.w) X.A (call (.builtin id) (v::us)) (EP X ag σ Q) X.xe s
theorem aB.un{x:V}{xs:List V}{us:List u8}(h:aB (x::xs) us):∃u vs,us=u::vs/\aL x u/\aB xs vs:=by
 cases h with
 |cons r t=>exact⟨_,_,rfl,r,t⟩
theorem aB.one{x:V}{us:List u8}(h:aB [x] us):∃u,us=[u]/\aL x u:=by
 obtain⟨u,vs,rfl,r,t⟩:=h.un;cases t;exact⟨u,rfl,r⟩
theorem aB.two{x y:V}{us:List u8}(h:aB [x,y] us):∃u v,us=[u,v]/\aL x u/\aL y v:=by
 obtain⟨u,vs,rfl,r,t⟩:=h.un;obtain⟨v,rfl,q⟩:=t.one;exact⟨u,v,rfl,r,q⟩
theorem aB.zero:∀{us:List u8},aB [] us->us=[]
 |_,.nil=>rfl
theorem aB.dropLast{xs:List V}{us:List u8}(h:aB xs us):aB xs.dropLast us.dropLast:=by
 induction h with
 |nil=>exact .nil
 |cons r t ih =>
  cases t with
  |nil=>exact .nil
  |cons q t'=>exact .cons r ih
theorem aB.reverse{xs:List V}{us:List u8}(h:aB xs us):aB xs.reverse us.reverse:=by
 induction h with
 |nil=>exact .nil
 |cons r t ih=>rw[V4,V4];exact aB.append ih (.cons r .nil)
theorem aB.rep{xs:List V}{us:List u8}(h:aB xs us):∀k:Nat,aB (J0 k xs).flatten (J0 k us).flatten
 |0=>.nil
 |k+1=>by
  rw[O8,O8,R9,R9];exact aB.append h (aB.rep h k)
theorem tq{α:Type}(l:List α):l.eraseIdx (l.length-1)=l.dropLast:=by
 induction l with
 |nil=>rfl
 |cons a r ih =>
  cases r with
  |nil=>rfl
  |cons b r =>
   have e:(a::b::r).length-1=((b::r).length-1)+1:=by
    have h1:(a::b::r).length=r.length+2:=rfl;have h2:(b::r).length=r.length+1:=rfl
    lia
   rw[e,List.eraseIdx_cons_succ,ih]
   all_goals rfl
theorem jM(its:List u8):∀(k:Nat) (acc:List u8),
  ac4 (fun x1 x2=>x1++x2) acc.toArray (J0 k its.toArray)=(acc++(J0 k its).flatten).toArray
 |0,acc=>by simp
 |k+1,acc=>by
  have e:acc.toArray++its.toArray=(acc++its).toArray:=by simp
  have e2:(acc++its)++(J0 k its).flatten=acc++(J0 (k+1) its).flatten:=by
   rw[O8,R9,List.append_assoc]
  rw[<-e2,<-jM its k (acc++its),<-e,O8,List.foldl_cons]
section
variable{X:Cx}{ag:List (F9×Obj)}{σ:St}{H:Hp}{s:F1}{l b:F9}{xs ys zs:List V}
theorem Inv.lset{its its':List u8}{n:Nat}{f:Array u8->Array u8}{t':Nat}(I:Inv X ag σ H s) (hH:H l=some (.lst xs))
  (e:s.heap.get? l=some { cls:=.type "list",data:=.seq its.toArray n }) (hf:f its.toArray=its'.toArray) (hv:aB ys its') (hz:ys.length<=F2) :
  Inv X ag σ (upd H l (.lst ys)) { s with heap:=s.heap.update l (aa6 f),toks:=t' }:=by
 have q:=PySem.IsL.update e f;rw[hf]at q;refine I.write (x:=l) (e:=l) (by rw[hH];exact trivial) (.inl rfl) (fun b' u hb hu=>(K4.get?_update_other s.heap (aa6 f) (W6 hb)).trans hu) ⟨_,q⟩ ?_;exact⟨hz,its',_,hv,q⟩
theorem Inv.lnew{its:List u8}{t':Nat}(I:Inv X ag σ H s) (hv:aB ys its) (hz:ys.length<=F2) :
  Inv X ag σ (upd H s.heap.objs.size (.lst ys)) { s with heap:=s.heap.push { cls:=.type "list",data:=.seq its.toArray },toks:=t' } :=
 I.laid (fun _ _ q=>F0 _ q) (F6 _) ⟨hz,its,0,hv,F7 _ rfl⟩
theorem Inv.fresh(I:Inv X ag σ H s):H s.heap.objs.size=none:=I.hok.fresh (F6 _)
theorem Inv.lstM(I:Inv X ag σ H s) (hH:H l=some (.lst xs)):xs.length<=F2/\∃(its:List u8) (n:Nat),aB xs its/\xs.length=its.length/\s.heap.get? l=some { cls:=.type "list",data:=.seq its.toArray n }:=by
 obtain⟨z,its,n,r,e⟩:=I.hok l _ hH;exact⟨z,its,n,r,r.length,e⟩
theorem qt{n:Nat}(h:n<=F2):S0 n=false:=by
 unfold S0;exact decide_eq_false (by lia)
end
section
variable{X:Cx}
def uD:V->List V->Hp->VK->Prop:=fun x vs H Q=>∃l xs y,x=.ref l/\vs=[y]/\H l=some (.lst xs)/\xs.length<F2/\Q .non (upd H l (.lst (xs++[y])))
theorem uX:MtM X "list.append" uD:=by
 intro ag s σ H x vs v us Q I rx rv h;obtain⟨l,xs,y,rfl,rfl,hH,hz,q⟩:=h;cases rx;obtain⟨u,rfl,ru⟩:=rv.one;obtain⟨z,its,n,r,hl,e⟩:=I.lstM hH;refine W5 F.slot_list_append ⟨_,e,rfl⟩ F.entry_list_append (F.args_list_append_2 _ _) (PySem.list_append l its.toArray n u (by rw[F3];lia)) ⟨e,?_⟩;refine⟨.non,_,I.lset (its':=its++[u]) hH e (by simp) (r.append (.cons ru .nil)) ?_,rfl,q⟩;rw[L8,List.length_singleton]
 lia
def tI:V->List V->Hp->VK->Prop:=fun x vs H Q=>∃l b xs zs,x=.ref l/\vs=[.ref b]/\H l=some (.lst xs)/\H b=some (.lst zs)/\xs.length+zs.length<=F2/\Q .non (upd H l (.lst (xs++zs)))
theorem vS:MtM X "list.extend" tI:=by
 intro ag s σ H x vs v us Q I rx rv h;obtain⟨l,b,xs,zs,rfl,rfl,hH,hB,hz,q⟩:=h;cases rx;obtain⟨u,rfl,ru⟩:=rv.one;cases ru;obtain⟨z,its,n,r,hl,e⟩:=I.lstM hH;obtain⟨z2,its2,n2,r2,hl2,e2⟩:=I.lstM hB;have hsz:its.toArray.size+its2.toArray.size<=F2:=by rw[F3,F3];lia
 have hlong:¬ (!its.toArray.isEmpty&&S0 (its.toArray.size+its2.toArray.size))=true:=by
  rw[qt hsz,Bool.and_false];exact L4
 refine W5 F.slot_list_extend ⟨_,e,rfl⟩ F.entry_list_extend (F.args_list_extend_2 _ _)
  (AutoSeq1.list_extend_list_list_0 l its.toArray n b its2.toArray n2 hlong (by rw[F3];lia) (by lia)) ⟨e,e2,?_⟩
 refine⟨.non,_,I.lset (its':=its++its2) hH e (by simp) (r.append r2) ?_,rfl,q⟩;rw[L8]
 lia
def Et:V->List V->Hp->VK->Prop:=fun x vs H Q=>∃l xs y,x=.ref l/\vs=[]/\H l=some (.lst xs)/\xs[xs.length-1]?=some y/\Q y (upd H l (.lst xs.dropLast))
theorem Bt:MtM X "list.pop" Et:=by
 intro ag s σ H x vs v us Q I rx rv h;obtain⟨l,xs,y,rfl,rfl,hH,hy,q⟩:=h;cases rx;have hus:=rv.zero;subst hus;obtain⟨z,its,n,r,hl,e⟩:=I.lstM hH;obtain⟨u,hu,ru⟩:=r.get hy;have hy':its.toArray[its.toArray.size-1]?=some u:=by
  show its.toArray[its.length-1]?=some u;rw[<-Array.getElem?_toList,<-hl];exact hu
 refine W5 F.slot_list_pop ⟨_,e,rfl⟩ F.entry_list_pop (F.args_list_pop_1 _) (MeetsSeq.list_pop_last l its.toArray n u hy' (by rw[F3];lia)) ⟨e,?_⟩;refine⟨y,_,I.lset (its':=its.dropLast) hH e ?_ r.dropLast ?_,ru,q⟩
 ·show its.toArray.eraseIdxIfInBounds (its.toArray.size-1)=its.dropLast.toArray;rw[F3,List.eraseIdxIfInBounds_toArray,tq]
 ·rw[List.length_dropLast]
  lia
def Fp:R2:=fun x y H Q=>∃l b xs zs,x=.ref l/\y=.ref b/\H l=some (.lst xs)/\H b=some (.lst zs)/\xs.length+zs.length<=F2/\∀p,H p=none->Q (.ref p) (upd H p (.lst (xs++zs)))
theorem wk:OpR X (P2 .Add) Fp:=by
 intro ag s σ H x y v u Q I rx ry h;obtain⟨l,b,xs,zs,rfl,rfl,hH,hB,hz,q⟩:=h;cases rx;cases ry;obtain⟨z,its,n,r,hl,e⟩:=I.lstM hH;obtain⟨z2,its2,n2,r2,hl2,e2⟩:=I.lstM hB;refine PySem.P.add_list e e2 ?_ (by rw[F3,F3];lia);have ea:its.toArray++its2.toArray=(its++its2).toArray:=by simp
 rw[ea];exact⟨.ref _,_,I.lnew (t':=s.toks) (r.append r2) (by rw[L8];lia),rfl,q _ I.fresh⟩
def E7:R2:=fun x y H Q=>∃l k xs,x=.ref l/\y=.int k/\H l=some (.lst xs)/\-(2 ^ 63)<=k/\k<2 ^ 63/\xs.length*k.toNat<=F2 /\
 ∀p,H p=none->Q (.ref p) (upd H p (.lst (J0 k.toNat xs).flatten))
theorem pI{α:Type}(xs:List α) (k:Nat):(J0 k xs).flatten.length=k*xs.length:=by
 induction k with
 |zero=>simp
 |succ k ih=>rw[O8,R9,L8,ih,Nat.succ_mul,Nat.add_comm]
theorem BM:OpR X (P2 .Mult) E7:=by
 intro ag s σ H x y v u Q I rx ry h;obtain⟨l,k,xs,rfl,rfl,hH,h1,h2,hz,q⟩:=h;cases rx;obtain⟨t,rfl⟩:=ry;obtain⟨z,its,n,r,hl,e⟩:=I.lstM hH;have bG:its.toArray.size*k.toNat<=F2:=by rw[F3,<-hl];exact hz
 have hcap:¬ its.toArray.size*k.toNat > (2 ^ 63-1) / 8:=by
  have:(F2:Nat)<=(2 ^ 63-1) / 8:=by decide
  lia
 have hfit:¬ (!Builtin.List.listFitsIndex k)=true:=by
  rw[fitsIndex_both h1 h2];exact L4
 have hlong:¬ S0 (its.toArray.size*k.toNat)=true:=by
  rw[qt bG];exact L4
 have hnew:ac4 (fun x1 x2=>x1++x2) #[] (J0 (if its.toArray.isEmpty=true then 0 else k.toNat) its.toArray)=(J0 k.toNat its).flatten.toArray:=by
  have f0:∀m:Nat,ac4 (fun x1 x2=>x1++x2) #[] (J0 m its.toArray)=(J0 m its).flatten.toArray:=fun m=>by
   have:=jM its m [];rw[List.nil_append]at this;exact this
  rw[f0];cases its with
  |nil=>simp
  |cons a r'=>rw[if_neg (by simp)]
 refine wpAny_binaryOp_repeat_ref (T:="list") (U:="int") (by decide) ⟨_,e,rfl⟩ (fun s'=>aa7 s' k t) noFill_list_mul F.fills_int_mul X3 repeat_list F.slot_int_index.lookup
  (W5 X3 (aa7 s k t) F.entry_int_rmul (F.args_int_rmul_2 _ _) (int___rmul___int_list k t l its.toArray n)
   ⟨e,rfl,⟨_,e,rfl⟩,W5 F.slot_list_mul ⟨_,e,rfl⟩ F.entry_list_mul (F.args_list_mul_2 _ _) (AutoListH.list___mul___list_int_3 l its.toArray n k t hfit hcap hlong) ⟨e,?_⟩⟩)
 rw[hnew];exact⟨.ref _,_,I.lnew (t':=s.toks) (r.rep k.toNat) (by rw[pI,Nat.mul_comm];exact hz),rfl,q _ I.fresh⟩
end
section
variable{prog:L5}{w:P6}{A:N3}{E:u8->F1->Prop}{s:F1}
theorem sv{a c n:Nat}(hac:a<=c) (hc:c<=n):T3 (some (a:Int)) (some (c:Int)) none n=((a:Int),(c:Int),1):=by
 simp only[T3,Option.getD_none];have h1:¬ ((a:Int)<0):=by lia
 have h2:¬ ((c:Int)<0):=by lia
 simp only[h1,h2,if_false,show(1:Int) > 0 by decide,if_true];congr 1
 ·lia
 ·congr 1;lia
end
end L2
namespace Att
open PySem PySem.W PySem.Calls PyProof.Rows
theorem kO{P:Params}{h:K4}:∀(ns:List Int) (vs:List u8),WellAll P h vs (ns.map WData.int)->IntsAre vs ns:=by
 intro ns
 induction ns with
 |nil =>
  intro vs w;rw[List.map_nil]at w;cases w;exact .nil
 |cons n ns ih =>
  intro vs w;rw[N7]at w;cases w with
  |cons a b =>
   cases a;exact .cons _ _ (ih _ b)
theorem ve{l:OpenLaw}{n:Nat}(hn:l.most=some n) {P:Params}{h:K4}{args:List WData}{vals:List u8}
  (hpre:l.row.toRowW.claim.pre args=true) (hwl:WellAll P h vals args) :
  ∃a vs ns,vals=[P8 a]/\args=[WData.list (ns.map WData.int)]/\h.get? a=some { cls:=.type "list",data:=.seq vs.toArray }/\IntsAre vs ns/\ns.length<=n:=by
 have hsh:WShape.hasAll [] args [.list .int]=true:=(pre_splitW hpre).1;have hc:l.pre.holds [] { args:=args }=true:=(pre_splitW hpre).2;obtain⟨d,r,rfl,h1,h2⟩:=hasAllW_cons hsh;obtain rfl:=hasAllW_nil h2;obtain⟨xs,rfl,h3⟩:=hasW_list h1;obtain⟨ns,rfl⟩:=items_int h3;have bG:ns.length<=n:=by
  unfold OpenLaw.pre at hc;have h4:(WTm.not (.lt (.lit (.int (n:Int))) (.len (.arg 0)))).holds [] { args:=[.list (ns.map .int)] }=true:=by
   have h4:=(holds_andW hc).1;rw[hn]at h4;exact h4
  have h5:=condW_of h4 (w_not (w_lt w_lit (w_len_list (w_arg rfl))));rw[X0]at h5;refine Nat.le_of_not_lt fun q=>?_;have q':(n:Int)<((ns.length:Nat):Int):=by lia
  first
   |(rw[decide_eq_true q']at h5;exact absurd h5 (by decide))
   |(simp at h5;lia)
 cases hwl with
 |cons w1 w2 =>
  cases w2;cases w1 with
  |list ho hall=>exact⟨_,_,ns,rfl,rfl,ho,kO ns _ hall,bG⟩
theorem vU(l:OpenLaw) (args:List WData):l.row.toRowW.claim.post args (.bool true) args=true :=
 postW_of (r:=l.row.toRowW) (X:=(true==true))
  (show WShape.has [] (.bool true) .bool=true by first|rfl|decide|simp[WShape.has,WShape.arms,WShape.armsAll])
  (show(WTm.eq .res (.lit (.bool true))).value [] { args:=args,res:=some (.bool true),after:=args }=some (.bool (true==true))from w_eq_bool (w_res rfl) w_lit) rfl
section
variable{prog:L5}{w:P6}{A:N3}{E:u8->F1->Prop}{s:F1}{K:Frag}
def noObjs(h:K4):K4:={ h with objs:=#[] }
theorem noObjs_get(h:K4) (b:F9):(noObjs h).get? b=none:=by
 cases e:(noObjs h).get? b with
 |none=>rfl
 |some o=>exact absurd (F5 e) (Nat.not_lt_zero _)
theorem fr_all{h:K4}{L:F9}{m:Str->Option u8}(n:h.Ns L m):Fr (noObjs h) L h m :=
 ⟨n,fun b o e=>(by rw[noObjs_get]at e;cases e),R4 _⟩
end
end Att
namespace L2
open PySem PySem.Spec PyProof.Rows
theorem nL:∀{vs:List u8}{ns:List Int},IntsAre vs ns->aB (ns.map V.int) vs
 |_,_,.nil=>.nil
 |_,_,.cons n t h=>.cons ⟨t,rfl⟩ (nL h)
end L2
/- THE LAST THEOREM (shape; LID,My.* are yours):
   My.Adr: a structure of the addresses that your layer names (classes,functions);My.Txt K t: a structure (Prop) of the equations over K;
   My.txt_mk:{K} {implicit addresses ..} (e1:nsIn K ab1 "law"=some (some (.ref f))) (e2:K.lookup f=some ⟨oc,od,.func (fnOf "law" "law" params body scope dV kV doc pm an cdv ct),sl⟩) (e3:codeIn K cdv "law"=true) ..:∃t,My.Txt K t
set_option maxRecDepth 100000 in
set_option maxHeartbeats 0 in
theorem PySem.Challenge.cw_LID_holds : PySem.Challenge.rw_LID.Holds := by
 w_on;o_law;k_head;(case hw=>w_witness2)
 k_fill
 refine L2.walk_of (l:=PySem.Challenge.rw_LID) (n:=63) (k:=40) (x:="script") (CX:=fun w=>..) (sp:=fun _=>My.sp_law) rfl (by decide) rfl ⟨rfl,by decide,by decide⟩ (fun w h Y=>PySem.W.kIn_of Y) ?F ?S ?C
 case F =>
  intro w mg fa h KX G hmg;have T:∃t,My.Txt (L2.KOf KX) t:=by
   dsimp only[L2.KOf]                          -- K must stand as «<heap const> w.params» for k_is
   refine' My.txt_mk ?e1 ?e2 ?e3 ..
   (case e1=>PySem.W.k_is)                    -- in the order: a name->its address->its object->its parts
   (case e2=>PySem.W.k_is)
   ..
  obtain⟨t,T⟩:=T;have e0:=hmg.symm.trans (PySem.W.mg_of KX G T.law);cases e0                                       -- fa is the law's own address;exact⟨_,fun s u=>.of_eq rfl,fun base kb nb=>My.law_fn T kb nb⟩     -- if «.of_eq rfl» comes too early: refine' ⟨_,?b,fun base kb nb=>My.law_fn T kb nb⟩;exact fun s u=>.of_eq rfl
 case S=>exact fun w H a ns hl hO hS=>..
 case C=>exact ..
(the tactic k_is has no namespace: write k_is) -/
namespace L2
open PySem PySem.Spec PyProof.Rows
def fU(s:aa2):Arguments:=match s with
 |.FunctionDef _ a _ _ _ _ _ _ _ _=>a
 |_=>{ posonlyargs:=[],args:=[],vararg:=none,kwonlyargs:=[],kw_defaults:=[],kwarg:=none,defaults:=[] }
def cY(s:aa2):List aa2:=match s with
 |.FunctionDef _ _ b _ _ _ _ _ _ _=>b
 |_=>[]
def ao(s:aa2):R0:=match s with
 |.FunctionDef _ _ _ _ _ _ sc _ _ _=>sc
 |_=>{ kind:=.function,names:=[],isGenerator:=false,isCoroutine:=false }
abbrev CX0:CXT:=fun _ _ _ _ _ _=>False
abbrev E0:XK:=fun _ _ _=>False
theorem DX{X:Cx}:sF CX0 X E0:=fun _ _ _ _ _ _ _ h=>h.elim
structure Fun(K:o0) (x qual:Str) (st:aa2) (f:F9) (fd:U8):Prop where
 ex:∃(oc:u8) (od:Option F9) (kV doc pm:u8) (an:Option F9) (cdv ct:u8) (osl:Array (Option u8)),
  fd=W0 x qual (fU st) (cY st) (ao st) .none kV doc pm an cdv ct/\K.lookup f=some ⟨oc,od,.func fd,osl⟩/\PySem.W.codeIn K cdv qual=true
 kp:U1 K (.ref f)=true
section
variable{P:L5}{w:P6}{K:o0}{mg:Str->Option u8}{base:K4}{f:F9}{fd:U8}
theorem Fun.ok{x qual:Str}{st:aa2}{f:F9}{fd:U8}{N ps:List Str}{k:Nat}{sp:Sp}(F:Fun K x qual st f fd) (S:az N ps (ao st)) (len:∀vs H Q E,sp vs H Q E->vs.length=ps.length)
  (hbody:∀ (cdv:u8) (A:N3) (outer:List Env) (s:F1) (H:Hp) (vs:List V) (Q:VK) (E:XK),cZ k (A.deeper (ab9 qual (ao st) s.heap.objs.size f cdv)) → sp vs H Q E →
   ∃t,PSs (oV CX0 P w K mg base N qual (ao st) f cdv A outer s H E).nox (cY st) t/\t { nx:=fun _ H'=>Q .non H',rt:=Q } (gd N vs) H):bj P w K mg base CX0 (k+1) f fd ps sp:=by
 obtain⟨oc,od,kV,doc,pm,an,cdv,ct,osl,rfl,lk,hcd⟩:=F.ex;refine A4 lk hcd S len fun A outer s H vs Q E hr hsp=>?_;obtain⟨t,h,q⟩:=hbody cdv A outer s H vs Q E hr hsp;exact⟨t,h.nox,q⟩
theorem Fun.binds{x qual:Str}{st:aa2}{f:F9}{fd:U8}{ps:List Str}(F:Fun K x qual st f fd)
  (h:∀(kV doc pm:u8) (an:Option F9) (cdv ct:u8) (us:List u8),us.length=ps.length->bindArgs (W0 x qual (fU st) (cY st) (ao st) .none kV doc pm an cdv ct) ⟨us,[]⟩=V2 (ps.zip us)):dZ K fd ps []:=by
 obtain⟨oc,od,kV,doc,pm,an,cdv,ct,osl,rfl,lk,hcd⟩:=F.ex;exact .all (h kV doc pm an cdv ct)
theorem wX{x qual:Str}{st:aa2}{f:F9}{oc:u8}{od an:Option F9}{osl:Array (Option u8)}{kV doc pm cdv ct:u8}(l:K.lookup f=some ⟨oc,od,.func (W0 x qual (fU st) (cY st) (ao st) .none kV doc pm an cdv ct),osl⟩)
  (c:PySem.W.codeIn K cdv qual=true) (k:U1 K (.ref f)=true):Fun K x qual st f (W0 x qual (fU st) (cY st) (ao st) .none kV doc pm an cdv ct):=⟨⟨oc,od,kV,doc,pm,an,cdv,ct,osl,rfl,l,c⟩,k⟩
end
theorem vB{n:Nat}(h:n<=1000):n<F2:=Nat.lt_of_le_of_lt h (by decide)
theorem cE{c A B:Prop} [Decidable c] (h1:c->A) (h2:¬ c->B):if c then A else B:=by
 by_cases h:c
 ·rw[if_pos h];exact h1 h
 ·rw[if_neg h];exact h2 h
section
variable{κ:Type} [DecidableEq κ]
noncomputable def iP(kvs:List (κ×V)) (k:κ):Option V:=(kvs.find? fun kv=>decide (kv.1=k)).map (·.2)
noncomputable def gq(kvs:List (κ×V)) (k:κ) (v:V):List (κ×V) :=
 if(kvs.any fun kv=>decide (kv.1=k))=true then kvs.map (fun kv=>if kv.1=k then(kv.1,v)else kv)else kvs++[(k,v)]
def FT(kvs:List (κ×V)) (k:κ):List (κ×V):=kvs.filter fun kv=>decide (kv.1≠k)
theorem iZ{p:κ×V}{r:List (κ×V)}{k:κ}(e:p.1=k):iP (p::r) k=some p.2:=by simp[iP,Q0,e]
theorem jb{p:κ×V}{r:List (κ×V)}{k:κ}(e:¬ p.1=k):iP (p::r) k=iP r k:=by simp[iP,Q0,e]
theorem pP(k:κ):∀kvs:List (κ×V),(kvs.any fun kv=>decide (kv.1=k))=(iP kvs k).isSome
 |[]=>rfl
 |p::r=>by
  rw[O9]
  by_cases e:p.1=k
  ·simp only[iZ e,decide_eq_true e,Bool.true_or,Option.isSome_some]
  ·rw[jb e,decide_eq_false e,Bool.false_or];exact pP k r
theorem gL(kvs:List (κ×V)) (k:κ) (v:V):(gq kvs k v).length<=kvs.length+1:=by
 unfold gq
 split
 ·rw[X0];lia
 ·rw[L8,S8,W8];lia
theorem kL.isSome_eq{o:Option V}{u:Option u8}(r:kL o u):o.isSome=u.isSome:=by
 cases o with
 |none=>cases u with
  |none=>rfl
  |some _=>exact(show False from r).elim
 |some _=>cases u with
  |none=>exact(show False from r).elim
  |some _=>rfl
theorem kL.getD{o:Option V}{u:Option u8}{d:V}{d':u8}(r:kL o u) (rd:aL d d'):aL (o.getD d) (u.getD d'):=by
 cases o with
 |none=>cases u with
  |none=>exact rd
  |some _=>exact(show False from r).elim
 |some _=>cases u with
  |none=>exact(show False from r).elim
  |some _=>exact r
theorem KV.val{kvs:List (κ×V)}{vs:List (κ×u8)}(r:KV kvs vs) (k:κ):kL (iP kvs k) (ac5 vs k):=by
 unfold KV at r
 induction r with
 |nil=>exact aa8
 |@cons p q ps qs h t ih =>
  obtain⟨h1,h2⟩:=h
  by_cases e:p.1=k
  ·have e':q.1=k:=h1.symm.trans e;have b:ac5 (q::qs) k=some q.2:=by simp[ac5,Q0,e']
   rw[iZ e,b];exact h2
  ·have e':¬ q.1=k:=fun z=>e (h1.trans z);have b:ac5 (q::qs) k=ac5 qs k:=by simp[ac5,Q0,e']
   rw[jb e,b];exact ih
theorem KV.any{kvs:List (κ×V)}{vs:List (κ×u8)}(r:KV kvs vs) (k:κ):(kvs.any fun kv=>decide (kv.1=k))=vs.any fun kv=>decide (kv.1=k):=by
 unfold KV at r
 induction r with
 |nil=>rfl
 |cons h t ih=>rw[O9,O9,ih,h.1]
theorem KV.repl{kvs:List (κ×V)}{vs:List (κ×u8)}(r:KV kvs vs) (k:κ) {y:V}{u:u8}(ry:aL y u) :
  KV (kvs.map fun kv=>if kv.1=k then(kv.1,y)else kv) (vs.map fun kv=>if kv.1=k then(kv.1,u)else kv):=by
 unfold KV at r ⊢
 induction r with
 |nil=>exact .nil
 |@cons p q ps qs h t ih =>
  rw[N7,N7];refine .cons ?_ ih;obtain⟨h1,h2⟩:=h
  by_cases e:p.1=k
  ·rw[if_pos e,if_pos (h1.symm.trans e)];exact⟨h1,ry⟩
  ·rw[if_neg e,if_neg (fun z=>e (h1.trans z))];exact⟨h1,h2⟩
theorem KV.put{kvs:List (κ×V)}{vs:List (κ×u8)}(r:KV kvs vs) (k:κ) {y:V}{u:u8}(ry:aL y u):KV (gq kvs k y) (stored vs k u):=by
 unfold gq stored;rw[r.any k]
 by_cases e:(vs.any fun kv=>decide (kv.1=k))=true
 ·rw[if_pos e,if_pos e];exact r.repl k ry
 ·rw[if_neg e,if_neg e];exact P5.snoc r ⟨rfl,ry⟩
theorem KV.length{kvs:List (κ×V)}{vs:List (κ×u8)}(r:KV kvs vs):kvs.length=vs.length:=W1 r
end
theorem tR{P:L5}{w:P6}{k:Key}{u:u8}(r:aL (kV k) u):(bE P w).is k u=true:=by
 cases k with
 |inl i=>obtain⟨t,e⟩:=(show ∃t,u=u8.int i t from r);subst e;exact qu P w i t
 |inr x=>obtain⟨t,e⟩:=(show ∃t,u=u8.str x t from r);subst e;exact rh P w x t
theorem nA{P:L5}{w:P6}:∀{ks:List Key}{us:List u8},aB (ks.map kV) us->ItemsAre (bE P w) ks us
 |[],_,r=>by rw[List.map_nil]at r;cases r;exact .nil
 |k::ks,_,r=>by
  rw[N7]at r;cases r with
  |cons h t=>exact .cons (tR h) (nA t)
abbrev KT(H:Hp):List (List Key×V)->List (List Key×F9×u8)->Prop:=P5 fun p q=>p.1=q.1/\H q.2.1=some (.tup (p.1.map kV))/\aL p.2 q.2.2
theorem KT.val{H:Hp}{kvs:List (List Key×V)}{xs:List (List Key×F9×u8)}(r:KT H kvs xs) (k:List Key):kL (iP kvs k) ((atKey xs k).map (·.2)):=by
 induction r with
 |nil=>exact aa8
 |@cons p q ps qs h t ih =>
  obtain⟨h1,_,h2⟩:=h
  by_cases e:p.1=k
  ·have e':q.1=k:=h1.symm.trans e;have b:atKey (q::qs) k=some q.2:=by simp[atKey,Q0,e']
   rw[iZ e,b];exact h2
  ·have e':¬ q.1=k:=fun z=>e (h1.trans z);have b:atKey (q::qs) k=atKey qs k:=by simp[atKey,Q0,e']
   rw[jb e,b];exact ih
theorem KT.repl{H:Hp}{kvs:List (List Key×V)}{xs:List (List Key×F9×u8)}(r:KT H kvs xs) (k:List Key) {y:V}{u:u8}(ry:aL y u) :
  KT H (kvs.map fun kv=>if kv.1=k then(kv.1,y)else kv) (xs.map (putAt k u)):=by
 induction r with
 |nil=>exact .nil
 |@cons p q ps qs h t ih =>
  rw[N7,N7];refine .cons ?_ ih;obtain⟨h1,h2,h3⟩:=h;unfold putAt
  by_cases e:p.1=k
  ·rw[if_pos e,if_pos (h1.symm.trans e)];exact⟨h1,h2,ry⟩
  ·rw[if_neg e,if_neg (fun z=>e (h1.trans z))];exact⟨h1,h2,h3⟩
theorem KT.put{H:Hp}{kvs:List (List Key×V)}{xs:List (List Key×F9×u8)}(r:KT H kvs xs) (k:List Key) {b:F9}{y:V}{u:u8}(hb:H b=some (.tup (k.map kV))) (ry:aL y u) :
  KT H (gq kvs k y) (storedH xs k b u):=by
 have e:(kvs.any fun kv=>decide (kv.1=k))=(atKey xs k).isSome:=by
  rw[pP,(r.val k).isSome_eq,Option.isSome_map]
 unfold gq storedH;rw[e]
 by_cases q:(atKey xs k).isSome=true
 ·rw[if_pos q,if_pos q];exact r.repl k ry
 ·rw[if_neg q,if_neg q];exact P5.snoc r ⟨rfl,hb,ry⟩
theorem KT.keeps{H H':Hp}{kvs:List (List Key×V)}{xs:List (List Key×F9×u8)}(r:KT H kvs xs) (ht:∀b ys,H b=some (.tup ys)->H' b=some (.tup ys)):KT H' kvs xs :=
 P5.mapP r fun _ _ z=>⟨z.1,ht _ _ z.2.1,z.2.2⟩
section
variable{P:L5}{w:P6}{H:Hp}{h:K4}{a:F9}
theorem A9{u:HO}(ok:HOk P w H h) (e:Rd H a u):br P w H h a u:=e.ok ok
theorem qh{kvs:List (Key×V)}(ok:HOk P w H h) (e:Rd H a (.dK kvs)):kvs.length<=F2/\(a==T6)=false/\∃vs,KV kvs vs/\h.DictOf (bE P w) a vs :=
 show br P w H h a (.dK kvs)from A9 ok e
theorem Do{kvs:List (Key×V)}(ok:HOk P w H h) (e:H a=some (.dK kvs)):kvs.length<=F2/\(a==T6)=false/\∃vs,KV kvs vs/\h.DictOf (bE P w) a vs:=qh ok (.inl e)
theorem mx{ks:List Key}(ok:HOk P w H h) (e:H a=some (.tup (ks.map kV))):(aa0 (bE P w)).is h ks a:=by
 obtain⟨_,its,r,o,h1,h2,⟨n,h3⟩,_⟩:=(show br P w H h a (.tup (ks.map kV))from ok a _ e);exact⟨o,its.toArray,n,h1,h2,h3,by simpa using nA r⟩
theorem qz{kvs:List (List Key×V)}(ok:HOk P w H h) (e:Rd H a (.dT kvs)):kvs.length<=F2/\(a==T6)=false /\
  ∃xs,KT H kvs xs/\h.DictOfH (aa0 (bE P w)) a xs:=by
 obtain⟨z,y,xs,r,o,es,ep,h1,h2,h3,h4,h5⟩:=(show br P w H h a (.dT kvs)from A9 ok e);refine⟨z,y,xs,r,o,es,ep,h1,h2,h3,h4,fun x hx=>?_,h5⟩;have all:∀{l:List (List Key×V)} {m:List (List Key×F9×u8)},KT H l m->∀x∈m,(aa0 (bE P w)).is h x.1 x.2.1:=by
  intro l m q
  induction q with
  |nil=>intro x hx;exact nomatch hx
  |@cons p q ps qs hq t ih =>
   intro x hx;rcases N5.mp hx with e|hx
   ·subst e;exact mx ok (by rw[<-hq.1];exact hq.2.1)
   ·exact ih x hx
 exact all r x hx
theorem A8{kvs:List (List Key×V)}(ok:HOk P w H h) (e:H a=some (.dT kvs)):kvs.length<=F2/\(a==T6)=false /\
  ∃xs,KT H kvs xs/\h.DictOfH (aa0 (bE P w)) a xs:=qz ok (.inl e)
end
def oT(H:Hp) (a:F9) (y:V) (r:Option V):Prop :=
 (∃kvs k,Rd H a (.dK kvs)/\y=kV k/\r=iP kvs k)∨∃kvs k b,Rd H a (.dT kvs)/\y=.ref b/\H b=some (.tup (k.map kV))/\r=iP kvs k
def we(H:Hp) (a:F9) (y v:V) (H':Hp):Prop :=
 (∃kvs k,H a=some (.dK kvs)/\y=kV k/\kvs.length<F2/\H'=upd H a (.dK (gq kvs k v))) ∨
 ∃kvs k b,H a=some (.dT kvs)/\y=.ref b/\H b=some (.tup (k.map kV))/\kvs.length<F2/\H'=upd H a (.dT (gq kvs k v))
theorem oT.t{H:Hp}{a b:F9}{kvs:List (List Key×V)}{k:List Key}(e:H a=some (.dT kvs)) (eb:H b=some (.tup (k.map kV))):oT H a (.ref b) (iP kvs k):=.inr ⟨kvs,k,b,.inl e,rfl,eb,rfl⟩
theorem we.t{H:Hp}{a b:F9}{kvs:List (List Key×V)}{k:List Key}{v:V}(e:H a=some (.dT kvs)) (eb:H b=some (.tup (k.map kV))) (hl:kvs.length<F2) :
  we H a (.ref b) v (upd H a (.dT (gq kvs k v))):=.inr ⟨kvs,k,b,e,rfl,eb,hl,rfl⟩
section
variable{X:Cx}{ag:List (F9×Obj)}{σ:St}{H:Hp}{s:F1}{a:F9}{y v:V}{u r:u8}{o:Option V}{A:N3}{E:u8->F1->Prop}
theorem Inv.big(I:Inv X ag σ H s):T6<s.heap.objs.size:=by
 have h:ab1<s.heap.objs.size:=(I.mod.glob.keeps I.bk).lt;exact Nat.lt_trans (by decide) h
theorem su{Q:u8->F1->Prop}(hu:A.units+1<Z9) (I:Inv X ag σ H s) (g:oT H a y (some v)) (ry:aL y u) (h:∀w' s',Inv X ag σ H s'->aL v w'->Q w' s') :
  J4 (K3 X.prog X.w) A (X1 (.ref a) u) Q E s:=by
 rcases g with⟨kvs,k,e,ey,l⟩|⟨kvs,k,b,e,ey,eb,l⟩
 ·subst ey;obtain⟨z,hd,vs,rel,dd⟩:=qh I.hok e;obtain⟨w',hw,rw'⟩:=kL.some_of (v:=v) (o:=ac5 vs k) (by rw[l];exact rel.val k);exact wpAny_getItem_of (tR ry) dd.mapOf hw (h w' _ (I.tok _) rw')
 ·subst ey;cases(show u=P8 b from ry);obtain⟨z,hd,xs,rel,dd⟩:=qz I.hok e;obtain⟨w',hw,rw'⟩:=kL.some_of (v:=v) (o:=(atKey xs k).map (·.2)) (by rw[l];exact rel.val k);obtain⟨p,hp,hp2⟩:=Option.map_eq_some_iff.mp hw;refine wpAny_getItem_heap (tupleKind_room_in1 hu) (mx I.hok eb) dd hp ?_;rw[hp2];exact h w' _ (I.tok _) rw'
theorem gQ{h':K4}{t':Nat}{ob:HO}(I:Inv X ag σ H s) (mu:Mut (H a)) (hs:N8 a s.heap h') (he:∃q,h'.get? a=some q) (new:br X.prog X.w (upd H a ob) h' a ob) :
  Inv X ag σ (upd H a ob) { s with heap:=h',toks:=t' } :=
 I.write (x:=a) (e:=a) mu (.inl rfl) (fun b q hb z=>(hs.2 b hb).trans z) he new
theorem CB{P:L5}{w:P6}{H':Hp}{h':K4}{kvs:List (Key×V)}{vs:List (Key×u8)}(z:kvs.length<=F2) (hd:(a==T6)=false) (rel:KV kvs vs) (dd:h'.DictOf (bE P w) a vs) :
  br P w H' h' a (.dK kvs):=⟨z,hd,vs,rel,dd⟩
theorem sy{H':Hp}{Q:Unit->F1->Prop}(hu:A.units+1<Z9) (I:Inv X ag σ H s) (g:we H a y v H') (ry:aL y u) (rv:aL v r) (h:∀s',Inv X ag σ H' s'->Q () s') :
  J4 (K3 X.prog X.w) A (setItem (.ref a) u r) Q E s:=by
 rcases g with⟨kvs,k,e,ey,l,eH⟩|⟨kvs,k,b,e,ey,eb,l,eH⟩
 ·subst ey eH;obtain⟨z,hd,vs,rel,dd⟩:=Do I.hok e;have hz:vs.length<=F2:=by rw[<-rel.length];exact z
  have hl:(gq kvs k v).length<=F2:=by have:=gL kvs k v;lia
  refine wpAny_setItem_pairs (hsz:=hz) (tR ry) dd fun h' dd' hs=>h _ ?_;have he:∃q,h'.get? a=some q:=let⟨q,_,_,hq,_⟩:=dd';⟨q,hq⟩
  exact gQ I (by rw[e];exact aa8) hs he (CB hl hd (rel.put k rv) dd')
 ·subst ey eH;cases(show u=P8 b from ry);obtain⟨z,hd,xs,rel,dd⟩:=A8 I.hok e;have hz:xs.length<=F2:=by rw[<-W1 rel];exact z
  have hl:(gq kvs k v).length<=F2:=by have:=gL kvs k v;lia
  refine wpAny_setItem_heap (hsz:=hz) (tupleKind_room_in1 hu) (mx I.hok eb) dd fun h' dd' hs=>h _ ?_;obtain⟨q,es,ep,hq,h2,h3,h4,_,h5⟩:=dd';refine gQ I (by rw[e];exact aa8) hs ⟨q,hq⟩ ⟨hl,hd,_,(rel.put k eb rv).keeps fun c ys ec=>?_,q,es,ep,hq,h2,h3,h4,h5⟩;rw[aA (Bb ec e (fun z=>nomatch z))];exact ec
end
def CO(i:J5):Prop:=∀ov iv,ab4 i false ov iv=operate [ov,iv] (X1 ov iv)
theorem zH{prog:L5}{w:P6}{A:N3}{E:u8->F1->Prop}{s:F1}{env:Env}{value slice:J5}{pos:Pos}{T id:String}{Q:u8->F1->Prop}
  (hl:typeLookup (.type T) "__getitem__"=V2 (some (.builtin id))) (hs:CO slice)
  (h:J4 (K3 prog w) A (T8 value env) (fun o s₁=>J4 (K3 prog w) A (T8 slice env) (fun i s₂=>s₂.TypeIs o T/\J4 (K3 prog w) A (X1 o i) Q E s₂) E s₁) E s) :
  J4 (K3 prog w) A (T8 (.Subscript value slice pos) env) Q E s:=by
 refine ac3 (M8 h (fun o s₁ h₁=>M8 h₁ (fun i s₂ h₂=>?_) fun _ _ x=>x) fun _ _ x=>x);obtain⟨hT,h₂⟩:=h₂;unfold subscriptTail;refine s0 ?_;rw[getitemInPython_of_ne hT.not_modules];refine s0 (X4 hT hl ?_);have fin:J4 (K3 prog w) A (ab4 slice false o i) (fun r s₃=>J4 (K3 prog w) A (letTemporaryGo value o r >>= fun _=>V2 r) Q E s₃) E s₂:=by
  rw[hs o i];exact wpAny_operating (M8 h₂ (fun r s₃ h₃=>s0 (wpAny_letTemporaryGo (F4 h₃))) fun _ _ x=>x)
 first
  |exact F4 (s0 fin)
  |exact s0 (F4 (s0 fin))
  |exact s0 fin
theorem qi{X:Cx}{ag:List (F9×Obj)}{σ:St}{H:Hp}{s:F1}{a:F9}{y:V}{o:Option V}(I:Inv X ag σ H s) (g:oT H a y o):s.TypeIs (.ref a) "dict":=by
 rcases g with⟨kvs,k,e,_,_⟩|⟨kvs,k,b,e,_,_,_⟩
 ·obtain⟨_,_,vs,_,dd⟩:=qh I.hok e;exact dd.typeIs
 ·obtain⟨_,_,xs,_,dd⟩:=qz I.hok e;exact dd.typeIs
def Dx(td ty:TE):TE:=fun σ H Q=>td σ H fun x H1=>ty σ H1 fun y H2=>∃a v,x=.ref a/\oT H2 a y (some v)/\Q v H2
def EL(td ty tv:TE):TS:=fun D σ H=>tv σ H fun v H1=>td σ H1 fun x H2=>ty σ H2 fun y H3=>∃a H4,x=.ref a/\we H3 a y v H4/\D.nx σ H4
section
variable{X:Cx}{o i e value:J5}{pos pos' tpos:Pos}{td ty tv:TE}
theorem Ae(hu:X.A.units+1<Z9) (ho:PE X o td) (hi:PE X i ty) (hs:CO i):PE X (.Subscript o i pos) (Dx td ty):=by
 intro ag s σ H Q I h;refine zH PySem.F.slot_dict_getitem.lookup hs (thn (ho ag s σ H _ I h) fun u s1 hup=>hup.el fun x H1 I1 rx q1=>thn (hi ag s1 σ H1 _ I1 q1) fun iv s2 ⟨y,H2,I2,ry,a,v,ex,g,q2⟩=>?_);subst ex;obtain rfl:u=P8 a:=rx;exact⟨qi I2 g,su hu I2 g ry fun w' s3 I3 rw'=>⟨v,H2,I3,rw',q2⟩⟩
theorem zz(hu:X.A.units+1<Z9) (ho:PE X o td) (hi:PE X i ty) (hv:PE X value tv) (hs:V9 value (some (.Subscript o i pos')) pos.line X.env=V2 false) :
  PS X (.Assign [.Subscript o i pos'] value pos) (EL td ty tv):=by
 intro ag s σ H D I h;refine wpAny_Assign_Subscript (thn (hv ag s σ H _ I h) fun r s1 hup=>hup.el fun v H1 I1 rv q1=>thn (ho ag s1 σ H1 _ I1 q1) fun u s2 hup=>hup.el fun x H2 I2 rx q2=>thn (hi ag s2 σ H2 _ I2 q2) fun iv s3 ⟨y,H3,I3,ry,a,H4,ex,g,q3⟩=>?_) hs;subst ex;obtain rfl:u=P8 a:=rx;exact sy hu I3 g ry rv fun s4 I4=>⟨σ,H4,I4,q3⟩
end
theorem l9{P:L5}{w:P6}{H:Hp}(h:K4) (hb:T6<h.objs.size):br P w H (h.push { cls:=.type "dict",data:=.dict #[] }) h.objs.size (.dT []) :=
 ⟨R4 _,beq_eq_false_iff_ne.mpr (W6 (H0 hb)),[],.nil,_,#[],0,F7 _ rfl,⟨rfl,rfl,rfl⟩,rfl,rfl,List.nodup_nil⟩
def C0:TE:=fun _ H Q=>∀p,H p=none->Q (.ref p) (upd H p (.dT []))
section
variable{X:Cx}{pos:Pos}
theorem xP:PE X (.Dict [] [] pos) C0:=fun ag s σ H Q I h =>
 wpAny_Dict_empty ⟨.ref s.heap.objs.size,_,I.laid (a:=s.heap.objs.size) (o:=.dT []) (t':=s.toks) (fun _ _ q=>F0 _ q) (F6 _) (l9 s.heap I.big),rfl,h _ (I.hok.fresh (F6 _))⟩
end
structure M1(X:Cx) (o:J5) (m:Str) (cp:Pos) (e:J5) (bq:Pos):Prop where
 base:W3 o m X.env (T8 o X.env)=T8 o X.env
 few:((U6 bq (J1 [e] X.env)).all (fun x=>!x.1)&&(backToKw bq (ab5 [] X.env)).all (fun x=>x.1.isSome)
 &&decide (([e]:List J5).length+([]:List ab6).length+(if([]:List ab6).isEmpty then 0 else 1)<30))=true
 line:(cp.endLine==bq.line)=true
 trees:U6 bq (J1 [e] X.env)=[(false,T8 e X.env)]
structure M2(X:Cx) (o:J5) (m:Str) (cp:Pos) (e f:J5) (bq:Pos):Prop where
 base:W3 o m X.env (T8 o X.env)=T8 o X.env
 few:((U6 bq (J1 [e,f] X.env)).all (fun x=>!x.1)&&(backToKw bq (ab5 [] X.env)).all (fun x=>x.1.isSome)
 &&decide (([e,f]:List J5).length+([]:List ab6).length+(if([]:List ab6).isEmpty then 0 else 1)<30))=true
 line:(cp.endLine==bq.line)=true
 trees:U6 bq (J1 [e,f] X.env)=[(false,T8 e X.env),(false,T8 f X.env)]
def IsD(H:Hp) (a:F9):Prop:=(∃kvs,Rd H a (.dK kvs))∨∃kvs,Rd H a (.dT kvs)
theorem xR{X:Cx}{ag:List (F9×Obj)}{σ:St}{H:Hp}{s:F1}{a:F9}(I:Inv X ag σ H s) (d:IsD H a) :
  s.TypeIs (.ref a) "dict"/\(∀b,P8 a=.ref b->∃ob,s.heap.get? b=some ob/\ob.dict=none)/\(a==T6)=false:=by
 rcases d with⟨kvs,e⟩|⟨kvs,e⟩
 ·obtain⟨_,hd,vs,_,dd⟩:=qh I.hok e;refine⟨dd.typeIs,fun b q=>?_,hd⟩;cases q;obtain⟨ob,_,_,h1,h2,_⟩:=dd;exact⟨ob,h1,h2.2.1⟩
 ·obtain⟨_,hd,xs,_,dd⟩:=qz I.hok e;refine⟨dd.typeIs,fun b q=>?_,hd⟩;cases q;obtain⟨ob,_,_,h1,h2,_⟩:=dd;exact⟨ob,h1,h2.2.1⟩
section
variable{X:Cx}{ag:List (F9×Obj)}{σ:St}{H:Hp}{s:F1}{a:F9}{y d:V}{u r:u8}{o:Option V}{A:N3}{E:u8->F1->Prop}
theorem yP{Q:u8->F1->Prop}(hu:A.units+1<Z9) (I:Inv X ag σ H s) (g:oT H a y o) (ry:aL y u) (rd:aL d r) (h:∀w' s',Inv X ag σ H s'->aL (o.getD d) w'->Q w' s') :
  J4 (K3 X.prog X.w) A (call (.builtin "dict.get") [.ref a,u,r]) Q E s:=by
 rcases g with⟨kvs,k,e,ey,l⟩|⟨kvs,k,b,e,ey,eb,l⟩
 ·subst ey;obtain⟨z,hd,vs,rel,dd⟩:=qh I.hok e;refine call_meetsIn PySem.F.slot_dict_get dd.typeIs PySem.F.entry_dict_get (PySem.F.args_dict_get_3 _ _ _) (meets_dict_get_default (bE X.prog X.w) a (tR ry) hd r) ⟨_,dd.mapOf,h _ _ (I.tok _) ?_⟩;rw[l];exact(rel.val k).getD rd
 ·subst ey;cases(show u=P8 b from ry);obtain⟨z,hd,xs,rel,dd⟩:=qz I.hok e;refine call_meetsIn PySem.F.slot_dict_get dd.typeIs PySem.F.entry_dict_get (PySem.F.args_dict_get_3 _ _ _) (meetsH_dict_get_default (aa0 (bE X.prog X.w)) a b hd r) ⟨tupleKind_room_in1 hu,k,xs,mx I.hok eb,dd,h _ _ (I.tok _) ?_⟩;rw[l];exact(rel.val k).getD rd
end
def Bu(td ty tx:TE):TE:=fun σ H Q=>td σ H fun x H1=>∃a,x=.ref a/\IsD H1 a/\ty σ H1 fun y H2=>tx σ H2 fun z H3=>∃o,oT H3 a y o/\Q (o.getD z) H3
section
variable{X:Cx}{o e f:J5}{cp bq:Pos}{td ty tx:TE}
theorem wA(hu:X.A.units+1<Z9) (ho:PE X o td) (he:PE X e ty) (hf:PE X f tx) (m:M2 X o "get" cp e f bq):PE X (.Call (.Attribute o "get" cp) [e,f] [] bq) (Bu td ty tx):=by
 intro ag s σ H Q I h;refine wpAny_Call_method m.base m.few m.line PySem.F.plainAttrs_dict PySem.F.slot_dict_get PySem.F.type_dict_get (thn (ho ag s σ H _ I h) fun u s1 ⟨x,H1,I1,rx,a,ex,d,q1⟩=>?_);subst ex;obtain rfl:u=P8 a:=rx;obtain⟨t1,t2,_⟩:=xR I1 d;refine⟨t1,t2,?_⟩;rw[m.trees];refine Calls.callWith_builtin rfl (Calls.evalArgs_plain (Calls.spliced_cons (thn (he ag s1 σ H1 _ I1 q1) fun iv s2 hup=>hup.el fun y H2 I2 ry q2 =>
  Calls.spliced_cons (thn (hf ag s2 σ H2 _ I2 q2) fun fv s3 ⟨z,H3,I3,rz,ov,g,q3⟩=>Calls.spliced_nil ?_))))
 exact yP hu I3 g ry rz fun w' s4 I4 rw'=>⟨_,H3,I4,rw',q3⟩
end
noncomputable def aK(X:Cx) (scope:R0) (cl:List (Str×F9)) (N:List Str) (C:F9) (s:F1) (H:Hp) (ex:List F9):Cx where
 prog:=X.prog
 w:=X.w
 K:=X.K
 mg:=X.mg
 base:=X.base
 A:=X.A
 N:=N
 s₀:=s
 H₀:=H
 env:=ac8 scope cl C X.env
 outer:=X.stack
 stack:=X.stack
 ex:=ex
 calm:=X.calm
 fn:=fun _=>false
 pn:=[]
 xe:=fun _ _=>False
noncomputable def bJ:List Bool->St->St
 |true::ms,v::σ=>v::bJ ms σ
 |false::ms,_::σ=>none::bJ ms σ
 |[],_::σ=>none::bJ [] σ
 |_,[]=>[]
theorem bD:∀(ms:List Bool) (σ:St),(bJ ms σ).length=σ.length
 |true::ms,v::σ=>by simp[bJ,bD ms σ]
 |false::ms,_::σ=>by simp[bJ,bD ms σ]
 |[],_::σ=>by simp[bJ,bD [] σ]
 |[],[]=>by simp[bJ]
 |true::_,[]=>by simp[bJ]
 |false::_,[]=>by simp[bJ]
theorem hU:∀{ms:List Bool}{σ:St}{i:Nat}{v:V},(bJ ms σ)[i]?=some (some v)->ms[i]?=some true/\σ[i]?=some (some v)
 |true::ms,v::σ,0,x,h=>by simpa[bJ]using h
 |true::ms,v::σ,i+1,x,h=>by
  have:=hU (ms:=ms) (σ:=σ) (i:=i) (v:=x) (by simpa[bJ]using h);simpa using this
 |false::ms,_::σ,0,x,h=>by simp[bJ]at h
 |false::ms,_::σ,i+1,x,h=>by
  have:=hU (ms:=ms) (σ:=σ) (i:=i) (v:=x) (by simpa[bJ]using h);simpa using this
 |[],_::σ,0,x,h=>by simp[bJ]at h
 |[],_::σ,i+1,x,h=>by
  have:=hU (ms:=[]) (σ:=σ) (i:=i) (v:=x) (by simpa[bJ]using h);simpa using this
 |[],[],_,_,h=>by simp[bJ]at h
 |true::_,[],_,_,h=>by simp[bJ]at h
 |false::_,[],_,_,h=>by simp[bJ]at h
def dw(ms:List Bool) (k:Nat) (σ:St):St:=bJ ms σ++J0 k none
theorem nz{ms:List Bool}{k:Nat}{σ:St}{i:Nat}{v:V}(h:(dw ms k σ)[i]?=some (some v)):i<σ.length/\ms[i]?=some true/\σ[i]?=some (some v):=by
 unfold dw at h
 by_cases hi:i<(bJ ms σ).length
 ·rw[L9 hi]at h;exact⟨by rwa [bD]at hi,hU h⟩
 ·rw[Q4 (by lia),S5]at h
  split at h<;>cases h
structure cT(X:Cx) (scope:R0) (cl:List (Str×F9)) (ms:List Bool) (am:List Str):Prop where
 kind:scope.kind=.function
 ncell:∀y∈scope.names,y.2≠.cell
 names:∀y∈scope.names,y.2=.local->scope.names.lookup y.1=some .local
 clos:closureFor scope X.env=V2 cl
 sub:∀x c,cl.lookup x=some c->X.env.cells.lookup x=some c
 has:∀x,scope.names.lookup x=some .free->∃c,cl.lookup x=some c
 fr:∀x,scope.names.lookup x=some .free->X.env.scope.names.lookup x=some .cell∨X.env.scope.names.lookup x=some .free
 mask:∀(i:Nat) (x:Str),ms[i]?=some true->X.N[i]?=some x->scope.names.lookup x=some .free
 mlen:ms.length<=X.N.length
theorem i4{env:Env}:∀{names:List (Str×J9)}{x:Str}{k:J9},
  (names.map fun(n,k)=>if(k==K7&&env.scope.kind==.function&&env.kindOf n==some .cell)then(n,P0)else(n,k)).lookup x=some k->(∀y∈names,y.2≠.cell)->k=.cell∨k=.free->names.lookup x=some .free
 |[],_,_,h,_,_=>by simp at h
 |(n,k0)::r,x,k,h,hc,hk=>by
  have ih:=@i4 env r x k;have h:ab7 x ((if(k0==K7&&env.scope.kind==.function&&env.kindOf n==some .cell)=true then(n,P0)else(n,k0))::_)=some k:=h;cases hx:x==n with
  |true =>
   by_cases hq:(k0==K7&&env.scope.kind==.function&&env.kindOf n==some .cell)=true
   ·have:k0=.free:=by
     simp at hq;exact hq.1.1
    subst this;simp[J8,hx]
   ·rw[if_neg hq]at h;simp only[J8,hx]at h;cases h;rcases hk with rfl|rfl
    ·exact absurd rfl (hc (n,.cell) M0)
    ·simp[J8,hx]
  |false =>
   by_cases hq:(k0==K7&&env.scope.kind==.function&&env.kindOf n==some .cell)=true
   ·rw[if_pos hq]at h;simp only[J8,hx]at h ⊢;exact ih h (fun y hy=>hc y (K8 _ hy)) hk
   ·rw[if_neg hq]at h;simp only[J8,hx]at h ⊢;exact ih h (fun y hy=>hc y (K8 _ hy)) hk
theorem fN{env:Env}:∀{names:List (Str×J9)}{x:Str},names.lookup x=some .free ->
  (names.map fun(n,k)=>if(k==K7&&env.scope.kind==.function&&env.kindOf n==some .cell)then(n,P0)else(n,k)).lookup x=some .cell ∨
  (names.map fun(n,k)=>if(k==K7&&env.scope.kind==.function&&env.kindOf n==some .cell)then(n,P0)else(n,k)).lookup x=some .free
 |[],_,h=>by simp at h
 |(n,k0)::r,x,h=>by
  have ih:=@fN env r x;show ab7 x ((if(k0==K7&&env.scope.kind==.function&&env.kindOf n==some .cell)=true then(n,P0)else(n,k0))::_)=_∨ab7 x ((if(k0==K7&&env.scope.kind==.function&&env.kindOf n==some .cell)=true then(n,P0)else(n,k0))::_)=_;cases hx:x==n with
  |true =>
   simp only[J8,hx]at h;cases h
   split
   ·left;simp[J8,hx]
   ·right;simp[J8,hx]
  |false =>
   simp only[J8,hx]at h
   split<;>(simp only[J8,hx];exact ih h)
section
variable{X:Cx}{ag:List (F9×Obj)}{σ:St}{H H2:Hp}{s s2:F1}{scope:R0}{cl:List (Str×F9)}{ms:List Bool}{am:List Str}
theorem sP(I:Inv X ag σ H s) (S:cT X scope cl ms am) {fp:List F9}(hfp:∀b∈fp,cV X ag H b) (hlt:∀b∈fp,b<s.heap.objs.size) {C:F9}(hC:s.heap.objs.size<=C) :
  (aK X scope cl (X.N++am) C s H fp).Ok where
 mod:=I.ok.mod
 kind:=S.kind
 glob:=I.ok.glob
 blt:=I.ok.blt
 above:=hC
 inj:=fun x y c h1 h2=>I.ok.inj x y c (S.sub x c h1) (S.sub y c h2)
 has:=fun x hx=>S.has x (i4 (env:=X.env) (k:=if(aK X scope cl (X.N++am) C s H fp).env.kindOf x=some .cell then .cell else .free) (by
  rcases hx with hx|hx
  ·rw[if_pos hx];exact hx
  ·rw[if_neg (by rw[hx];decide)];exact hx) S.ncell (by split<;>simp))
 cab:=fun x c h=>by cases h
 hd:=I.ok.hd
 frames:=I.ok.frames
 stk:=.inl rfl
 exf:=fun b hb=>⟨H0 (F8 (hlt b hb) hC),fun x c e=>(hfp b hb).2.2.2.2.1 x c (S.sub x c e)⟩
 bs:=I.bs
 bsz:=L7 I.ok.bsz I.sz
 noex:=fun b o e hb=>by
  rcases(hfp b hb).2.2.2.1 with z|z
  ·exact I.ok.noex b o e z
  ·exact absurd (F8 (F5 e) (L7 I.ok.bsz z)) (O0 _)
 exfs:=fun b hb z=>by
  rcases N5.mp (I.stkSub b z)with e|e
  ·exact(hfp b hb).2.1 e
  ·exact(hfp b hb).2.2.1 e
 funs:=I.stack
 frf:=I.stkFree
theorem tP(I:Inv X ag σ H s) (S:cT X scope cl ms am) {fp:List F9}(hfp:∀b∈fp,cV X ag H b) (hlt:∀b∈fp,b<s.heap.objs.size) {C:F9}(hC:s.heap.objs.size<=C)
  (os:s2.os=s.os) (bare:aa1 s2.gens) (keep:∀b o,s.heap.get? b=some o->s2.heap.get? b=some o) {m:Str->Option u8} (hn:s2.heap.Ns C m) :
  Inv (aK X scope cl (X.N++am) C s H fp) [] (dw ms am.length σ) H s2 where
 ok:=sP I S hfp hlt hC
 os:=os
 bare:=bare
 base:=Un.kept keep
 loc:=⟨m,hn,fun i x v h1 h2 h3=>by
  obtain⟨hi,hm,hv⟩:=nz h2;have hiN:i<X.N.length:=by rw[<-I.len];exact hi
  have hx:X.N[i]?=some x:=by
   have h1':(X.N++am)[i]?=some x:=h1
   rwa [L9 hiN]at h1'
  have hf:=S.mask i x hm hx;obtain⟨m0,hn0,hl⟩:=I.loc;obtain⟨u,r,l⟩:=hl i x v hx hv (by rcases S.fr x hf with z|z<;>simp[Vis,z]);refine⟨u,r,.inr ⟨?_,?_⟩⟩
  ·exact fN (env:=X.env) hf
  ·obtain⟨c,hc⟩:=S.has x hf;have hc':=S.sub x c hc;rcases l with⟨k,_⟩|⟨_,c',e,z⟩
   ·rcases S.fr x hf with z|z<;>(have k':X.env.scope.names.lookup x=some .local:=k;rw[z]at k';cases k')
   ·rw[hc']at e;cases e;obtain⟨o,ho,hd⟩:=z;exact⟨c,hc,o,keep _ _ ho,hd⟩⟩
 cell:=fun x c e=>by
  obtain⟨v,o,ho,hd⟩:=I.cell x c (S.sub x c e);exact⟨v,o,keep _ _ ho,hd⟩
 free:=I.hok.fresh hC
 freeC:=fun x c e=>I.freeC x c (S.sub x c e)
 pin:=fun p hp=>absurd (show p∈([]:List (F9×Obj))from hp) (by simp)
 hok:=I.hok.kept keep
 len:=by
  unfold dw;rw[L8,bD,List.length_replicate,I.len];show _=(X.N++am).length;rw[L8]
end
def PIf(X:Cx) (ifs:List J5) (t:TT):Prop :=
 ∀(ag:List (F9×Obj)) (s:F1) (σ:St) (H:Hp) (Q:Bool->Hp->Prop),Inv X ag σ H s->t σ H Q ->
  J4 (K3 X.prog X.w) X.A (forIn ifs true fun c r=>if r=true then do let ok <-isTrue c X.env (T8 c X.env);V2 (O5 ok)else V2 (O5 r)) (TP X ag σ Q) X.xe s
def Fd:TT:=fun _ H Q=>Q true H
theorem yZ{X:Cx}:PIf X [] Fd:=fun _ _ _ H _ I h=>wpAny_tests_nil ⟨H,I,h⟩
theorem Ak{X:Cx}{c:J5}{t:TT}(h:PT X c t):PIf X [c] t:=fun ag s σ H Q I q=>wpAny_tests_one (h ag s σ H Q I q)
abbrev dG(its:List u8) (n:Nat):Obj:={ cls:=.type "list",data:=.seq its.toArray n }
theorem thF{α:Type}{t:Sem α}{Q Q':α->F1->Prop}{M:Model}{A:N3}{E:u8->F1->Prop}{s:F1}(hE:E=fun _ _=>False) (h:J4 M A t Q E s) (hQ:∀a s,Q a s->Q' a s):J4 M A t Q' (fun _ _=>False) s:=M8 h hQ fun e s x=>by rw[hE]at x;exact x
abbrev lcE(el:J5) (gs:List W4) (sc:R0) (ps:Pos):J5:=.ListComp el gs sc ps
section
variable{prog:L5}{w:P6}{A:N3}{R:ad2->F1->Prop}{s:F1}{el tg elt i:J5}{fs:List J5}{k:Nat}{p:Pos}{it acc:u8}{env:Env}{gs:List W4}{sc:R0}{ps:Pos}
abbrev AWt:=(F1->Prop)->F1->Prop
def tW(prog:L5) (w:P6) (A:N3) (elt:J5) (acc:u8) (env:Env):AWt:=fun Ok s=>J4 (K3 prog w) A (T8 elt env) (fun x s₄=>J4 (K3 prog w) A (call (.builtin "list.append") [acc,x]) (fun _ s₅=>Ok s₅) (fun _ _=>False) s₄) (fun _ _=>False) s
def BH(ce:J5) (k:Nat) (p:Pos) (tg:J5) (fs:List J5) (bd:u8->u8->Env->Sem Fin):Prop:=∀it acc env,compTurn ce k it acc env=(do
  standAt p
  let r <-ac6 it
  match r with
   |none=>V2 (Fin.done Flow.next)
   |some v=>do
    T1 tg it v
    U0 tg env v
    let ok <-forIn fs true fun c r=>if r=true then do let ok <-PySem.isTrue c env (T8 c env);V2 (O5 ok)else V2 (O5 r)
    if ok=true then bd it acc env else again (Z7 ce k it acc env))
def Bg(prog:L5) (w:P6) (A:N3) (ce:J5) (k:Nat) (bd:u8->u8->Env->Sem Fin) (it acc:u8) (env:Env) (AW:AWt):Prop :=
 ∀Ok s (R:ad2->F1->Prop) (E:u8->F1->Prop),AW Ok s->J4 (K3 prog w) A (bd it acc env) (fun fin s'=>match fin with|.done f=>R (.ok f) s'|.again c'=>c'=Z7 ce k it acc env/\Ok s') E s
theorem mY{bd:u8->u8->Env->Sem Fin}{AW:AWt}(hT:BH (lcE el gs sc ps) k p tg fs bd) (hq:(Z7 (lcE el gs sc ps) k it acc env).quiet=true:=by rfl) (hb:Bg prog w A (lcE el gs sc ps) k bd it acc env AW) (I:Nat->F1->Prop)
  (turn:∀ n s,I n s → J4 (K3 prog w) A (ac6 it) (fun r s₁ => match r with
   |none=>R (.ok .next) s₁
   | some v => J4 (K3 prog w) A (T1 tg it v) (fun _ s₁ => J4 (K3 prog w) A (U0 tg env v) (fun _ s₂ =>
     J4 (K3 prog w) A (forIn fs true fun c r=>if r=true then do let ok <-isTrue c env (T8 c env);V2 (O5 ok)else V2 (O5 r)) (fun ok s₃ =>
      if ok=true then AW (fun s₅=>∃m,m<n/\I m s₅) s₃
      else ∃m,m<n/\I m s₃) (fun _ _=>False) s₂) (fun _ _=>False) s₁) (fun _ _=>False) s₁) (fun _ _=>False) s)
  (n:Nat) (h:I n s) :
  X9 (K3 prog w) A (.compLoop (lcE el gs sc ps) k it acc env) R s:=by
 refine codeAny_loop hq I (fun n s hI=>?_) n h;show J4 _ A ((compTurn (lcE el gs sc ps) k it acc env).onRaise (fun x=>do noteFrame x env;theTreesLotGoes x)) _ _ s;refine wpAny_noted ?_;rw[hT];refine s0 (U7 (s0 (M8 (turn n s hI) (fun r s₁ h₁=>?_) fun _ _ h'=>h'.elim)));cases r with
 |none=>exact F4 h₁
 |some v =>
  refine s0 (M8 h₁ (fun _ s1 h₁=>?_) fun _ _ h'=>h'.elim);refine s0 (M8 h₁ (fun _ s₂ h₂=>s0 (M8 h₂ (fun ok s₃ h₃=>?_) fun _ _ h'=>h'.elim)) fun _ _ h'=>h'.elim);cases ok with
  |false=>exact F4 ⟨rfl,h₃⟩
  |true=>exact hb _ _ _ _ h₃
noncomputable def AZ(ce:J5) (k:Nat) (elt:J5):u8->u8->Env->Sem Fin:=fun it acc env=>bind (bind (T8 elt env) fun x=>bind (call (u8.builtin "list.append") [acc,x]) fun _=>V2 ()) fun(_:Unit)=>again (Z7 ce k it acc env)
theorem zL:Bg prog w A (lcE el gs sc ps) k (AZ (lcE el gs sc ps) k elt) it acc env (tW prog w A elt acc env):=fun Ok s R E h =>
 s0 (s0 (M8 h (fun x s₄ h₄=>s0 (M8 h₄ (fun _ s₅ h₅=>F4 (F4 ⟨rfl,h₅⟩)) fun _ _ h'=>h'.elim)) fun _ _ h'=>h'.elim))
end
abbrev BK:=List V->St->Hp->(List V->St->Hp->Prop)->Prop
def mw(J:It) (g:TG) (tc:TT) (B:BK) (W:Nat->Nat->List V->St->Hp->Prop) (Z:List V->St->Hp->Prop):Prop :=
 ∀i m ys σ H,W i m ys σ H->ys.length<=F2/\((J.stop i H/\Z ys σ H) ∨
  (J.go i H/\∀x H',J.yld i H x H'->g x σ H' fun σ2 H2=>tc σ2 H2 fun b H3=>if b=true then B ys σ2 H3 (fun ys' σ' H'=>∃m',m'<m/\W (i+1) m' ys' σ' H')else ∃m',m'<m/\W (i+1) m' ys σ2 H3))
def oa(te:TE):BK:=fun ys σ H Z=>te σ H fun y H'=>Z (ys++[y]) σ H'
section
variable{Y:Cx}{D:F9}{el tg elt i1:J5}{fs:List J5}{g:TG}{tc:TT}{te:TE}{wi:TI}{B:BK}{k:Nat}{p:Pos}{gs:List W4}{sc:R0}{ps:Pos}
def A5(Y:Cx) (D:F9) (AW:AWt) (B:BK):Prop:=∀(P:List (F9×Obj)) (its:List u8) (nn:Nat) (ys:List V) (σ:St) (H:Hp) (s:F1) (Z:List V->St->Hp->Prop),Inv Y ([(D,dG its nn)]++P) σ H s->aB ys its->ys.length<=F2->(∀p∈P,p.1≠D)->B ys σ H Z ->
 AW (fun s'=>∃ys' its' n' σ' H',Inv Y ([(D,dG its' n')]++P) σ' H' s'/\aB ys' its'/\Z ys' σ' H') s
structure lP(Y:Cx) (D:F9):Prop where
 pn:Y.pn=[]
 calm:Y.calm=true
 xe:Y.xe=fun _ _=>False
 ex:D∈Y.ex∨Y.s₀.heap.objs.size<=D
 cell:∀x c,Y.env.cells.lookup x=some c->c≠D
theorem AWt.mono_leaf{prog:L5}{w:P6}{A:N3}{acc:u8}{env:Env}{Ok Ok':F1->Prop}{s:F1}(h:tW prog w A elt acc env Ok s) (k:∀s,Ok s->Ok' s):tW prog w A elt acc env Ok' s :=
 M8 h (fun _ _ h1=>M8 h1 (fun _ _ h2=>k _ h2) fun _ _ x=>x) fun _ _ x=>x
theorem xW(c:lP Y D) (he:PE Y elt te):A5 Y D (tW Y.prog Y.w Y.A elt (.ref D) Y.env) (oa te):=by
 intro P its nn ys σ H s Z I rv hz hPD q;refine thF c.xe (he _ s σ H _ I q) fun v s9 hup=>hup.el fun y H9 I9 r9 q9=>?_;have pacc:=I9.pin (D,dG its nn) (I0 _ (List.mem_append_left _ M0));have hzi:its.toArray.size<=F2:=by rw[F3,<-rv.length];exact hz
 refine PySem.wpAny_list_append_plain (hsz:=hzi) ⟨nn,pacc.1⟩ fun h' hl' hs'=>?_;obtain⟨n',hl'⟩:=hl';have I10:Inv Y [] σ H9 { s9 with heap:=h' } :=
  Inv.turned (t':=s9.toks) (it:=D) (I9.pins_of fun p hp=>absurd hp (by simp)) (fun b o hb e=>(hs'.2 b hb).trans e) pacc.2.1 pacc.2.2.1 c.ex c.cell (fun p hp=>absurd (show p∈([]:List (F9×Obj))from by rw[c.pn]at hp;exact hp) (by simp))
 refine⟨ys++[y],its++[v],n',σ,H9,I10.pins_of fun p hp=>?_,rv.append (.cons r9 .nil),q9⟩;rcases U5.mp hp with z|z
 ·have e:p=(D,dG (its++[v]) n'):=N1.mp z;subst e;refine⟨?_,pacc.2.1,pacc.2.2.1,pacc.2.2.2.1,fun v z=>by cases z⟩;rw[hl'];simp[dG]
 ·obtain⟨b1,b2,b3,b4,b5⟩:=I9.pin p (I0 _ (I0 _ z));exact⟨(hs'.2 _ (hPD p z)).trans b1,b2,b3,b4,b5⟩
structure Lv(Y:Cx) (D:F9) (ce:J5) (k:Nat) (p:Pos) (tg:J5) (fs:List J5) (B:BK):Prop where
 ex:∃bd AW,BH ce k p tg fs bd/\(∀it,Bg Y.prog Y.w Y.A ce k bd it (.ref D) Y.env AW)/\A5 Y D AW B/\∀{Ok Ok':F1->Prop} {s:F1},AW Ok s->(∀s,Ok s->Ok' s)->AW Ok' s
theorem ux(c:lP Y D) (he:PE Y elt te) (hT:BH (lcE el gs sc ps) k p tg fs (AZ (lcE el gs sc ps) k elt)):Lv Y D (lcE el gs sc ps) k p tg fs (oa te):=⟨_,_,hT,fun _=>zL,xW c he,AWt.mono_leaf⟩
theorem nk(c:lP Y D) (L:Lv Y D (lcE el gs sc ps) k p tg fs B) {it2:F9}
  (hg:PG Y tg g) (hif:PIf Y fs tc) {P:List (F9×Obj)} (hPD:∀p∈P,p.1≠D)
  {its0:List u8} {nn0:Nat} {ys0:List V} {σ:St} {H:Hp} {s:F1} (I:Inv Y ([(D,dG its0 nn0)]++P) σ H s) (rv0:aB ys0 its0) {fp2:List F9} {tn2:Nat->K4->Prop} {J2:It} (T:iD Y.prog Y.w Y.K tg J2 fp2 it2 tn2) (st:tn2 0 s.heap)
  (f:∀b∈fp2,cV Y ([(D,dG its0 nn0)]++P) H b) {W2:Nat->Nat->List V->St->Hp->Prop} {Z2:List V->St->Hp->Prop} {m0:Nat} (w0:W2 0 m0 ys0 σ H) (turn:mw J2 g tc B W2 Z2) {R:ad2->F1->Prop}
  (hR:∀(s':F1) (ys:List V) (its:List u8) (n:Nat) (σ':St) (H':Hp),Inv Y ([(D,dG its n)]++P) σ' H' s'->aB ys its->ys.length<=F2->Z2 ys σ' H'->R (.ok .next) s') :
  X9 (K3 Y.prog Y.w) Y.A (.compLoop (lcE el gs sc ps) k (.ref it2) (.ref D) Y.env) R s:=by
 obtain⟨bd,AW,hT,hb,hB,hAW⟩:=L.ex;have fpc:∀{H:Hp} {n:Nat} {its:List u8},(∀b∈fp2,H b=none)->∀b∈fp2,cV Y ([(D,dG its n)]++P) H b:=fun hn b hb=>by
  obtain⟨_,a1,a2,a3,a4,a5⟩:=f b hb;refine⟨hn b hb,a1,a2,a3,a4,fun p hp=>?_⟩;rw[c.pn,List.nil_append]at hp;rcases U5.mp hp with z|z
  ·obtain rfl:=N1.mp z;exact a5 (D,dG its0 nn0) (by rw[c.pn];simp)
  ·exact a5 p (by rw[c.pn];simp[z])
 refine mY hT rfl (hb _) (fun n s'=>∃i ys its nn σ' H',Inv Y ([(D,dG its nn)]++P) σ' H' s'/\aB ys its/\tn2 i s'.heap/\(∀b∈fp2,H' b=none)/\W2 i n ys σ' H') ?_ m0
  ⟨0,ys0,its0,nn0,σ,H,I,rv0,st,fun b hb=>(f b hb).1,w0⟩
 rintro n s' ⟨i,ys,its,nn,σ',H',I4,rv,st4,fr4,w4⟩;obtain⟨hz,h⟩:=turn i n ys σ' H' w4;rcases h with⟨stop,hZ⟩|⟨go,step⟩
 ·refine thn (T.done Y rfl rfl rfl c.calm i _ s' _ H' (fun _ _=>False) I4 (fpc fr4) st4 stop) fun r s4 ⟨hr,I5⟩=>?_;subst hr;exact hR s4 ys its nn σ' H' I5 rv hz hZ
 ·refine thn (T.item Y rfl rfl rfl c.calm i _ s' _ H' (fun _ _=>False) I4 (fpc fr4) st4 go) fun r s5 ⟨u,hr,h5⟩=>?_;subst hr;refine thn h5 fun _ s6 ⟨x,H6,I6,r6,y6,st6,fr6⟩=>?_;have I6':=I6.pinned (fpc fr6) (T.obj _ _ st6);refine thF c.xe (hg _ s6 _ H6 x u _ I6' r6 (step x H6 y6)) fun _ s7 ⟨σ7,H7,I7,q7⟩=>?_;refine thF c.xe (hif _ s7 σ7 H7 _ I7 q7) fun ok s8 hup=>hup.el fun H8 I8 q8=>?_;have keepfp:∀{its:List u8} {nn:Nat} {σ9:St} {H9:Hp} {s9:F1},Inv Y (([(D,dG its nn)]++P)++iO fp2 s6.heap) σ9 H9 s9->tn2 (i+1) s9.heap/\∀b∈fp2,H9 b=none:=fun {its nn σ9 H9 s9} I9 =>
   ⟨T.keep _ _ _ st6 fun b hb o e=>(I9.pin (b,o) (I0 _ (I0 _ (da hb e)))).1,fun b hb=>by
    obtain⟨o,e,d⟩:=T.obj _ _ st6 b hb;exact(I9.pin (b,o) (I0 _ (I0 _ (da hb e)))).2.1⟩
  cases ok with
  |false =>
   obtain⟨m',hm,w8⟩:=q8;obtain⟨a8,b8⟩:=keepfp I8;exact⟨m',hm,i+1,ys,its,nn,σ7,H8,I8.unpinned,rv,a8,b8,w8⟩
  |true =>
   have hPD2:∀p∈P++iO fp2 s6.heap,p.1≠D:=fun p hp=>by
    rcases U5.mp hp with z|z
    ·exact hPD p z
    ·have hb:=(ny z).1;intro e;exact(f _ hb).2.2.2.2.2 (D,dG its0 nn0) (by rw[c.pn];simp) e.symm
   refine hAW (hB (P++iO fp2 s6.heap) its nn ys σ7 H8 s8 _ (by rw[<-List.append_assoc];exact I8) rv hz hPD2 q8) ?_;rintro s9 ⟨ys',its',n',σ',H',I',rv',m',hm,w'⟩;rw[<-List.append_assoc]at I';obtain⟨a9,b9⟩:=keepfp I';exact⟨m',hm,i+1,ys',its',n',σ',H',I'.unpinned,rv',a9,b9,w'⟩
end
section
variable{X:Cx}{ag:List (F9×Obj)}{σ σ':St}{H2 H':Hp}{s2 s':F1}{scope:R0}{cl:List (Str×F9)}{ms:List Bool}{am:List Str}{elt t0 i0:J5}{f0:List J5}{gs:List W4}{g0:TG}{tc0:TT}{B:BK}{p pos:Pos}
theorem nG(S:cT X scope cl ms am) (bA:X.calm=true)
  (hg0:∀C s H ex,PG (aK X scope cl (X.N++am) C s H ex) t0 g0) (hif0:∀C s H ex,PIf (aK X scope cl (X.N++am) C s H ex) f0 tc0)
  (hL:∀C s H ex D,lP (aK X scope cl (X.N++am) C s H ex) D->Lv (aK X scope cl (X.N++am) C s H ex) D (lcE elt (⟨t0,i0,f0,0⟩::gs) scope pos) 0 p t0 f0 B)
  (I2:Inv X ag σ H2 s2) {it:F9} {fp:List F9} {tn:Nat->K4->Prop} {J:It} (T:iD X.prog X.w X.K t0 J fp it tn) (st2:tn 0 s2.heap) (fz:∀b∈fp,cV X ag H2 b)
  {W:Nat->Nat->List V->St->Hp->Prop} {Z:List V->St->Hp->Prop} {m0:Nat} (w0:W 0 m0 [] (dw ms am.length σ) H2) (turn:mw J g0 tc0 B W Z)
  {RR:u8->F9->ad2->F1->Prop} {E:u8->F1->Prop}
  (hRR:∀ (s':F1) (ys:List V) (its:List u8) (n:Nat) (σ':St) (H':Hp),Inv (aK X scope cl (X.N ++ am) (s2.heap.objs.size + 1) s2 H2 fp) [(s2.heap.objs.size,dG its n)] σ' H' s' → aB ys its → ys.length ≤ F2 → Z ys σ' H' →
   RR (.ref s2.heap.objs.size) (s2.heap.objs.size+1) (.ok .next) s') :
  J4 (K3 X.prog X.w) X.A (newList []) (fun acc s₃=>J4 (K3 X.prog X.w) X.A (V6 scope X.env.globals cl [] X.env.qual none .none (some X.env)) (fun cenv s₄ =>
   X9 (K3 X.prog X.w) X.A (.compStart (lcE elt (⟨t0,i0,f0,0⟩::gs) scope pos) 0 (.ref it) acc { cenv with scope:=X5 scope X.env }) (RR acc cenv.locals) s₄) E s₃) E s2:=by
 refine K0 (wpAny_newFunctionEnv S.ncell (by intro y hy;simp at hy) (fun h₁ hns₁ hsb₁=>?_) S.kind);dsimp only at hns₁ hsb₁ ⊢;have hsz:(s2.heap.push { cls:=.type "list",dict:=none,data:=.seq ([]:List u8).toArray }).objs.size=s2.heap.objs.size+1:=by rw[R5]
 rw[hsz]at hns₁ hsb₁ ⊢;have hlt:∀b∈fp,b<s2.heap.objs.size:=fun b hb=>by
  obtain⟨o,e,_⟩:=T.obj _ _ st2 b hb;exact F5 e
 have old:∀b o,s2.heap.get? b=some o->h₁.get? b=some o:=fun b o e=>hsb₁.extBut b o (H0 (K6 (F5 e))) (F0 _ (F0 _ e));have hacc:h₁.get? s2.heap.objs.size=some (dG [] 0):=hsb₁.extBut _ _ (H0 (P4 _)) (F0 _ (F7 _ rfl));have hDn:H2 s2.heap.objs.size=none:=I2.hok.fresh (F6 _);have hDfs:∀b,s2.heap.objs.size<=b->b∉(aK X scope cl (X.N++am) (s2.heap.objs.size+1) s2 H2 fp).fs:=fun b hb z=>by
  rcases N5.mp (I2.stkSub b z)with e|e
  ·subst e;exact absurd (F8 I2.lt hb) (O0 _)
  ·exact I2.nofs hb e
 have loop:∀s₃:F1,s₃={ s2 with heap:=h₁,toks:=s2.toks+([]:List (Str×u8)).length } ->
   X9 (K3 X.prog X.w) X.A (.compLoop (lcE elt (⟨t0,i0,f0,0⟩::gs) scope pos) 0 (.ref it) (.ref s2.heap.objs.size) (ac8 scope cl (s2.heap.objs.size+1) X.env)) (RR (.ref s2.heap.objs.size) (s2.heap.objs.size+1)) s₃:=by
  rintro s₃ rfl;have I3:Inv (aK X scope cl (X.N++am) (s2.heap.objs.size+1) s2 H2 fp) [] (dw ms am.length σ) H2 { s2 with heap:=h₁,toks:=s2.toks+([]:List (Str×u8)).length } :=
   tP I2 S fz hlt (Z8 _) rfl I2.bare old hns₁
  have c:lP (aK X scope cl (X.N++am) (s2.heap.objs.size+1) s2 H2 fp) s2.heap.objs.size:=⟨rfl,bA,rfl,.inr (F6 _),fun x c e=>by
   obtain⟨v,o,ho,_⟩:=I2.cell x c (S.sub x c e);exact H0 (F5 ho)⟩
  refine nk c (hL _ _ _ _ _ c) (hg0 _ _ _ _) (hif0 _ _ _ _) (P:=[]) (fun p hp=>nomatch hp) (its0:=[]) (nn0:=0) (I3.pins_of fun p hp=>?_) .nil T (T.keep _ _ _ st2 fun b _ o e=>old b o e) (fun b hb=>?_) w0 turn ?_
  ·have e:p=(s2.heap.objs.size,dG [] 0):=N1.mp hp;subst e;exact⟨hacc,hDn,H0 (P4 _),hDfs _ (F6 _),fun v z=>by cases z⟩
  ·exact⟨(fz b hb).1,H0 (K6 (hlt b hb)),(sP I2 S fz hlt (Z8 _)).exfs b hb,.inl hb,fun x c e=>(fz b hb).2.2.2.2.1 x c (S.sub x c e),fun p hp=>by
    have:p=(s2.heap.objs.size,_):=N1.mp (show p∈[(s2.heap.objs.size,_)]from hp);subst this;exact T0 (hlt b hb)⟩
  ·exact fun s' ys its n σ' H' I' rv hz hZ=>hRR s' ys its n σ' H' I' rv hz hZ
 exact codeAny_compStart_list (loop _ rfl) (T.self _ 0 _ _ _ (T.keep _ _ _ st2 fun b _ o e=>old b o e) (loop _ rfl))
end
section
variable{X:Cx}{ag:List (F9×Obj)}{σ σ':St}{H2 H':Hp}{s2 s':F1}{scope:R0}{cl:List (Str×F9)}{ms:List Bool}{am:List Str}{tg iter elt:J5}{ifs:List J5}{g:TG}{tc:TT}{te:TE}{pos p:Pos}{B:BK}{gs:List W4}
theorem oq(I2:Inv X ag σ H2 s2) {fp:List F9}(f2:∀b∈fp,cV X ag H2 b) {its:List u8}{n:Nat}{ys:List V}
  (I':Inv (aK X scope cl (X.N++am) (s2.heap.objs.size+1) s2 H2 fp) [(s2.heap.objs.size,dG its n)] σ' H' s') (rv:aB ys its) (hz:ys.length<=F2) {h':K4} (hs:N8 (s2.heap.objs.size+1) s'.heap h') :
  Inv X ag σ (upd H' s2.heap.objs.size (.lst ys)) { s' with heap:=h' }/\H' s2.heap.objs.size=none:=by
 have pacc:=I'.pin (s2.heap.objs.size,dG its n) (I0 _ M0);have hC:H' (s2.heap.objs.size+1)=none:=I'.free;have hD:H' s2.heap.objs.size=none:=pacc.2.1;have up:∀b o,b≠s2.heap.objs.size+1->s'.heap.get? b=some o->h'.get? b=some o:=fun b o hb e=>(hs.2 b hb).trans e;have nD:∀b u,H' b=some u->b≠s2.heap.objs.size:=fun b u e z=>by rw[z,hD]at e;cases e
 have nC:∀b u,H' b=some u->b≠s2.heap.objs.size+1:=fun b u e z=>by rw[z,hC]at e;cases e
 have hacc:h'.get? s2.heap.objs.size=some (dG its n):=up _ _ (H0 (P4 _)) pacc.1;have hok:HOk X.prog X.w (upd H' s2.heap.objs.size (.lst ys)) h':=fun b u e=>by
  by_cases hb:b=s2.heap.objs.size
  ·subst hb;rw[aG]at e;cases e;exact⟨hz,its,n,rv,hacc⟩
  ·rw[aA hb]at e;refine(I'.hok b u e).stay (fun c v hc q=>up c v ?_ q) (fun c q=>by rw[aA (nD c _ q)];exact q) fun c xs q=>by rw[aA (nD c _ q)];exact q
   rcases hc with rfl|hc
   ·exact nC _ _ e
   ·exact nC _ _ hc
 have un:Un (frs X.stack) fp H2 (upd H' s2.heap.objs.size (.lst ys)) s2.heap h':=by
  have U:=I'.base;have ltD:∀b o,s2.heap.get? b=some o->b≠s2.heap.objs.size:=fun b o e=>H0 (F5 e);have ltC:∀b o,s2.heap.get? b=some o->b≠s2.heap.objs.size+1:=fun b o e=>H0 (K6 (F5 e));refine⟨fun b o e nb hb hx=>up b o (ltC b o e) (U.keep b o e nb hb hx),fun b o e nb hb hx=>?_,fun b o e nb hx=>by rw[aA (ltD b o e)];exact U.free b o e nb hx,fun b o e hx=>?_,
   fun b xs e=>by have q:=U.tups b xs e;rw[aA (nD b _ q)];exact q,fun b o u e=>by have q:=U.frzs b o u e;rw[aA (nD b _ q)];exact q,fun b ps e=>?_⟩
  ·obtain⟨sl,q⟩:=U.slot b o e nb hb hx;exact⟨sl,up b _ (ltC b o e) q⟩
  ·obtain⟨o',q⟩:=U.there b o e hx;exact⟨o',up b _ (ltC b o e) q⟩
  ·obtain⟨more,q⟩:=U.tbls b ps e;exact⟨more,by rw[aA (nD b _ q)];exact q⟩
 exact⟨I2.call' (s':={ s' with heap:=h' }) (ch:=fp) I'.os un hok I'.bare fun b hb=>⟨(f2 b hb).2.2.2.1,(f2 b hb).2.1,(f2 b hb).2.2.2.2.1,(f2 b hb).2.2.2.2.2⟩,hD⟩
def B9(ms:List Bool) (k:Nat) (wi:TI) (g:TG) (tc:TT) (B:BK):TE:=fun σ H Q=>wi σ H fun J H1=>∃(W:Nat->Nat->List V->St->Hp->Prop) (Z:List V->St->Hp->Prop),(∃m,W 0 m [] (dw ms k σ) H1)/\mw J g tc B W Z /\
 ∀ys σ' H p,Z ys σ' H->H p=none->Q (.ref p) (upd H p (.lst ys))
abbrev tLc(ms:List Bool) (k:Nat) (wi:TI) (g:TG) (tc:TT) (te:TE):TE:=B9 ms k wi g tc (oa te)
abbrev LvC(X:Cx) (scope:R0) (cl:List (Str×F9)) (am:List Str) (ce:J5) (p:Pos) (tg:J5) (ifs:List J5) (B:BK):Prop:=∀C s H ex D,lP (aK X scope cl (X.N++am) C s H ex) D->Lv (aK X scope cl (X.N++am) C s H ex) D ce 0 p tg ifs B
theorem wt(S:cT X scope cl ms am) (bA:X.calm=true) {wi:TI}(hi:PI X tg iter wi)
  (hg:∀C s H ex,PG (aK X scope cl (X.N++am) C s H ex) tg g) (hif:∀C s H ex,PIf (aK X scope cl (X.N++am) C s H ex) ifs tc) (hL:LvC X scope cl am (lcE elt (⟨tg,iter,ifs,0⟩::gs) scope pos) p tg ifs B)
  (hs:∀x,O1 iter X.env x=V2 x:=by intro _;rfl):PE X (lcE elt (⟨tg,iter,ifs,0⟩::gs) scope pos) (B9 ms am.length wi g tc B):=by
 intro ag s σ H Q I h;rw[eval_ListComp];refine S1 (use:=none) rfl hs S.clos S.kind S.names (thn (hi ag s σ H _ I h) fun v s1 h1=>thn h1 fun itv s2 h2=>?_);obtain⟨it,fp,tn,J,H2,e,I2,T,st2,f2,W,Z,⟨m0,w0⟩,turn,q⟩:=h2;subst e;refine nG S bA hg hif hL I2 T st2 f2 w0 turn (RR:=fun acc C=>compPost (K3 X.prog X.w) X.A X.xe none (EP X ag σ Q) acc C) ?_;intro s' ys its n σ' H' I' rv hz hZ;obtain⟨m,hm,_⟩:=I'.loc;refine⟨m,hm,fun h' hs'=>?_⟩;obtain⟨I3,hD⟩:=oq I2 f2 I' rv hz hs';exact⟨.ref s2.heap.objs.size,_,I3,rfl,q ys _ H' _ hZ hD⟩
theorem og{i:Nat}{x:Str}{spos pos':Pos}(hN:X.N.Nodup) (hix:X.N[i]?=some x) (hx:X.env.scope.names.lookup x=some .local)
  (hsw:V9 (lcE elt (⟨tg,iter,ifs,0⟩::gs) scope pos) (some (.Name x pos')) spos.line X.env=V2 true)
  (S:cT X scope cl ms am) (bA:X.calm=true) {wi:TI} (hi:PI X tg iter wi)
  (hg:∀C s H ex,PG (aK X scope cl (X.N++am) C s H ex) tg g) (hif:∀C s H ex,PIf (aK X scope cl (X.N++am) C s H ex) ifs tc) (hL:LvC X scope cl am (lcE elt (⟨tg,iter,ifs,0⟩::gs) scope pos) p tg ifs B)
  (hs:∀x,O1 iter X.env x=V2 x:=by intro _;rfl):PS X (.Assign [.Name x pos'] (lcE elt (⟨tg,iter,ifs,0⟩::gs) scope pos) spos) (zO (B9 ms am.length wi g tc B) (mC i)):=by
 intro ag s σ H D I h;rw[exec_Assign_Name_used _ _ _ _ hsw];refine s0 (U7 (s0 ?_));show J4 _ _ (do let _ <-comprehension (lcE elt (⟨tg,iter,ifs,0⟩::gs) scope pos) scope X.env _ (newList []) false (T8 iter X.env) (some (U0 (.Name x pos') X.env))) _ _ s;refine s0 (M8 (S1 (use:=some (U0 (.Name x pos') X.env)) (Q:=fun _ s'=>SP X ag D .next s') rfl hs S.clos S.kind S.names
  (thn (hi ag s σ H _ I h) fun v s1 h1=>thn h1 fun itv s2 h2=>?_)) (fun _ s' hq=>F4 (F4 hq)) fun _ _ e=>e)
 obtain⟨it,fp,tn,J,H2,e,I2,T,st2,f2,W,Z,⟨m0,w0⟩,turn,q⟩:=h2;subst e;refine nG S bA hg hif hL I2 T st2 f2 w0 turn (RR:=fun acc C=>compPost (K3 X.prog X.w) X.A X.xe (some (U0 (.Name x pos') X.env)) (fun _ s'=>SP X ag D .next s') acc C) ?_;intro s' ys its n σ' H' I' rv hz hZ;obtain⟨m,hm,_⟩:=I'.loc;obtain⟨I3,hD⟩:=oq I2 f2 I' rv hz (N8.refl (s2.heap.objs.size+1) s'.heap);have hq:=q ys _ H' _ hZ hD;show J4 _ _ (U0 (.Name x pos') X.env (.ref s2.heap.objs.size)) _ _ _;refine wpAny_assign_Name (jB I3 hN hix (.inl hx) (v:=.ref s2.heap.objs.size) rfl (fun s4 I4 hsame=>?_) (.inr hx));obtain⟨a,hsb,ha⟩:=hsame;have hLC:s2.heap.objs.size+1≠X.env.locals:=T0 (K6 I2.lt);have haC:s2.heap.objs.size+1≠a:=by
  rcases ha with rfl|ha
  ·exact hLC
  ·intro z;obtain⟨v,o,ho,_⟩:=I2.cell x a ha;exact absurd (K6 (F5 ho)) (by rw[<-z];exact O0 _)
 have hCn:upd H' s2.heap.objs.size (.lst ys) (s2.heap.objs.size+1)=none:=by rw[aA (T0 (P4 _))];exact I'.free
 refine⟨m,hm.sameBut hsb haC,fun h' hs'=>?_⟩;refine⟨_,_,?_,hq⟩;have hL:∀b o,b≠s2.heap.objs.size+1->s4.heap.get? b=some o->h'.get? b=some o:=fun b o hb e=>(hs'.2 b hb).trans e;have I5:=Inv.turned (t':=s4.toks) (h':=h') (it:=s2.heap.objs.size+1) I4 (fun b o hb e=>hL b o hb e) hCn hLC (.inr (Nat.le_succ_of_le I2.sz)) (fun y c e=>by
  obtain⟨v,o,ho,_⟩:=I2.cell y c e;exact H0 (K6 (F5 ho))) (fun p hp=>by
  exact H0 (K6 (F5 (I2.pin p hp).1)))
 exact I5
theorem o8(he:∀C s H ex,PE (aK X scope cl (X.N++am) C s H ex) elt te):LvC X scope cl am (lcE elt [⟨tg,iter,ifs,0⟩] scope pos) iter.pos tg ifs (oa te):=fun _ _ _ _ _ c=>ux c (he _ _ _ _) fun _ _ _=>rfl
end
inductive Bx where
 |dk (ks:List Key)|dt (ks:List (List Key))|ins (C:F9) (fs:List Str)|key
 deriving Inhabited
inductive D where
 |non|bl (b:Bool)|int (i:Int)|str (x:Str)|tup (ds:List D)|lst (ds:List D)|scr (ds:List D)|emp|ref (a:F9)|box (t:Bx) (ds:List D)
 deriving Inhabited
inductive HD where
 |lst (ds:List D)|dK (kvs:List (Key×D))|dT (kvs:List (List Key×D))|dKr (o:Obj) (ks:List (Key×V)) (kvs:List (Key×D))|ins (C:F9) (fs:List (Str×D))
 |ext (φ:List V->K4->Prop) (ds:List D)
 deriving Inhabited
abbrev DH:=F9->Option HD
def aw(M:DH) (a:F9) (o:HD):DH:=fun b=>if b=a then some o else M b
def jd(M:DH) (a:F9):DH:=fun b=>if b=a then none else M b
abbrev noM:DH:=fun _=>none
theorem aj{M:DH}{a:F9}{o:HD}:aw M a o a=some o:=if_pos rfl
theorem av{M:DH}{a b:F9}{o:HD}(h:b≠a):aw M a o b=M b:=if_neg h
theorem aE{M:DH}{a:F9}{o u:HD}:aw (aw M a o) a u=aw M a u:=by
 funext b;unfold aw;split<;>rfl
theorem gY{M:DH}{a:F9}:jd M a a=none:=if_pos rfl
theorem iR{M:DH}{a b:F9}(h:b≠a):jd M a b=M b:=if_neg h
theorem lU{M:DH}{a:F9}{o:HD}(h:M a=none):jd (aw M a o) a=M:=by
 funext b;unfold jd aw;split
 ·rename_i e;rw[e,h]
 ·rfl
theorem vM{M:DH}{a:F9}{o:HD}(h:M a=some o):aw M a o=M:=by
 funext b;unfold aw;split
 ·rename_i e;rw[e,h]
 ·rfl
def n6(K:o0) (M:DH) (H:Hp) (a:F9) (vs:List V):Prop:=(Rd H a (.tup vs)/\M a=none)∨SqT K (fun _=>none) a vs
def tD(M:DH) (H:Hp) (a:F9) (vs:List V):Prop:=H a=some (.lst vs)/\M a=none
def nt(K:o0) (M:DH) (H:Hp) (a:F9) (vs:List V):Prop:=((∃o,H a=some (.frz o (.lst vs)))/\M a=none)∨SqL K (fun _=>none) a vs
def D1(M:DH) (H:Hp) (a:F9):Prop:=H a=some (.dK [])/\M a=none
def tL(M:DH) (H:Hp) (a:F9):Bx->List V->Prop
 |.dk ks,vs=>ks.length=vs.length/\(∃o,H a=some (.frz o (.dK (ks.zip vs))))/\M a=none
 |.dt ks,vs=>ks.length=vs.length/\(∃o,H a=some (.frz o (.dT (ks.zip vs))))/\M a=none
 |.ins C fs,vs=>fs.length=vs.length/\(∃dx,H a=some (.ins C dx (fs.zip vs)))/\M a=none
 |.key,vs=>True/\(∃_u:Unit,H a=some (.tup vs))/\M a=none
mutual
def Rep(K:o0) (M:DH) (H:Hp):D->V->Prop
 |.non,v=>v=.non
 |.bl b,v=>v=.bl b
 |.int i,v=>v=.int i
 |.str x,v=>v=.str x
 |.tup ds,v=>∃a vs,v=.ref a/\n6 K M H a vs/\ar K M H ds vs
 |.lst ds,v=>∃a vs,v=.ref a/\tD M H a vs/\ar K M H ds vs
 |.scr ds,v=>∃a vs,v=.ref a/\nt K M H a vs/\ar K M H ds vs
 |.emp,v=>∃a,v=.ref a/\D1 M H a
 |.ref a,v=>v=.ref a
 |.box t ds,v=>∃a vs,v=.ref a/\tL M H a t vs/\ar K M H ds vs
def ar(K:o0) (M:DH) (H:Hp):List D->List V->Prop
 |[],vs=>vs=[]
 |d::ds,vs=>∃v ws,vs=v::ws/\Rep K M H d v/\ar K M H ds ws
end
def Ext(M:DH) (H:Hp) (M':DH) (H':Hp):Prop:=∀a o,H a=some o->M a=none->H' a=some o/\M' a=none
theorem Ext.refl(M:DH) (H:Hp):Ext M H M H:=fun _ _ h n=>⟨h,n⟩
theorem Ext.trans{M M1 M2:DH}{H H1 H2:Hp}(a:Ext M H M1 H1) (b:Ext M1 H1 M2 H2):Ext M H M2 H2:=fun c o h n=>b c o (a c o h n).1 (a c o h n).2
variable{K:o0}{M M' M1 M2:DH}{H H' H1 H2:Hp}
theorem n6.ext{a:F9}{vs:List V}(h:n6 K M H a vs) (e:Ext M H M' H'):n6 K M' H' a vs:=by
 rcases h with⟨r|⟨o,r⟩,n⟩|h
 ·exact .inl ⟨.inl (e a _ r n).1,(e a _ r n).2⟩
 ·exact .inl ⟨.inr ⟨o,(e a _ r n).1⟩,(e a _ r n).2⟩
 ·exact .inr h
theorem tD.ext{a:F9}{vs:List V}(h:tD M H a vs) (e:Ext M H M' H'):tD M' H' a vs:=e a _ h.1 h.2
theorem nt.ext{a:F9}{vs:List V}(h:nt K M H a vs) (e:Ext M H M' H'):nt K M' H' a vs:=by
 rcases h with⟨⟨o,r⟩,n⟩|h
 ·exact .inl ⟨⟨o,(e a _ r n).1⟩,(e a _ r n).2⟩
 ·exact .inr h
theorem tL.ext{a:F9}{t:Bx}{vs:List V}(h:tL M H a t vs) (e:Ext M H M' H'):tL M' H' a t vs:=by
 cases t<;>(obtain⟨l,⟨o,r⟩,n⟩:=h;exact⟨l,⟨o,(e a _ r n).1⟩,(e a _ r n).2⟩)
mutual
theorem Rep.ext:∀{d:D}{v:V},Rep K M H d v->Ext M H M' H'->Rep K M' H' d v
 |.non,_,h,_=>h
 |.bl _,_,h,_=>h
 |.int _,_,h,_=>h
 |.str _,_,h,_=>h
 |.ref _,_,h,_=>h
 |.emp,_,h,e=>by
  simp only[Rep]at h ⊢;obtain⟨a,rfl,h1,h2⟩:=h;exact⟨a,rfl,e a _ h1 h2⟩
 |.tup ds,_,h,e=>by
  simp only[Rep]at h ⊢;obtain⟨a,vs,rfl,h1,h2⟩:=h;exact⟨a,vs,rfl,h1.ext e,ar.ext h2 e⟩
 |.lst ds,_,h,e=>by
  simp only[Rep]at h ⊢;obtain⟨a,vs,rfl,h1,h2⟩:=h;exact⟨a,vs,rfl,h1.ext e,ar.ext h2 e⟩
 |.scr ds,_,h,e=>by
  simp only[Rep]at h ⊢;obtain⟨a,vs,rfl,h1,h2⟩:=h;exact⟨a,vs,rfl,h1.ext e,ar.ext h2 e⟩
 |.box t ds,_,h,e=>by
  simp only[Rep]at h ⊢;obtain⟨a,vs,rfl,h1,h2⟩:=h;exact⟨a,vs,rfl,h1.ext e,ar.ext h2 e⟩
theorem ar.ext:∀{ds:List D}{vs:List V},ar K M H ds vs->Ext M H M' H'->ar K M' H' ds vs
 |[],_,h,_=>h
 |d::ds,_,h,e=>by
  simp only[ar]at h ⊢;obtain⟨v,ws,rfl,h1,h2⟩:=h;exact⟨v,ws,rfl,Rep.ext h1 e,ar.ext h2 e⟩
end
theorem ar.length:∀{ds:List D}{vs:List V},ar K M H ds vs->ds.length=vs.length
 |[],_,h=>by simp only[ar]at h;subst h;rfl
 |d::ds,_,h=>by
  simp only[ar]at h;obtain⟨v,ws,rfl,h1,h2⟩:=h;simp[ar.length h2]
theorem ar.nil:ar K M H [] []:=by simp[ar]
theorem ar.cons{d:D}{v:V}{ds:List D}{vs:List V}(h:Rep K M H d v) (t:ar K M H ds vs):ar K M H (d::ds) (v::vs):=by
 simp only[ar];exact⟨v,vs,rfl,h,t⟩
theorem ar.append:∀{ds es:List D}{vs ws:List V},ar K M H ds vs->ar K M H es ws->ar K M H (ds++es) (vs++ws)
 |[],_,_,_,h,t=>by simp only[ar]at h;subst h;exact t
 |d::ds,es,_,ws,h,t=>by
  simp only[ar]at h;obtain⟨v,us,rfl,h1,h2⟩:=h;exact ar.cons h1 (ar.append h2 t)
theorem ar.get:∀{ds:List D}{vs:List V}{i:Nat}{d:D},ar K M H ds vs->ds[i]?=some d->∃v,vs[i]?=some v/\Rep K M H d v
 |[],_,_,_,_,e=>by simp at e
 |d::ds,_,0,x,h,e=>by
  simp only[ar]at h;obtain⟨v,us,rfl,h1,h2⟩:=h;simp at e;subst e;exact⟨v,rfl,h1⟩
 |d::ds,_,i+1,x,h,e=>by
  simp only[ar]at h;obtain⟨v,us,rfl,h1,h2⟩:=h;obtain⟨w,a,b⟩:=ar.get (i:=i) (d:=x) h2 (by simpa using e);exact⟨w,by simpa using a,b⟩
theorem ar.take:∀{ds:List D}{vs:List V}(n:Nat),ar K M H ds vs->ar K M H (ds.take n) (vs.take n)
 |ds,vs,0,_=>by simp[ar]
 |[],_,n+1,h=>by simp only[ar]at h;subst h;simp[ar]
 |d::ds,_,n+1,h=>by
  simp only[ar]at h;obtain⟨v,us,rfl,h1,h2⟩:=h;exact ar.cons h1 (ar.take n h2)
theorem ar.drop:∀{ds:List D}{vs:List V}(n:Nat),ar K M H ds vs->ar K M H (ds.drop n) (vs.drop n)
 |ds,vs,0,h=>h
 |[],_,n+1,h=>by simp only[ar]at h;subst h;simp[ar]
 |d::ds,_,n+1,h=>by
  simp only[ar]at h;obtain⟨v,us,rfl,h1,h2⟩:=h;exact ar.drop n h2
theorem ar.set:∀{ds:List D}{vs:List V}{d:D}{v:V}(n:Nat),ar K M H ds vs->Rep K M H d v->ar K M H (ds.set n d) (vs.set n v)
 |[],_,_,_,n,h,r=>by simp only[ar]at h;subst h;simp[ar]
 |d::ds,_,_,_,0,h,r=>by
  simp only[ar]at h;obtain⟨v,us,rfl,h1,h2⟩:=h;exact ar.cons r h2
 |d::ds,_,_,_,n+1,h,r=>by
  simp only[ar]at h;obtain⟨v,us,rfl,h1,h2⟩:=h;exact ar.cons h1 (ar.set n h2 r)
theorem ar.one{d:D}{vs:List V}(h:ar K M H [d] vs):∃v,vs=[v]/\Rep K M H d v:=by
 simp only[ar]at h;obtain⟨v,us,rfl,h1,rfl⟩:=h;exact⟨v,rfl,h1⟩
theorem ar.two{d e:D}{vs:List V}(h:ar K M H [d,e] vs):∃v w,vs=[v,w]/\Rep K M H d v/\Rep K M H e w:=by
 simp only[ar]at h;obtain⟨v,us,rfl,h1,w,ws,rfl,h2,rfl⟩:=h;exact⟨v,w,rfl,h1,h2⟩
def KR(K:o0) (M:DH) (H:Hp) {κ:Type}:List (κ×D)->List (κ×V)->Prop:=P5 fun p q=>p.1=q.1/\Rep K M H p.2 q.2
theorem KR.ext{κ:Type}{kvs:List (κ×D)}{ks:List (κ×V)}(h:KR K M H kvs ks) (e:Ext M H M' H'):KR K M' H' kvs ks:=P5.imp' (fun _ _ r=>⟨r.1,r.2.ext e⟩) h
def mj(K:o0) (M:DH) (H:Hp) (a:F9):HD->Prop
 |.lst ds=>∃vs,H a=some (.lst vs)/\ar K M H ds vs
 |.dK kvs=>∃ks,H a=some (.dK ks)/\KR K M H kvs ks
 |.dT kvs=>∃ks,H a=some (.dT ks)/\KR K M H kvs ks
 |.dKr o ks kvs=>∃_u:Unit,H a=some (.frz o (.dK ks))/\KR K M H kvs ks
 |.ins C fs=>∃gs,(∃dx,H a=some (.ins C dx gs))/\KR K M H fs gs
 |.ext φ ds=>∃vs,H a=some (.ext (φ vs))/\ar K M H ds vs
def HR(K:o0) (M:DH) (H:Hp):Prop:=∀a o,M a=some o->mj K M H a o
theorem mj.some{a:F9}{o:HD}(h:mj K M H a o):∃u,H a=K9 u/\∀xs,u≠.tup xs/\∀ob,u≠.frz ob (.tup xs):=by
 cases o with
 |ins C fs=>obtain⟨gs,⟨dx,r⟩,_⟩:=h;exact⟨_,r,fun xs=>⟨(by intro z;cases z),(by intro ob z;cases z)⟩⟩
 |_=>obtain⟨vs,r,_⟩:=h;exact⟨_,r,fun xs=>⟨(by intro z;cases z),(by intro ob z;cases z)⟩⟩
theorem mj.keep{a:F9}{o:HD}(h:mj K M H a o) (e:Ext M H M' H') (q:H' a=H a):mj K M' H' a o:=by
 cases o with
 |ins C fs=>obtain⟨gs,⟨dx,r⟩,t⟩:=h;exact⟨gs,⟨dx,by rw[q];exact r⟩,t.ext e⟩
 |_=>obtain⟨vs,r,t⟩:=h;exact⟨vs,by rw[q];exact r,t.ext e⟩
theorem HR.fresh(h:HR K M H) {p:F9}(e:H p=none):M p=none:=by
 cases q:M p with
 |none=>rfl
 |some o =>
  obtain⟨u,r,_⟩:=(h p _ q).some;rw[e]at r;cases r
theorem HR.nil:HR K noM H:=fun _ _ h=>nomatch h
theorem Ext.new{p:F9}{o:HO}(hr:HR K M H) (h:H p=none):Ext M H M (upd H p o):=fun a u e n=>by
 have:a≠p:=bc e h;rw[aA this];exact⟨e,n⟩
theorem HR.ext1(h:HR K M H) (e:Ext M H M H') (keep:∀a o,M a=some o->H' a=H a):HR K M H':=fun a o q=>(h a o q).keep e (keep a o q)
theorem HR.new{p:F9}{o:HO}(hr:HR K M H) (h:H p=none):HR K M (upd H p o):=hr.ext1 (Ext.new hr h) fun a u q=>by
 have:a≠p:=fun z=>by rw[z,hr.fresh h]at q;cases q
 rw[aA this]
theorem Ext.own{p:F9}{o:HO}{u:HD}(h:H p=none):Ext M H (aw M p u) (upd H p o):=fun a x e n=>by
 have:a≠p:=bc e h;rw[aA this,av this];exact⟨e,n⟩
theorem HR.put{p:F9}{o:HO}{u:HD}(hr:HR K M H) (e:Ext M H (aw M p u) (upd H p o)) (c:mj K (aw M p u) (upd H p o) p u):HR K (aw M p u) (upd H p o):=fun a w q=>by
 by_cases z:a=p
 ·subst z;rw[aj]at q;cases q;exact c
 ·rw[av z]at q;exact(hr a w q).keep e (aA z)
theorem HR.own{p:F9}{ds:List D}{vs:List V}(hr:HR K M H) (h:H p=none) (r:ar K M H ds vs):HR K (aw M p (.lst ds)) (upd H p (.lst vs)) :=
 hr.put (Ext.own h) ⟨vs,aG,r.ext (Ext.own h)⟩
theorem Ext.write{a:F9}{o:HO}{u w:HD}(h:M a=some w):Ext M H (aw M a u) (upd H a o):=fun b x e n=>by
 have:b≠a:=fun z=>by rw[z,h]at n;cases n
 rw[aA this,av this];exact⟨e,n⟩
theorem HR.write{a:F9}{w:HD}{ds:List D}{vs:List V}(hr:HR K M H) (h:M a=some w) (r:ar K M H ds vs):HR K (aw M a (.lst ds)) (upd H a (.lst vs)) :=
 hr.put (Ext.write h) ⟨vs,aG,r.ext (Ext.write h)⟩
def LeM(M1 M:DH):Prop:=∀a o,M1 a=some o->M a=some o
theorem LeM.none(h:LeM M1 M) {a:F9}(n:M a=none):M1 a=none:=by
 cases q:M1 a with
 |none=>rfl
 |some o=>rw[h a o q]at n;cases n
theorem LeM.refl:LeM M M:=fun _ _ h=>h
theorem LeM.no:LeM noM M:=fun _ _ h=>nomatch h
theorem LeM.del{a:F9}:LeM (jd M a) M:=fun b o h=>by
 unfold jd at h;split at h
 ·cases h
 ·exact h
theorem Ext.le(h:LeM M1 M):Ext M H M1 H:=fun a o e n=>⟨e,h.none n⟩
theorem HR.le(hr:HR K M H) (h:LeM M1 M):HR K M1 H:=fun a o q=>(hr a o (h a o q)).keep (Ext.le h) rfl
theorem Rep.froze(hr:HR K M H) (h:LeM M1 M) {a:F9}{ds:List D}(e:M a=some (.lst ds)) (n:M1 a=none):Rep K M1 H (.lst ds) (.ref a):=by
 obtain⟨vs,r,t⟩:=hr a _ e;simp only[Rep];exact⟨a,vs,rfl,⟨r,n⟩,t.ext (Ext.le h)⟩
def iy(M M1 M2:DH):DH:=fun a=>match M2 a with|some o=>some o|none=>if M1 a=none then M a else none
theorem xy:iy M noM noM=M:=by
 funext a;simp[iy]
theorem Ext.back(h:LeM M1 M) (e:Ext M1 H M2 H2):Ext M H (iy M M1 M2) H2:=fun a o q n=>by
 obtain⟨h1,h2⟩:=e a o q (h.none n);refine⟨h1,?_⟩;unfold iy;rw[h2];simp[h.none n,n]
mutual
def noL:D->Bool
 |.tup ds=>kI ds
 |.lst _=>false
 |.scr _=>false
 |.emp=>false
 |.box _ _=>false
 |_=>true
def kI:List D->Bool
 |[]=>true
 |d::ds=>noL d&&kI ds
end
mutual
theorem Rep.hard:∀{d:D}{v:V},noL d=true->Rep K M H d v->(∀a xs,Rd H a (.tup xs)->M' a=none)->Rep K M' H d v
 |.non,_,_,h,_=>h
 |.bl _,_,_,h,_=>h
 |.int _,_,_,h,_=>h
 |.str _,_,_,h,_=>h
 |.ref _,_,_,h,_=>h
 |.emp,_,n,_,_=>by simp[noL]at n
 |.box _ _,_,n,_,_=>by simp[noL]at n
 |.lst _,_,n,_,_=>by simp[noL]at n
 |.scr _,_,n,_,_=>by simp[noL]at n
 |.tup ds,_,n,h,e=>by
  simp only[Rep]at h ⊢;obtain⟨a,vs,rfl,h1,h2⟩:=h;refine⟨a,vs,rfl,?_,ar.hard (by simpa[noL]using n) h2 e⟩;rcases h1 with⟨r,_⟩|r
  ·exact .inl ⟨r,e a vs r⟩
  ·exact .inr r
theorem ar.hard:∀{ds:List D}{vs:List V},kI ds=true->ar K M H ds vs->(∀a xs,Rd H a (.tup xs)->M' a=none)->ar K M' H ds vs
 |[],_,_,h,_=>h
 |d::ds,_,n,h,e=>by
  simp only[ar]at h ⊢;obtain⟨v,ws,rfl,h1,h2⟩:=h;simp only[kI,K1]at n;exact⟨v,ws,rfl,Rep.hard n.1 h1 e,ar.hard n.2 h2 e⟩
end
theorem cC(hr:HR K M H) (h:LeM M1 M) (e:Ext M1 H M2 H2) (h2:HR K M2 H2):∀a xs,Rd H2 a (.tup xs)->iy M M1 M2 a=none:=by
 intro a xs r;unfold iy;cases q:M2 a with
 |some o =>
  obtain⟨u,z,n⟩:=(h2 a _ q).some;rcases r with r|⟨o,r⟩
  ·rw[z]at r;exact absurd (J6 r) (n xs).1
  ·rw[z]at r;exact absurd (J6 r) ((n xs).2 o)
 |none =>
  by_cases n:M1 a=none
  ·simp only[n,if_true];cases q2:M a with
   |none=>rfl
   |some o =>
    obtain⟨u,z,m⟩:=(hr a _ q2).some;have z2:=(e a _ z n).1;rcases r with r|⟨o,r⟩
    ·rw[z2]at r;exact absurd (J6 r) (m xs).1
    ·rw[z2]at r;exact absurd (J6 r) ((m xs).2 o)
  ·simp[n]
def noC:HD->Bool
 |.lst ds=>kI ds
 |.dK kvs=>kI (kvs.map (·.2))
 |.dT kvs=>kI (kvs.map (·.2))
 |.dKr _ _ kvs=>kI (kvs.map (·.2))
 |.ins _ fs=>kI (fs.map (·.2))
 |.ext _ ds=>kI ds
theorem KR.hard{κ:Type}{kvs:List (κ×D)}{ks:List (κ×V)}(h:KR K M H kvs ks) (n:kI (kvs.map (·.2))=true) (e:∀a xs,Rd H a (.tup xs)->M' a=none):KR K M' H kvs ks:=by
 unfold KR at h ⊢
 induction h with
 |nil=>exact .nil
 |cons r _ ih =>
  simp only[N7,kI,K1]at n;exact .cons ⟨r.1,Rep.hard n.1 r.2 e⟩ (ih n.2)
theorem HR.back(hr:HR K M H) (h:LeM M1 M) (e:Ext M1 H M2 H2) (h2:HR K M2 H2) (hd:∀a o,M2 a=some o->noC o=true):HR K (iy M M1 M2) H2:=by
 have eb:Ext M H (iy M M1 M2) H2:=Ext.back h e;intro a o q;unfold iy at q;cases q2:M2 a with
 |some o2 =>
  rw[q2]at q;cases q;have c:=h2 a _ q2;have n:=hd a _ q2;cases o with
  |lst ds=>obtain⟨vs,z,t⟩:=c;exact⟨vs,z,ar.hard n t (cC hr h e h2)⟩
  |ext φ ds=>obtain⟨vs,z,t⟩:=c;exact⟨vs,z,ar.hard n t (cC hr h e h2)⟩
  |dK kvs=>obtain⟨vs,z,t⟩:=c;exact⟨vs,z,KR.hard t n (cC hr h e h2)⟩
  |dT kvs=>obtain⟨vs,z,t⟩:=c;exact⟨vs,z,KR.hard t n (cC hr h e h2)⟩
  |ins C fs=>obtain⟨vs,z,t⟩:=c;exact⟨vs,z,KR.hard t n (cC hr h e h2)⟩
  |dKr o ks kvs=>obtain⟨vs,z,t⟩:=c;exact⟨vs,z,KR.hard t n (cC hr h e h2)⟩
 |none =>
  rw[q2]at q
  by_cases n:M1 a=none
  ·simp only[n,if_true]at q;have c:=hr a _ q;obtain⟨u,z,_⟩:=c.some;exact c.keep eb (by rw[z];exact(e a _ z n).1)
  ·simp[n]at q
abbrev DE:=List (Option D)
def SR(K:o0) (M:DH) (H:Hp) (σ:St) (Δ:DE):Prop:=σ.length=Δ.length/\∀(i:Nat) (d:D),Δ[i]?=some (some d)->∃v,σ[i]?=some (some v)/\Rep K M H d v
theorem SR.ext{σ:St}{Δ:DE}(h:SR K M H σ Δ) (e:Ext M H M' H'):SR K M' H' σ Δ:=⟨h.1,fun i d q=>let⟨v,a,r⟩:=h.2 i d q;⟨v,a,r.ext e⟩⟩
theorem SR.set{σ:St}{Δ:DE}{d:D}{v:V}(h:SR K M H σ Δ) (i:Nat) (r:Rep K M H d v):SR K M H (σ.set i (some v)) (Δ.set i (some d)):=by
 refine⟨by simp[h.1],fun j e q=>?_⟩
 by_cases hj:j=i
 ·subst hj
  by_cases hl:j<Δ.length
  ·rw[Q3 hl]at q;cases q;exact⟨v,Q3 (by rw[h.1];exact hl),r⟩
  ·rw[List.getElem?_eq_none (by simp;lia)]at q;cases q
 ·rw[T9 (W6 hj)]at q ⊢;exact h.2 j e q
abbrev TEd:=DE->DH->(D->DH->Prop)->Prop
abbrev TAd:=DE->DH->(List D->DH->Prop)->Prop
abbrev TTd:=DE->DH->(Bool->DH->Prop)->Prop
structure gn where
 nx:DE->DH->Prop
 rt:D->DH->Prop
 bk:DE->DH->Prop:=fun _ _=>False
 ct:DE->DH->Prop:=fun _ _=>False
abbrev TSd:=gn->DE->DH->Prop
def up(K:o0) (t:TEd):TE:=fun σ H Q=>∃(Δ:DE) (M:DH) (R:D->DH->Prop),SR K M H σ Δ/\HR K M H/\t Δ M R /\
 ∀d M' v H',R d M'->Ext M H M' H'->HR K M' H'->Rep K M' H' d v->Q v H'
def upA(K:o0) (t:TAd):TA:=fun σ H Q=>∃(Δ:DE) (M:DH) (R:List D->DH->Prop),SR K M H σ Δ/\HR K M H/\t Δ M R /\
 ∀ds M' vs H',R ds M'->Ext M H M' H'->HR K M' H'->ar K M' H' ds vs->Q vs H'
def upT(K:o0) (t:TTd):TT:=fun σ H Q=>∃(Δ:DE) (M:DH) (R:Bool->DH->Prop),SR K M H σ Δ/\HR K M H/\t Δ M R /\
 ∀b M' H',R b M'->Ext M H M' H'->HR K M' H'->Q b H'
theorem upT.el{K:o0}{t:TTd}{σ:St}{H:Hp}{Q:Bool->Hp->Prop}{P:Prop}(h:upT K t σ H Q) (f:∀(Δ:DE) (M:DH) (R:Bool->DH->Prop),SR K M H σ Δ->HR K M H->t Δ M R->(∀b M' H',R b M'->Ext M H M' H'->HR K M' H'->Q b H')->P):P:=by
 obtain⟨x1,x2,x3,a,b,c,d⟩:=h;exact f x1 x2 x3 a b c d
theorem up.el{K:o0}{t:TEd}{σ:St}{H:Hp}{Q:VK}{P:Prop}(h:up K t σ H Q) (f:∀(Δ:DE) (M:DH) (R:D->DH->Prop),SR K M H σ Δ->HR K M H->t Δ M R->(∀d M' v H',R d M'->Ext M H M' H'->HR K M' H'->Rep K M' H' d v->Q v H')->P):P:=by
 obtain⟨x1,x2,x3,a,b,c,d⟩:=h;exact f x1 x2 x3 a b c d
theorem upA.el{K:o0}{t:TAd}{σ:St}{H:Hp}{Q:List V->Hp->Prop}{P:Prop}(h:upA K t σ H Q) (f:∀(Δ:DE) (M:DH) (R:List D->DH->Prop),SR K M H σ Δ->HR K M H->t Δ M R->(∀ds M' vs H',R ds M'->Ext M H M' H'->HR K M' H'->ar K M' H' ds vs->Q vs H')->P):P:=by
 obtain⟨x1,x2,x3,a,b,c,d⟩:=h;exact f x1 x2 x3 a b c d
structure UpE(K:o0) (E:gn) (D:qY) (M:DH) (H:Hp):Prop where
 nx:∀ Δ' M' σ' H',E.nx Δ' M'->Ext M H M' H'->HR K M' H'->SR K M' H' σ' Δ'->D.nx σ' H'
 bk:∀ Δ' M' σ' H',E.bk Δ' M'->Ext M H M' H'->HR K M' H'->SR K M' H' σ' Δ'->D.bk σ' H'
 ct:∀ Δ' M' σ' H',E.ct Δ' M'->Ext M H M' H'->HR K M' H'->SR K M' H' σ' Δ'->D.ct σ' H'
 rt:∀d M' v H',E.rt d M'->Ext M H M' H'->HR K M' H'->Rep K M' H' d v->D.rt v H'
theorem UpE.ext{E:gn}{D:qY}(u:UpE K E D M H) (e:Ext M H M' H'):UpE K E D M' H' :=
 ⟨fun a b c d h x=>u.nx a b c d h (e.trans x),fun a b c d h x=>u.bk a b c d h (e.trans x),fun a b c d h x=>u.ct a b c d h (e.trans x),fun a b c d h x=>u.rt a b c d h (e.trans x)⟩
def upS(K:o0) (t:TSd):TS:=fun D σ H=>∃(Δ:DE) (M:DH) (E:gn),SR K M H σ Δ/\HR K M H/\t E Δ M/\UpE K E D M H
theorem upS.el{K:o0}{t:TSd}{E:qY}{σ:St}{H:Hp}{P:Prop}(h:upS K t E σ H) (f:∀(Δ:DE) (M:DH) (R:gn),SR K M H σ Δ->HR K M H->t R Δ M->UpE K R E M H->P):P:=by
 obtain⟨x1,x2,x3,a,b,c,d⟩:=h;exact f x1 x2 x3 a b c d
def PEd(X:Cx) (e:J5) (t:TEd):Prop:=PE X e (up X.K t)
def PAd(X:Cx) (es:List J5) (t:TAd):Prop:=PA X es (upA X.K t)
def PTd(X:Cx) (e:J5) (t:TTd):Prop:=PT X e (upT X.K t)
def PWd(X:Cx) (e:J5) (t:TTd):Prop:=PW X e (upT X.K t)
def PSd(X:Cx) (st:aa2) (t:TSd):Prop:=PS X st (upS X.K t)
def xC(X:Cx) (st:List aa2) (t:TSd):Prop:=PSs X st (upS X.K t)
theorem PE.conv{X:Cx}{e:J5}{t t':TE}(h:PE X e t) (k:∀ σ H Q,t' σ H Q->t σ H Q):PE X e t':=fun p s σ H Q I q=>h p s σ H Q I (k σ H Q q)
theorem PT.conv{X:Cx}{e:J5}{t t':TT}(h:PT X e t) (k:∀ σ H Q,t' σ H Q->t σ H Q):PT X e t':=fun p s σ H Q I q=>h p s σ H Q I (k σ H Q q)
theorem PA.conv{X:Cx}{e:List J5}{t t':TA}(h:PA X e t) (k:∀ σ H Q,t' σ H Q->t σ H Q):PA X e t':=fun ps p s σ H Q I q=>h ps p s σ H Q I (k σ H Q q)
theorem PS.conv{X:Cx}{e:aa2}{t t':TS}(h:PS X e t) (k:∀D σ H,t' D σ H->t D σ H):PS X e t':=fun p s σ H D I q=>h p s σ H D I (k D σ H q)
theorem PSs.conv{X:Cx}{e:List aa2}{t t':TS}(h:PSs X e t) (k:∀D σ H,t' D σ H->t D σ H):PSs X e t':=fun p s σ H D I q=>h p s σ H D I (k D σ H q)
section
variable{X:Cx}{a b c:J5}{es:List J5}{ta tb:TEd}{pos:Pos}
def eJ(i:Nat):TEd:=fun Δ M Q=>∃d,Δ[i]?=some (some d)/\Q d M
def dC(d:D):TEd:=fun _ M Q=>Q d M
def rC:TAd:=fun _ M Q=>Q [] M
def fj(ta:TEd) (tr:TAd):TAd:=fun Δ M Q=>ta Δ M fun x M1=>tr Δ M1 fun xs M2=>Q (x::xs) M2
def zf(t:TAd):TEd:=fun Δ M Q=>t Δ M fun ds M1=>ds.length<=F2/\Q (.tup ds) M1
def DD(t:TAd):TEd:=fun Δ M Q=>t Δ M fun ds M1=>ds.length<=F2/\Q (.lst ds) M1
def AQ(t:TAd):TEd:=fun Δ M Q=>t Δ M fun ds M1=>ds.length<=F2/\∀p,M1 p=none->Q (.ref p) (aw M1 p (.lst ds))
def rdM(M:DH):D->D
 |.ref a=>match M a with|some (.lst ds)=>.lst ds|_=>.ref a
 |d=>d
def aX(K:o0) (M:DH) (H:Hp) (d:D) (v:V):Prop:=match d with
 |.tup ds=>∃a vs,v=.ref a/\SqT K H a vs/\ar K M H ds vs
 |.lst ds=>∃a vs,v=.ref a/\H a=some (.lst vs)/\ar K M H ds vs
 |.scr ds=>∃a vs,v=.ref a/\SqL K H a vs/\ar K M H ds vs
 |d=>Rep K M H d v
theorem n6.sq{K:o0}{M:DH}{H:Hp}{a:F9}{vs:List V}(h:n6 K M H a vs):SqT K H a vs:=by
 rcases h with⟨h,_⟩|h
 ·exact .inl h
 ·rcases h with(h|⟨_,h⟩)|h
  ·cases h
  ·cases h
  ·exact .inr h
theorem nt.sq{K:o0}{M:DH}{H:Hp}{a:F9}{vs:List V}(h:nt K M H a vs):SqL K H a vs:=by
 rcases h with⟨⟨o,h⟩,_⟩|h
 ·exact .inl (.inr ⟨o,h⟩)
 ·rcases h with(h|⟨_,h⟩)|h
  ·cases h
  ·cases h
  ·exact .inr h
theorem Rep.rd{K:o0}{M:DH}{H:Hp}{d:D}{v:V}(hr:HR K M H) (h:Rep K M H d v):aX K M H (rdM M d) v:=by
 cases d with
 |tup ds=>simp only[Rep]at h;obtain⟨a,vs,e,t,r⟩:=h;exact⟨a,vs,e,t.sq,r⟩
 |lst ds=>simp only[Rep]at h;obtain⟨a,vs,e,t,r⟩:=h;exact⟨a,vs,e,t.1,r⟩
 |scr ds=>simp only[Rep]at h;obtain⟨a,vs,e,t,r⟩:=h;exact⟨a,vs,e,t.sq,r⟩
 |ref a =>
  simp only[rdM];cases q:M a with
  |none=>exact h
  |some o =>
   cases o with
   |lst ds =>
    obtain⟨vs,e,r⟩:=hr a _ q;simp only[Rep]at h;exact⟨a,vs,h,e,r⟩
   |dK _=>exact h
   |dT _=>exact h
   |dKr _ _ _=>exact h
   |ins _ _=>exact h
   |ext _ _=>exact h
 |non=>exact h
 |bl b=>exact h
 |int i=>exact h
 |str x=>exact h
 |emp=>exact h
 |box _ _=>exact h
def bM(X:Cx) (f:u8->u8->Sem u8) (r:D->D->Option D):Prop :=
 ∀(ag:List (F9×Obj)) (s:F1) (σ:St) (H:Hp) (M:DH) (x y:V) (v u:u8) (dx dy dz:D) (Q:VK),Inv X ag σ H s->HR X.K M H->aL x v->aL y u->aX X.K M H dx x->aX X.K M H dy y->r dx dy=some dz ->
  (∀w H',Ext M H M H'->HR X.K M H'->Rep X.K M H' dz w->Q w H')->J4 (K3 X.prog X.w) X.A (f v u) (EP X ag σ Q) X.xe s
def D2(X:Cx) (f:u8->Sem u8) (r:D->Option D):Prop :=
 ∀(ag:List (F9×Obj)) (s:F1) (σ:St) (H:Hp) (M:DH) (x:V) (v:u8) (dx dz:D) (Q:VK),Inv X ag σ H s->HR X.K M H->aL x v->aX X.K M H dx x->r dx=some dz ->
  (∀w H',Ext M H M H'->HR X.K M H'->Rep X.K M H' dz w->Q w H')->J4 (K3 X.prog X.w) X.A (f v) (EP X ag σ Q) X.xe s
def bK(X:Cx) (f:u8) (r:List D->Option D):Prop :=
 ∀(ag:List (F9×Obj)) (s:F1) (σ:St) (H:Hp) (M:DH) (xs:List V) (us:List u8) (ds:List D) (dz:D) (Q:VK),Inv X ag σ H s->HR X.K M H->aB xs us->P5 (aX X.K M H) ds xs->r ds=some dz ->
  (∀w H',Ext M H M H'->HR X.K M H'->Rep X.K M H' dz w->Q w H')->J4 (K3 X.prog X.w) X.A (call f us) (EP X ag σ Q) X.xe s
def dOp(r:D->D->Option D) (ta tb:TEd):TEd:=fun Δ M Q=>ta Δ M fun x M1=>tb Δ M1 fun y M2=>∃z,r (rdM M2 x) (rdM M2 y)=some z/\Q z M2
def dUn(r:D->Option D) (ta:TEd):TEd:=fun Δ M Q=>ta Δ M fun x M1=>∃z,r (rdM M1 x)=some z/\Q z M1
def opV(K:o0) (r:D->D->Option D):R2:=fun x y H Q=>∃dx dy dz M,HR K M H/\aX K M H dx x/\aX K M H dy y/\r dx dy=some dz/\∀w H',Ext M H M H'->HR K M H'->Rep K M H' dz w->Q w H'
theorem bM.v{f:u8->u8->Sem u8}{r:D->D->Option D}(h:bM X f r):OpR X f (opV X.K r):=fun ag s σ H x y v u Q I rx ry ⟨dx,dy,dz,M,hr,r1,r2,e,k⟩=>h ag s σ H M x y v u dx dy dz Q I hr rx ry r1 r2 e k
theorem yh{K:o0}{r:D->D->Option D}{ta tb:TEd}:∀ σ H Q,up K (dOp r ta tb) σ H Q->tOp (opV K r) (up K ta) (up K tb) σ H Q:=fun σ H Q hup=>hup.el fun Δ M R sr hr q k =>
 ⟨Δ,M,_,sr,hr,q,fun x M1 v H1 q1 e1 hr1 rv=>⟨Δ,M1,_,sr.ext e1,hr1,q1,fun y M2 u H2 ⟨z,ez,q2⟩ e2 hr2 ru=>⟨_,_,z,M2,hr2,(rv.ext e2).rd hr2,ru.rd hr2,ez,fun w H' e3 hr3 rw_=>k z M2 w H' q2 ((e1.trans e2).trans e3) hr3 rw_⟩⟩⟩
def lO(t:TEd):TTd:=fun Δ M Q=>t Δ M fun x M1=>∃k,x=.bl k/\Q k M1
theorem Ek{K:o0}{t:TEd}:∀ σ H Q,upT K (lO t) σ H Q->wV (up K t) σ H Q:=fun σ H Q hup=>hup.el fun Δ M R sr hr q k =>
 ⟨Δ,M,_,sr,hr,q,fun d M1 v H1 ⟨b,e,q1⟩ e1 hr1 rv=>⟨b,by subst e;simpa only[Rep]using rv,k b M1 H1 q1 e1 hr1⟩⟩
def A7(t:TTd):TTd:=fun Δ M Q=>t Δ M fun c M1=>Q (!c) M1
def wB(t u:TTd):TTd:=fun Δ M Q=>t Δ M fun c M1=>if c=true then u Δ M1 Q else Q false M1
def EM(t u:TTd):TTd:=fun Δ M Q=>t Δ M fun c M1=>if c=true then Q true M1 else u Δ M1 Q
variable{tA tB':TTd}{bZ:List J5}
theorem PW.conv{X:Cx}{e:J5}{t t':TT}(h:PW X e t) (k:∀ σ H Q,t' σ H Q->t σ H Q):PW X e t':=fun w p s σ H Q I q=>h w p s σ H Q I (k σ H Q q)
theorem PWd.pt{e:J5}{t:TTd}(h:PWd X e t):PTd X e t:=PW.pt h
def EA(ta tb:TEd):TEd:=fun Δ M Q=>ta Δ M fun x M1=>∃c,x=.bl c/\if c=true then tb Δ M1 Q else Q (.bl false) M1
def dIf(t:TTd) (ta tb:TEd):TEd:=fun Δ M Q=>t Δ M fun c M1=>if c=true then ta Δ M1 Q else tb Δ M1 Q
def sf(r r':D->D->Option D) (ta tb tc:TEd):TEd:=fun Δ M Q=>ta Δ M fun x M1=>tb Δ M1 fun y M2=>∃k,r (rdM M2 x) (rdM M2 y)=some (.bl k)/\if k=true then tc Δ M2 fun z M3=>∃w,r' (rdM M3 y) (rdM M3 z)=some w/\Q w M3 else Q (.bl false) M2
theorem uP{K:o0}{M:DH}{H:Hp}(hr:HR K M H):∀{ds:List D}{vs:List V},ar K M H ds vs->P5 (aX K M H) (ds.map (rdM M)) vs
 |[],_,h=>by simp only[ar]at h;subst h;exact .nil
 |d::ds,_,h=>by
  simp only[ar]at h;obtain⟨v,ws,rfl,h1,h2⟩:=h;exact .cons (h1.rd hr) (uP hr h2)
def dCB(r:List D->Option D) (t:TAd):TEd:=fun Δ M Q=>t Δ M fun ds M1=>∃z,r (ds.map (rdM M1))=some z/\Q z M1
theorem AN{K:o0}{r:List D->Option D}{t:TAd}:∀ σ H Q,up K (dCB r t) σ H Q->tCB (fun xs H Q=>∃ds dz M,HR K M H/\P5 (aX K M H) ds xs/\r ds=some dz/\∀w H',Ext M H M H'->HR K M H'->Rep K M H' dz w->Q w H') (upA K t) σ H Q:=fun σ H Q hup=>hup.el fun Δ M R sr hr q k =>
 ⟨Δ,M,_,sr,hr,q,fun ds M1 vs H1 ⟨z,ez,q1⟩ e1 hr1 rv=>⟨_,z,M1,hr1,uP hr1 rv,ez,fun w H' e2 hr2 r2=>k z M1 w H' q1 (e1.trans e2) hr2 r2⟩⟩
theorem bK.v{f:u8}{r:List D->Option D}(h:bK X f r):dF X f (fun xs H Q=>∃ds dz M,HR X.K M H/\P5 (aX X.K M H) ds xs/\r ds=some dz/\∀w H',Ext M H M H'->HR X.K M H'->Rep X.K M H' dz w->Q w H') :=
 fun ag s σ H xs us Q I rv ⟨ds,dz,M,hr,rr,e,k⟩=>h ag s σ H M xs us ds dz Q I hr rv rr e k
end
section
variable{X:Cx}
theorem bM.of{f:u8->u8->Sem u8}{r2:R2}{r:D->D->Option D}(h:OpR X f r2)
  (k:∀(H:Hp) (M:DH) (x y:V) (dx dy dz:D) (Q:VK),HR X.K M H->aX X.K M H dx x->aX X.K M H dy y->r dx dy=some dz->(∀w H',Ext M H M H'->HR X.K M H'->Rep X.K M H' dz w->Q w H')->r2 x y H Q):bM X f r :=
 fun ag s σ H M x y v u dx dy dz Q I hr rx ry r1 r2 e q=>h ag s σ H x y v u Q I rx ry (k H M x y dx dy dz Q hr r1 r2 e q)
theorem bK.of{f:u8}{r2:List V->Hp->VK->Prop}{r:List D->Option D}(h:dF X f r2)
  (k:∀(H:Hp) (M:DH) (xs:List V) (ds:List D) (dz:D) (Q:VK),HR X.K M H->P5 (aX X.K M H) ds xs->r ds=some dz->(∀w H',Ext M H M H'->HR X.K M H'->Rep X.K M H' dz w->Q w H')->r2 xs H Q):bK X f r :=
 fun ag s σ H M xs us ds dz Q I hr rv r1 e q=>h ag s σ H xs us Q I rv (k H M xs ds dz Q hr r1 e q)
theorem fC{K:o0}{M:DH}{H:Hp}{i:Int}{v:V}(h:aX K M H (.int i) v):v=.int i:=by simpa[aX,Rep]using h
theorem nj{K:o0}{M:DH}{H:Hp}{i:Str}{v:V}(h:aX K M H (.str i) v):v=.str i:=by simpa[aX,Rep]using h
theorem Fb{K:o0}{M:DH}{H:Hp}{v:V}(h:aX K M H .non v):v=.non:=by simpa[aX,Rep]using h
def iOp(f:Int->Int->Option D):D->D->Option D
 |.int a,.int b=>f a b
 |_,_=>none
theorem mQ{f:Int->Int->Option D}{x y z:D}(h:iOp f x y=some z):∃a b,x=.int a/\y=.int b/\f a b=some z:=by
 cases x<;>first|cases h|skip
 rename_i a;cases y<;>first|cases h|skip
 rename_i b;exact⟨a,b,rfl,rfl,h⟩
noncomputable def bv:D->Bool
 |.non=>true|.bl _=>true|.int _=>true|.str _=>true|_=>false
def toV:D->V
 |.bl b=>.bl b|.int i=>.int i|.str x=>.str x|_=>.non
theorem qG{K:o0}{M:DH}{H:Hp}{d:D}(h:bv d=true):Rep K M H d (toV d):=by
 cases d<;>first|(simp[Rep,toV];done)|cases h
theorem uw{f:u8->u8->Sem u8}{C:Int->Int->Prop} [∀i j,Decidable (C i j)] {g:Int->Int->D}(hs:∀i j,bv (g i j)=true) (h:OpR X f (rI C fun i j=>toV (g i j))) :
  bM X f (iOp fun i j=>if C i j then some (g i j)else none) :=
 bM.of h fun H M x y dx dy dz Q hr r1 r2 e q=>by
  obtain⟨a,b,rfl,rfl,e'⟩:=mQ e;clear e;have e:=e'
  by_cases hc:C a b
  ·rw[if_pos hc]at e;cases e;exact⟨a,b,fC r1,fC r2,hc,q _ _ (Ext.refl _ _) hr (qG (hs a b))⟩
  ·rw[if_neg hc]at e;cases e
theorem pG{f:u8->u8->Sem u8}{g:Int->Int->D}(hs:∀i j,bv (g i j)=true) (h:OpR X f (rI0 fun i j=>toV (g i j))) :
  bM X f (iOp fun i j=>some (g i j)) :=
 bM.of h fun H M x y dx dy dz Q hr r1 r2 e q=>by
  obtain⟨a,b,rfl,rfl,e⟩:=mQ e;cases e;exact⟨a,b,fC r1,fC r2,q _ _ (Ext.refl _ _) hr (qG (hs a b))⟩
instance:∀i j,Decidable (o3 i j):=fun i j=>by unfold o3;exact inferInstance
instance:∀i j,Decidable (jO i j):=fun i j=>by unfold jO;exact inferInstance
instance:∀i j,Decidable (pS i j):=fun i j=>by unfold pS;exact inferInstance
theorem fk:bM X (P2 .Sub) (iOp fun i j=>some (.int (i-j))):=pG (fun _ _=>rfl) BA
theorem CF:bM X (P2 .Mult) (iOp fun i j=>if jO i j then some (.int (i*j))else none):=uw (fun _ _=>rfl) BB
theorem qQ:bM X (P2 .Mod) (iOp fun i j=>if 0<j then some (.int (i % j))else none):=uw (C:=fun _ j=>0<j) (fun _ _=>rfl) BN
theorem AD:bM X (P2 .Pow) (iOp fun i j=>if pS i j then some (.int (i ^ j.toNat))else none):=uw (fun _ _=>rfl) B0
theorem nh:bM X (L6 .Lt) (iOp fun i j=>some (.bl (decide (i<j)))):=pG (fun _ _=>rfl) Es
theorem oC:bM X (L6 .LtE) (iOp fun i j=>some (.bl (decide (i<=j)))):=pG (fun _ _=>rfl) Eh
theorem u5:bM X (L6 .Gt) (iOp fun i j=>some (.bl (decide (j<i)))):=pG (fun _ _=>rfl) D8
theorem ar.at_{K:o0}{M:DH}{H:Hp}{ds:List D}{vs:List V}{i:Int}{d:D}(h:ar K M H ds vs) (e:atI ds i=some d):∃v,atI vs i=some v/\Rep K M H d v:=by
 unfold atI at e ⊢;rw[<-h.length];cases q:ixN ds.length i with
 |none=>rw[q]at e;cases e
 |some j =>
  rw[q]at e;have e':ds[j]?=some d:=e;obtain⟨v,a,b⟩:=h.get e';exact⟨v,a,b⟩
def ixD:D->D->Option D
 |.tup ds,.int i=>atI ds i
 |.lst ds,.int i=>atI ds i
 |.scr ds,.int i=>atI ds i
 |.str z,.int i=>if z.length<=F2 then(atI z.cps.toList i).map fun c=>.str ⟨#[c]⟩else none
 |_,_=>none
theorem aI:IxR X (opV X.K ixD):=by
 intro value slice ag s σ H x y v u Q I rx ry h hs;obtain⟨dx,dy,dz,M,hr,r1,r2,e,k⟩:=h;cases dx with
 |tup ds =>
  cases dy with
  |int i =>
   obtain⟨a,vs,rfl,sq,rl⟩:=r1;obtain⟨w,e2,rw_⟩:=rl.at_ e;exact BU value slice ag s σ H _ _ v u Q I rx ry ⟨a,vs,i,w,rfl,fC r2,sq,e2,k w H (Ext.refl _ _) hr rw_⟩ hs
  |_=>cases e
 |lst ds =>
  cases dy with
  |int i =>
   obtain⟨a,vs,rfl,sq,rl⟩:=r1;obtain⟨w,e2,rw_⟩:=rl.at_ e;exact uz value slice ag s σ H _ _ v u Q I rx ry ⟨a,vs,i,w,rfl,fC r2,SqL.of sq,e2,k w H (Ext.refl _ _) hr rw_⟩ hs
  |_=>cases e
 |scr ds =>
  cases dy with
  |int i =>
   obtain⟨a,vs,rfl,sq,rl⟩:=r1;obtain⟨w,e2,rw_⟩:=rl.at_ e;exact uz value slice ag s σ H _ _ v u Q I rx ry ⟨a,vs,i,w,rfl,fC r2,sq,e2,k w H (Ext.refl _ _) hr rw_⟩ hs
  |_=>cases e
 |str z =>
  cases dy with
  |int i =>
   simp only[ixD]at e
   by_cases hz:z.length<=F2
   ·rw[if_pos hz]at e;cases q:atI z.cps.toList i with
    |none=>rw[q]at e;cases e
    |some c =>
     rw[q]at e;cases e;exact Cq value slice ag s σ H _ _ v u Q I rx ry ⟨z,i,c,nj r1,fC r2,hz,q,k _ H (Ext.refl _ _) hr (by simp[Rep])⟩ hs
   ·rw[if_neg hz]at e;cases e
  |_=>cases e
 |_=>cases e
noncomputable def kl:D->D->Option D
 |.int a,.int b=>some (.int (a+b))
 |.str a,.str b=>if a.length+b.length<=F2 then some (.str (a++b))else none
 |.lst a,.lst b=>if a.length+b.length<=F2 then some (.lst (a++b))else none
 |.tup a,.tup b=>if a.length+b.length<=F2 then some (.tup (a++b))else none
 |_,_=>none
theorem fu{K:o0}{M:DH}{H:Hp}{p:F9}{ds:List D}{vs:List V}{Q:VK}(hr:HR K M H) (hp:H p=none) (r:ar K M H ds vs) (q:∀w H',Ext M H M H'->HR K M H'->Rep K M H' (.lst ds) w->Q w H'):Q (.ref p) (upd H p (.lst vs)) :=
 q _ _ (Ext.new hr hp) (hr.new hp) (by simp only[Rep];exact⟨p,vs,rfl,⟨aG,hr.fresh hp⟩,r.ext (Ext.new hr hp)⟩)
theorem jJ{K:o0}{M:DH}{H:Hp}{p:F9}{ds:List D}{vs:List V}{Q:VK}(hr:HR K M H) (hp:H p=none) (r:ar K M H ds vs) (q:∀w H',Ext M H M H'->HR K M H'->Rep K M H' (.tup ds) w->Q w H'):Q (.ref p) (upd H p (.tup vs)) :=
 q _ _ (Ext.new hr hp) (hr.new hp) (by simp only[Rep];exact⟨p,vs,rfl,.inl ⟨.inl aG,hr.fresh hp⟩,r.ext (Ext.new hr hp)⟩)
theorem aX.tup{K:o0}{M:DH}{H:Hp}{ds:List D}{v:V}(hr:HR K M H) (h:aX K M H (.tup ds) v):Rep K M H (.tup ds) v:=by
 obtain⟨a,vs,rfl,sq,rl⟩:=h;simp only[Rep];refine⟨a,vs,rfl,?_,rl⟩;rcases sq with r|k
 ·refine .inl ⟨r,?_⟩;cases q:M a with
  |none=>rfl
  |some o =>
   obtain⟨u,z,m⟩:=(hr a _ q).some;rcases r with r|⟨ob,r⟩
   ·rw[z]at r;exact absurd (J6 r) (m _).1
   ·rw[z]at r;exact absurd (J6 r) ((m _).2 ob)
 ·exact .inr (.inr k)
theorem yr{prog:L5}{w:P6}{A:N3}{E:u8->F1->Prop}{s:F1}{t b:F9}{ws:List u8}{Q:u8->F1->Prop}(ht:ab8 s.heap t ([]:List u8).toArray) (hb:ab8 s.heap b ws.toArray)
  (h:Q (.ref b) s):J4 (K3 prog w) A (P2 .Add (.ref t) (.ref b)) Q E s:=by
 obtain⟨⟨cls,dd,data,sl⟩,ho,hc,n,hd⟩:=id ht;obtain⟨⟨cls2,dd2,data2,sl2⟩,ho2,hc2,n2,hd2⟩:=id hb;simp only at hc hd hc2 hd2;subst hc hd hc2 hd2;exact concat_meets ⟨_,ho,rfl⟩ ⟨_,ho2,rfl⟩ noFill_tuple_add seq_tuple_add PySem.F.slot_tuple_add PySem.F.entry_tuple_add (PySem.F.args_tuple_add_2 _ _)
   (tuple_addW0 t b ([]:List u8).toArray ws.toArray n n2 dd dd2 sl sl2 (by simp)) ⟨ho,ho2,h⟩
theorem aM:bM X (P2 .Add) kl:=by
 intro ag s σ H M x y v u dx dy dz Q I hr rx ry r1 r2 e k;cases dx with
 |int a =>
  cases dy with
  |int b =>
   cases e;exact BJ ag s σ H x y v u Q I rx ry ⟨a,b,fC r1,fC r2,k _ H (Ext.refl _ _) hr (by simp[Rep])⟩
  |_=>cases e
 |str a =>
  cases dy with
  |str b =>
   simp only[kl]at e
   by_cases hz:a.length+b.length<=F2
   ·rw[if_pos hz]at e;cases e;exact sC ag s σ H x y v u Q I rx ry ⟨a,b,nj r1,nj r2,hz,k _ H (Ext.refl _ _) hr (by simp[Rep])⟩
   ·rw[if_neg hz]at e;cases e
  |_=>cases e
 |lst a =>
  cases dy with
  |lst b =>
   simp only[kl]at e
   by_cases hz:a.length+b.length<=F2
   ·rw[if_pos hz]at e;cases e;obtain⟨l1,vs,rfl,h1,l1r⟩:=r1;obtain⟨l2,ws,rfl,h2,l2r⟩:=r2;exact wk ag s σ H _ _ v u Q I rx ry ⟨l1,l2,vs,ws,rfl,rfl,h1,h2,by rw[<-l1r.length,<-l2r.length];exact hz,fun p hp=>fu hr hp (l1r.append l2r) k⟩
   ·rw[if_neg hz]at e;cases e
  |_=>cases e
 |tup a =>
  cases dy with
  |tup b =>
   simp only[kl]at e
   by_cases hz:a.length+b.length<=F2
   ·rw[if_pos hz]at e;cases e;have t1:=aX.tup hr r1;have t2:=aX.tup hr r2;obtain⟨l1,vs,rfl,h1,l1r⟩:=r1;obtain⟨l2,ws,rfl,h2,l2r⟩:=r2
    by_cases hv:vs=[]
    ·subst hv;have ea:a=[]:=by
      have:=l1r.length;cases a with
      |nil=>rfl
      |cons _ _=>simp at this
     subst ea;cases rx;cases ry;obtain⟨its,q1,p1,_⟩:=I.tuple h1;obtain⟨its2,q2,p2,_⟩:=I.tuple h2;cases q1;exact yr p1 p2 ⟨.ref l2,H,I,rfl,k _ H (Ext.refl _ _) hr t2⟩
    ·refine zS ag s σ H _ _ v u Q I rx ry ⟨l1,l2,vs,ws,rfl,rfl,h1,h2,hv,by rw[<-l1r.length,<-l2r.length];exact hz,fun hw=>?_,fun _ p hp=>jJ hr hp (l1r.append l2r) k⟩;subst hw;have eb:b=[]:=by
      have:=l2r.length;cases b with
      |nil=>rfl
      |cons _ _=>simp at this
     subst eb;rw[W9]at k;exact k _ H (Ext.refl _ _) hr t1
   ·rw[if_neg hz]at e;cases e
  |_=>cases e
 |_=>cases e
mutual
def eqD:D->D->Bool
 |.non,.non=>true
 |.bl a,.bl b=>a==b
 |.bl a,.int b=>(if a then 1 else 0)==b
 |.int a,.bl b=>a==(if b then 1 else 0)
 |.int a,.int b=>a==b
 |.str a,.str b=>a==b
 |.tup a,.tup b=>cw a b
 |.lst a,.lst b=>cw a b
 |_,_=>false
def cw:List D->List D->Bool
 |[],[]=>true
 |a::as,b::bs=>eqD a b&&cw as bs
 |_,_=>false
end
mutual
def dLe:D->Nat->Bool
 |.tup _,0=>false
 |.tup ds,n+1=>cK ds n
 |.lst _,0=>false
 |.lst ds,n+1=>cK ds n
 |.scr _,_=>false
 |.emp,_=>false
 |.box _ _,_=>false
 |.ref _,_=>false
 |_,_=>true
def cK:List D->Nat->Bool
 |[],_=>true
 |d::ds,n=>dLe d n&&cK ds n
end
theorem jo:∀{ds:List D}{n i:Nat}{d:D},cK ds n=true->ds[i]?=some d->dLe d n=true
 |[],_,_,_,_,e=>by simp at e
 |d::ds,n,0,x,h,e=>by
  simp only[cK,K1]at h;simp at e;subst e;exact h.1
 |d::ds,n,i+1,x,h,e=>by
  simp only[cK,K1]at h;exact jo h.2 (by simpa using e)
theorem fD:∀{ds:List D}{n:Nat},cK ds n=true↔∀d∈ds,dLe d n=true
 |[],n=>by simp[cK]
 |d::ds,n=>by simp[cK,fD (ds:=ds)]
def eqN(ds es:List D) (j:Nat):Bool:=match ds[j]?,es[j]? with|some a,some b=>eqD a b|_,_=>false
theorem qU:∀{ds es:List D},cw ds es=true->ds.length=es.length
 |[],[],_=>rfl
 |[],_::_,h=>by simp[cw]at h
 |_::_,[],h=>by simp[cw]at h
 |_::ds,_::es,h=>by
  simp only[cw,K1]at h;simp[qU h.2]
theorem k7:∀{ds es:List D},cw ds es=((T7 (min ds.length es.length)).all (eqN ds es)&&ds.length==es.length)
 |[],[]=>by simp[cw]
 |[],_::_=>by simp[cw]
 |_::_,[]=>by simp[cw]
 |a::ds,b::es=>by
  have ih:=@k7 ds es;simp only[cw,S8,Nat.add_min_add_right,List.range_succ_eq_map,V1,List.all_map];have e0:eqN (a::ds) (b::es) 0=eqD a b:=by simp[eqN]
  have e1:(eqN (a::ds) (b::es))∘Nat.succ=eqN ds es:=by
   funext j;simp[eqN]
  rw[e0,e1,ih];have e2:(ds.length+1==es.length+1)=(ds.length==es.length):=by
   rw[Bool.eq_iff_iff];simp
  rw[e2,Bool.and_assoc]
theorem vb{ds es:List D}(h:ds.length=es.length):cw ds es=(T7 ds.length).all (eqN ds es):=by
 rw[k7,<-h,Nat.min_self];simp
theorem Rep.r{K:o0}{M:DH}{H:Hp}{d:D}{v:V}(h:Rep K M H d v):aX K M H d v:=by
 cases d with
 |tup ds=>simp only[Rep]at h;obtain⟨a,vs,e,t,r⟩:=h;exact⟨a,vs,e,t.sq,r⟩
 |lst ds=>simp only[Rep]at h;obtain⟨a,vs,e,t,r⟩:=h;exact⟨a,vs,e,t.1,r⟩
 |scr ds=>simp only[Rep]at h;obtain⟨a,vs,e,t,r⟩:=h;exact⟨a,vs,e,t.sq,r⟩
 |_=>exact h
theorem AJ{ag:List (F9×Obj)}{σ:St}{H:Hp}{s:F1}{a:F9}{vs ws:List V}(I:Inv X ag σ H s) (h:SqT X.K H a vs) (h':H a=some (.lst ws)):False:=by
 obtain⟨its,r,⟨o,e,c,n,d⟩,_⟩:=I.tuple h;obtain⟨_,its',n',_,e'⟩:=I.hok a _ h';rw[e]at e';cases e';exact absurd (show ac1 "list"=ac1 "tuple" from c) (by decide)
theorem vV{ag:List (F9×Obj)}{σ:St}{H:Hp}{s:F1}(I:Inv X ag σ H s) {M M':DH}:∀(n:Nat) {d e:D}{v:V},dLe d n=true->dLe e n=true->aX X.K M H d v->aX X.K M' H e v->eqD d e=true:=by
  intro n
  induction n with
  | zero =>
    intro d e v hd he r1 r2;cases d<;>first|(simp[dLe]at hd;done)|skip
    all_goals cases e<;>first|(simp[dLe]at he;done)|skip
    all_goals (simp only[aX,Rep]at r1 r2;subst r1;first|(cases r2;simp[eqD];done)|cases r2)
  | succ n ih =>
    intro d e v hd he r1 r2;have lists:∀{ds es:List D} {vs:List V},cK ds n=true->cK es n=true->ar X.K M H ds vs->ar X.K M' H es vs->cw ds es=true:=by
      intro ds
      induction ds with
      | nil =>
        intro es vs _ _ h1 h2;simp only[ar]at h1;subst h1;cases es with
        |nil=>simp[cw]
        |cons _ _=>simp[ar]at h2
      | cons a ds ihl =>
        intro es vs d1 d2 h1 h2;simp only[ar]at h1;obtain⟨v,ws,rfl,h3,h4⟩:=h1;cases es with
        |nil=>simp[ar]at h2
        | cons b es =>
          simp only[ar]at h2;obtain⟨v',ws',e',h5,h6⟩:=h2;cases e';simp only[cK,K1]at d1 d2;simp only[cw,K1];exact⟨ih d1.1 d2.1 h3.r h5.r,ihl d1.2 d2.2 h4 h6⟩
    cases d with
    | tup ds =>
      obtain⟨a,vs,rfl,sq,rl⟩:=r1;cases e with
      | tup es =>
        obtain⟨b,ws,e',sq',rl'⟩:=r2;cases e';have:=I.tuple_inj sq sq';subst this;simp only[eqD];exact lists (by simpa[dLe]using hd) (by simpa[dLe]using he) rl rl'
      | lst es =>
        obtain⟨b,ws,e',sq',rl'⟩:=r2;cases e';exact(AJ I sq sq').elim
      |_=>first|(simp[dLe]at he;done)|(simp only[aX,Rep]at r2;cases r2)
    | lst ds =>
      obtain⟨a,vs,rfl,sq,rl⟩:=r1;cases e with
      | lst es =>
        obtain⟨b,ws,e',sq',rl'⟩:=r2;cases e';rw[sq]at sq';cases sq';simp only[eqD];exact lists (by simpa[dLe]using hd) (by simpa[dLe]using he) rl rl'
      | tup es =>
        obtain⟨b,ws,e',sq',rl'⟩:=r2;cases e';exact(AJ I sq' sq).elim
      |_=>first|(simp[dLe]at he;done)|(simp only[aX,Rep]at r2;cases r2)
    | _ =>
      first
      |(simp[dLe]at hd;done)
      | (cases e with
         |tup es=>(obtain⟨b,ws,e',sq',rl'⟩:=r2;subst e';simp only[aX,Rep]at r1;cases r1)
         |lst es=>(obtain⟨b,ws,e',sq',rl'⟩:=r2;subst e';simp only[aX,Rep]at r1;cases r1)
         |_=>first|(simp[dLe]at he;done)|(simp only[aX,Rep]at r1 r2;subst r1;first|(cases r2;simp[eqD];done)|cases r2))
theorem aX.at{K:o0}{M:DH}{H:Hp}{d:D}{v:V}{u:u8}(r:aX K M H d v) (q:aL v u):match d with|.non=>u=.none|.bl b=>u=.bool b|.int i=>∃t,u=.int i t|.str x=>∃t,u=.str x t|_=>True:=by
 cases d<;>first|trivial|(simp only[aX,Rep]at r;subst r;exact q)
open PySem.SeqAt in
theorem rX{ag:List (F9×Obj)}{σ:St}{H:Hp}{s:F1}(I:Inv X ag σ H s) {M M':DH}:∀(n:Nat) {A:N3}{d e:D}{v w:V}{u1 u2:u8},A.units+n<Z9->dLe d n=true->dLe e n=true ->
  aX X.K M H d v->aX X.K M' H e w->aL v u1->aL w u2->EqAt A s u1 u2 (eqD d e)/\RcAt A s u1 u2 (eqD d e)/\RcNeAt A s u1 u2 (!(eqD d e)):=by
 intro n
 induction n with
 |zero =>
  intro A d e v w u1 u2 hu hd he r1 r2 q1 q2;have hu0:A.units<Z9:=by lia
  cases d<;>first|(simp[dLe]at hd;done)|skip
  all_goals cases e<;>first|(simp[dLe]at he;done)|skip
  all_goals simp only[aX,Rep]at r1 r2
  all_goals subst r1
  all_goals subst r2
  all_goals simp only[aL]at q1 q2
  all_goals first|(obtain⟨t1,rfl⟩:=q1)|subst q1
  all_goals first|(obtain⟨t2,rfl⟩:=q2)|subst q2
  all_goals simp only[eqD]
  ·exact⟨EqAt.same _,RcAt.none_none,RcNeAt.none_none⟩
  ·exact⟨EqAt.none_bool _,RcAt.none_bool _,RcNeAt.none_bool _⟩
  ·exact⟨EqAt.none_int _ _,RcAt.none_int _ _,RcNeAt.none_int _ _⟩
  ·exact⟨EqAt.none_str _ _,RcAt.none_str _ _,RcNeAt.none_str _ _⟩
  ·exact⟨EqAt.bool_none _,RcAt.bool_none _,RcNeAt.bool_none _⟩
  ·exact⟨EqAt.bool_bool _ _,RcAt.bool_bool _ _,RcNeAt.bool_bool _ _⟩
  ·exact⟨EqAt.bool_int _ _ _,RcAt.bool_int _ _ _,RcNeAt.bool_int _ _ _⟩
  ·exact⟨EqAt.bool_str _ _ _,RcAt.bool_str _ _ _,RcNeAt.bool_str _ _ _⟩
  ·exact⟨EqAt.int_none _ _,RcAt.int_none _ _,RcNeAt.int_none _ _⟩
  ·exact⟨EqAt.int_bool _ _ _,RcAt.int_bool _ _ _,RcNeAt.int_bool _ _ _⟩
  ·exact⟨EqAt.int_int _ _ _ _,RcAt.int_int _ _ _ _,RcNeAt.int_int _ _ _ _⟩
  ·exact⟨EqAt.int_str _ _ _ _,RcAt.int_str _ _ _ _,RcNeAt.int_str _ _ _ _⟩
  ·exact⟨EqAt.str_none _ _,RcAt.str_none _ _,RcNeAt.str_none _ _⟩
  ·exact⟨EqAt.str_bool _ _ _,RcAt.str_bool _ _ _,RcNeAt.str_bool _ _ _⟩
  ·exact⟨EqAt.str_int _ _ _ _,RcAt.str_int _ _ _ _,RcNeAt.str_int _ _ _ _⟩
  ·exact⟨EqAt.str_str _ _ _ _,RcAt.str_str _ _ _ _,RcNeAt.str_str _ _ _ _⟩
 |succ n ih =>
  intro A d e v w u1 u2 hu hd he r1 r2 q1 q2;have hu0:A.units<Z9:=by lia
  have hu1:A.in1.units+n<Z9:=by show A.units+1+n<Z9;lia
  have item:∀{ds es:List D} {vs ws:List V} {us us2:List u8},cK ds n=true->cK es n=true->ar X.K M H ds vs->ar X.K M' H es ws->aB vs us->aB ws us2 ->
    ∀j (h1:j<us.toArray.size) (h2:j<us2.toArray.size),EqAt A.in1 s us.toArray[j] us2.toArray[j] (eqN ds es j):=by
   intro ds es vs ws us us2 d1 d2 h1 h2 h3 h4 j hj1 hj2;have l1:=h1.length;have l2:=h2.length;have l3:=h3.length;have l4:=h4.length;have j1:j<ds.length:=by simp at hj1;lia
   have j2:j<es.length:=by simp at hj2;lia
   obtain⟨v1,g1,p1⟩:=h1.get (i:=j) (d:=ds[j]) (by simp[j1]);obtain⟨v2,g2,p2⟩:=h2.get (i:=j) (d:=es[j]) (by simp[j2]);obtain⟨u1,k1,m1⟩:=h3.get g1;obtain⟨u2,k2,m2⟩:=h4.get g2;have e1:us.toArray[j]=u1:=by
    simp at hj1;simpa[List.getElem?_eq_getElem hj1]using k1
   have e2:us2.toArray[j]=u2:=by
    simp at hj2;simpa[List.getElem?_eq_getElem hj2]using k2
   rw[e1,e2];have e3:eqN ds es j=eqD ds[j] es[j]:=by simp[eqN,j1,j2]
   rw[e3];exact(ih hu1 (jo d1 (i:=j) (by simp[j1])) (jo d2 (i:=j) (by simp[j2])) p1.r p2.r m1 m2).1
  have both:∀{a b:F9},v=.ref a->w=.ref b->RcAt A s (.ref a) (.ref b) (eqD d e)->EqAt A s (.ref a) (.ref b) (eqD d e):=by
   intro a b ea eb rc
   by_cases hab:a=b
   ·subst hab;subst ea;subst eb;rw[vV I (n+1) hd he r1 r2];exact EqAt.same _
   ·exact EqAt.of_refs hab rc
  cases d with
  |tup ds =>
   obtain⟨a,vs,rfl,sq,rl⟩:=id r1;cases q1;obtain⟨its,rv,pt,_⟩:=I.tuple sq;have hd':cK ds n=true:=by simpa[dLe]using hd
   cases e with
   |tup es =>
    obtain⟨b,ws,rfl,sq',rl'⟩:=id r2;cases q2;obtain⟨its2,rv2,pt2,_⟩:=I.tuple sq';have he':cK es n=true:=by simpa[dLe]using he
    have it:=item hd' he' rl rl' rv rv2;have t1:=RcAt.tuples (e:=eqN ds es) pt pt2 hu0 it;have t2:=RcNeAt.tuples (e:=eqN ds es) pt pt2 hu0 it;rw[F3,F3,<-rv.length,<-rv2.length,<-rl.length,<-rl'.length,<-k7]at t1 t2;have rc:RcAt A s (.ref a) (.ref b) (eqD (.tup ds) (.tup es)):=by simpa only[eqD]using t1
    exact⟨both rfl rfl rc,rc,by simpa only[eqD]using t2⟩
   |lst es =>
    obtain⟨b,ws,rfl,sq',rl'⟩:=id r2;cases q2;obtain⟨its2,rv2,pt2,_⟩:=I.list (SqL.of sq');simp only[eqD];exact⟨EqAt.tuple_list pt pt2.isList hu0,RcAt.tuple_list pt pt2.isList hu0,RcNeAt.tuple_list pt pt2.isList hu0⟩
   |non=>obtain rfl:=r2.at q2;simp only[eqD];exact⟨EqAt.tuple_none pt hu0,RcAt.tuple_none pt hu0,RcNeAt.tuple_none pt hu0⟩
   |bl b=>obtain rfl:=r2.at q2;simp only[eqD];exact⟨EqAt.tuple_bool _ pt hu0,RcAt.tuple_bool _ pt hu0,RcNeAt.tuple_bool _ pt hu0⟩
   |int b=>obtain⟨t,rfl⟩:=r2.at q2;simp only[eqD];exact⟨EqAt.tuple_int _ _ pt hu0,RcAt.tuple_int _ _ pt hu0,RcNeAt.tuple_int _ _ pt hu0⟩
   |str b=>obtain⟨t,rfl⟩:=r2.at q2;simp only[eqD];exact⟨EqAt.tuple_str _ _ pt hu0,RcAt.tuple_str _ _ pt hu0,RcNeAt.tuple_str _ _ pt hu0⟩
   |_=>simp[dLe]at he
  |lst ds =>
   obtain⟨a,vs,rfl,sq,rl⟩:=id r1;cases q1;obtain⟨its,rv,pt,_⟩:=I.list (SqL.of sq);have hd':cK ds n=true:=by simpa[dLe]using hd
   cases e with
   |lst es =>
    obtain⟨b,ws,rfl,sq',rl'⟩:=id r2;cases q2;obtain⟨its2,rv2,pt2,_⟩:=I.list (SqL.of sq');have he':cK es n=true:=by simpa[dLe]using he
    have hs:its.toArray.size=ds.length/\its2.toArray.size=es.length:=by rw[F3,F3,<-rv.length,<-rv2.length,<-rl.length,<-rl'.length];exact⟨rfl,rfl⟩
    have rc:RcAt A s (.ref a) (.ref b) (eqD (.lst ds) (.lst es))/\RcNeAt A s (.ref a) (.ref b) (!(eqD (.lst ds) (.lst es))):=by
     by_cases hl:ds.length=es.length
     ·have hsz:its.toArray.size=its2.toArray.size:=by rw[hs.1,hs.2];exact hl
      have it:=item hd' he' rl rl' rv rv2;have t1:=RcAt.lists (e:=eqN ds es) pt.isList pt2.isList hsz hu0 it;have t2:=RcNeAt.lists (e:=eqN ds es) pt.isList pt2.isList hsz hu0 it;rw[hs.1,<-vb hl]at t1 t2;exact⟨by simpa only[eqD]using t1,by simpa only[eqD]using t2⟩
     ·have hsz:(its.toArray.size != its2.toArray.size)=true:=by rw[hs.1,hs.2];simpa using hl
      have e0:eqD (.lst ds) (.lst es)=false:=by
       simp only[eqD];cases q:cw ds es with
       |false=>rfl
       |true=>exact absurd (qU q) hl
      rw[e0];exact⟨RcAt.lists_lengths pt.isList pt2.isList hsz hu0,RcNeAt.lists_lengths pt.isList pt2.isList hsz hu0⟩
    exact⟨both rfl rfl rc.1,rc⟩
   |tup es =>
    obtain⟨b,ws,rfl,sq',rl'⟩:=id r2;cases q2;obtain⟨its2,rv2,pt2,_⟩:=I.tuple sq';simp only[eqD];exact⟨EqAt.list_tuple pt.isList pt2 hu0,RcAt.list_tuple pt.isList pt2 hu0,RcNeAt.list_tuple pt.isList pt2 hu0⟩
   |non=>obtain rfl:=r2.at q2;simp only[eqD];exact⟨EqAt.list_none pt.isList hu0,RcAt.list_none pt.isList hu0,RcNeAt.list_none pt.isList hu0⟩
   |bl b=>obtain rfl:=r2.at q2;simp only[eqD];exact⟨EqAt.list_bool _ pt.isList hu0,RcAt.list_bool _ pt.isList hu0,RcNeAt.list_bool _ pt.isList hu0⟩
   |int b=>obtain⟨t,rfl⟩:=r2.at q2;simp only[eqD];exact⟨EqAt.list_int _ _ pt.isList hu0,RcAt.list_int _ _ pt.isList hu0,RcNeAt.list_int _ _ pt.isList hu0⟩
   |str b=>obtain⟨t,rfl⟩:=r2.at q2;simp only[eqD];exact⟨EqAt.list_str _ _ pt.isList hu0,RcAt.list_str _ _ pt.isList hu0,RcNeAt.list_str _ _ pt.isList hu0⟩
   |_=>simp[dLe]at he
  |non =>
   cases e with
   |tup es =>
    obtain⟨b,ws,rfl,sq',rl'⟩:=id r2;cases q2;obtain⟨its2,rv2,pt2,_⟩:=I.tuple sq';obtain rfl:=r1.at q1;simp only[eqD];exact⟨EqAt.none_tuple pt2 hu0,RcAt.none_tuple pt2 hu0,RcNeAt.none_tuple pt2 hu0⟩
   |lst es =>
    obtain⟨b,ws,rfl,sq',rl'⟩:=id r2;cases q2;obtain⟨its2,rv2,pt2,_⟩:=I.list (SqL.of sq');obtain rfl:=r1.at q1;simp only[eqD];exact⟨EqAt.none_list pt2.isList hu0,RcAt.none_list pt2.isList hu0,RcNeAt.none_list pt2.isList hu0⟩
   |_=>first|(simp[dLe]at he;done)|exact ih (A:=A) (by lia) (by simp[dLe]) (by simp[dLe]) r1 r2 q1 q2
  |bl a =>
   cases e with
   |tup es =>
    obtain⟨b,ws,rfl,sq',rl'⟩:=id r2;cases q2;obtain⟨its2,rv2,pt2,_⟩:=I.tuple sq';obtain rfl:=r1.at q1;simp only[eqD];exact⟨EqAt.bool_tuple _ pt2 hu0,RcAt.bool_tuple _ pt2 hu0,RcNeAt.bool_tuple _ pt2 hu0⟩
   |lst es =>
    obtain⟨b,ws,rfl,sq',rl'⟩:=id r2;cases q2;obtain⟨its2,rv2,pt2,_⟩:=I.list (SqL.of sq');obtain rfl:=r1.at q1;simp only[eqD];exact⟨EqAt.bool_list _ pt2.isList hu0,RcAt.bool_list _ pt2.isList hu0,RcNeAt.bool_list _ pt2.isList hu0⟩
   |_=>first|(simp[dLe]at he;done)|exact ih (A:=A) (by lia) (by simp[dLe]) (by simp[dLe]) r1 r2 q1 q2
  |int a =>
   cases e with
   |tup es =>
    obtain⟨b,ws,rfl,sq',rl'⟩:=id r2;cases q2;obtain⟨its2,rv2,pt2,_⟩:=I.tuple sq';obtain⟨t,rfl⟩:=r1.at q1;simp only[eqD];exact⟨EqAt.int_tuple _ _ pt2 hu0,RcAt.int_tuple _ _ pt2 hu0,RcNeAt.int_tuple _ _ pt2 hu0⟩
   |lst es =>
    obtain⟨b,ws,rfl,sq',rl'⟩:=id r2;cases q2;obtain⟨its2,rv2,pt2,_⟩:=I.list (SqL.of sq');obtain⟨t,rfl⟩:=r1.at q1;simp only[eqD];exact⟨EqAt.int_list _ _ pt2.isList hu0,RcAt.int_list _ _ pt2.isList hu0,RcNeAt.int_list _ _ pt2.isList hu0⟩
   |_=>first|(simp[dLe]at he;done)|exact ih (A:=A) (by lia) (by simp[dLe]) (by simp[dLe]) r1 r2 q1 q2
  |str a =>
   cases e with
   |tup es =>
    obtain⟨b,ws,rfl,sq',rl'⟩:=id r2;cases q2;obtain⟨its2,rv2,pt2,_⟩:=I.tuple sq';obtain⟨t,rfl⟩:=r1.at q1;simp only[eqD];exact⟨EqAt.str_tuple _ _ pt2 hu0,RcAt.str_tuple _ _ pt2 hu0,RcNeAt.str_tuple _ _ pt2 hu0⟩
   |lst es =>
    obtain⟨b,ws,rfl,sq',rl'⟩:=id r2;cases q2;obtain⟨its2,rv2,pt2,_⟩:=I.list (SqL.of sq');obtain⟨t,rfl⟩:=r1.at q1;simp only[eqD];exact⟨EqAt.str_list _ _ pt2.isList hu0,RcAt.str_list _ _ pt2.isList hu0,RcNeAt.str_list _ _ pt2.isList hu0⟩
   |_=>first|(simp[dLe]at he;done)|exact ih (A:=A) (by lia) (by simp[dLe]) (by simp[dLe]) r1 r2 q1 q2
  |_=>simp[dLe]at hd
end
section
variable{X:Cx}{a b c e:J5}{es:List J5}{te ta tb:TEd}{pos:Pos}{st:aa2}{bZ:List aa2}{t u:TSd}
def xY:TSd:=fun E Δ M=>E.nx Δ M
def ER(t u:TSd):TSd:=fun E Δ M=>t { E with nx:=u E } Δ M
def EK(te:TEd):TSd:=fun E Δ M=>te Δ M E.rt
def v8(te:TEd):TSd:=fun E Δ M=>te Δ M fun _ M1=>E.nx Δ M1
def B5(c:TTd) (t u:TSd):TSd:=fun E Δ M=>c Δ M fun b M1=>if b=true then t E Δ M1 else u E Δ M1
def wR(i:Nat) (te:TEd):TSd:=fun E Δ M=>te Δ M fun d M1=>E.nx (Δ.set i (some d)) M1
def Ey(i:Nat) (te:TEd) (r:D->D->Option D):TSd:=fun E Δ M=>∃x,Δ[i]?=some (some x)/\te Δ M fun y M1=>∃z,r (rdM M1 x) (rdM M1 y)=some z/\E.nx (Δ.set i (some z)) M1
def wq(i:Nat) (t:TSd):TSd:=fun E Δ M=>∃a ds,Δ[i]?=some (some (.ref a))/\M a=some (.lst ds)/\t E (Δ.set i (some (.lst ds))) (jd M a)
abbrev GD:=D->DE->Option DE
def PGd(X:Cx) (tg:J5) (g:GD):Prop:=∃gv:TG,PG X tg gv/\∀(d:D) (v:V) (σ:St) (Δ Δ':DE) (M:DH) (H:Hp) (Q:St->Hp->Prop),SR X.K M H σ Δ->HR X.K M H->Rep X.K M H d v->g d Δ=some Δ'->(∀ σ',SR X.K M H σ' Δ'->Q σ' H)->gv v σ H Q
def bL(i:Nat):GD:=fun d Δ=>some (Δ.set i (some d))
theorem bg{i:Nat}{x:Str}(hN:X.N.Nodup) (hi:X.N[i]?=some x) (hx:Loc X.env.scope x) (hf:X.fn x=true∨X.env.scope.names.lookup x=some .local:=by first|exact .inl rfl|exact .inr rfl|assumption):PGd X (.Name x pos) (bL i) :=
 ⟨mC i,kZ hN hi hx hf,fun d v σ Δ Δ' M H Q sr hr rv e k=>by cases e;exact k _ (sr.set i rv)⟩
abbrev GDs:=List D->DE->Option DE
def Av(X:Cx) (tgs:List J5) (g:GDs):Prop:=∃gv:TGs,PGs X tgs gv/\∀(ds:List D) (vs:List V) (σ:St) (Δ Δ':DE) (M:DH) (H:Hp) (Q:St->Hp->Prop),SR X.K M H σ Δ->HR X.K M H->ar X.K M H ds vs->g ds Δ=some Δ'->(∀ σ',SR X.K M H σ' Δ'->Q σ' H)->gv vs σ H Q
def lM:GDs:=fun ds Δ=>match ds with|[]=>some Δ|_=>none
def fm(g:GD) (gs:GDs):GDs:=fun ds Δ=>match ds with|[]=>none|d::r=>(g d Δ).bind fun Δ1=>gs r Δ1
def jh(g:GDs) (n:Nat):GD:=fun d Δ=>match d with|.tup ds=>if ds.length=n then g ds Δ else none|_=>none
theorem kh:Av X [] lM:=⟨Cn,pj,fun ds vs σ Δ Δ' M H Q sr hr rv e k=>by
 cases ds with
 |nil=>simp only[ar]at rv;subst rv;cases e;exact⟨rfl,k _ sr⟩
 |cons _ _=>cases e⟩
theorem cm{tg:J5}{tgs:List J5}{g:GD}{gs:GDs}(h1:PGd X tg g) (h2:Av X tgs gs)
  (hs:(M9 (tg::tgs) X.env).map (·.2)=U0 tg X.env::(M9 tgs X.env).map (·.2):=by rfl):Av X (tg::tgs) (fm g gs):=by
 obtain⟨g1,p1,k1⟩:=h1;obtain⟨g2,p2,k2⟩:=h2;refine⟨xx g1 g2,iS p1 p2 hs,fun ds vs σ Δ Δ' M H Q sr hr rv e k=>?_⟩;cases ds with
 |nil=>cases e
 |cons d r =>
  simp only[ar]at rv;obtain⟨v,ws,rfl,h3,h4⟩:=rv;simp only[fm]at e;cases q:g d Δ with
  |none=>rw[q]at e;cases e
  |some Δ1 =>
   rw[q]at e;exact⟨v,ws,rfl,k1 d v σ Δ Δ1 M H _ sr hr h3 q fun σ1 sr1=>k2 r ws σ1 Δ1 Δ' M H Q sr1 hr h4 e k⟩
theorem j7{tgs:List J5}{kx:Nat}{g:GDs}{n:Nat}(hc:X.calm=true) (h:Av X tgs g) (hn:(M9 tgs X.env).length=n:=by rfl) (hst:(M9 tgs X.env).findIdx? (·.1)=none:=by rfl):PGd X (.Tuple tgs kx pos) (jh g n):=by
 obtain⟨g1,p1,k1⟩:=h;refine⟨B8 X.K n g1,sd hc p1 hn hst,fun d v σ Δ Δ' M H Q sr hr rv e k=>?_⟩;cases d with
 |tup ds =>
  simp only[jh]at e
  by_cases hl:ds.length=n
  ·rw[if_pos hl]at e;simp only[Rep]at rv;obtain⟨a,vs,rfl,ta,rl⟩:=rv;exact⟨a,vs,rfl,ta.sq,by rw[<-rl.length];exact hl,k1 ds vs σ Δ Δ' M H Q sr hr rl e k⟩
  ·rw[if_neg hl]at e;cases e
 |_=>cases e
def EC(te:TEd) (g:GD):TSd:=fun E Δ M=>te Δ M fun d M1=>∃ Δ',g d Δ=some Δ'/\E.nx Δ' M1
abbrev TId:=DE->DH->(List D->DH->Prop)->Prop
def ItD(K:o0) (J:It) (ds:List D) (M1:DH) (H1:Hp):Prop:=∀M2 H2,Ext M1 H1 M2 H2->HR K M2 H2->∀i,(∀d,ds[i]?=some d->J.go i H2/\∀x H',J.yld i H2 x H'->Ext M2 H2 M2 H'/\HR K M2 H'/\Rep K M2 H' d x)/\(ds.length<=i->J.stop i H2)
def upI(K:o0) (wi:TId):TI:=fun σ H R=>∃(Δ:DE) (M:DH) (R':List D->DH->Prop),SR K M H σ Δ/\HR K M H/\wi Δ M R'/\∀ds M1 J H1,R' ds M1->Ext M H M1 H1->HR K M1 H1->ItD K J ds M1 H1->R J H1
theorem upI.el{K:o0}{t:TId}{σ:St}{H:Hp}{Q:It->Hp->Prop}{P:Prop}(h:upI K t σ H Q) (f:∀(Δ:DE) (M:DH) (R:List D->DH->Prop),SR K M H σ Δ->HR K M H->t Δ M R->(∀ds M1 J H1,R ds M1->Ext M H M1 H1->HR K M1 H1->ItD K J ds M1 H1->Q J H1)->P):P:=by
 obtain⟨x1,x2,x3,a,b,c,d⟩:=h;exact f x1 x2 x3 a b c d
def PId(X:Cx) (tg iter:J5) (wi:TId):Prop:=PI X tg iter (upI X.K wi)
theorem PI.conv{tg iter:J5}{w w':TI}(h:PI X tg iter w) (k:∀ σ H R,w' σ H R->w σ H R):PI X tg iter w':=fun p s σ H R I q=>h p s σ H R I (k σ H R q)
variable{tg iter:J5}
def ie(lo:Int) (n:Nat):List D:=(T7 n).map fun(k:Nat)=>.int (lo+(k:Int))
theorem cv{lo:Int}{n i:Nat}{d:D}(h:(ie lo n)[i]?=some d):i<n/\d=.int (lo+i):=by
 unfold ie at h;rw[P7]at h
 by_cases hi:i<n
 ·rw[List.getElem?_range hi]at h;cases h;exact⟨hi,rfl⟩
 ·rw[List.getElem?_eq_none (by simp;omega)]at h;cases h
theorem um{K:o0}{lo:Int}{n:Nat}{M1:DH}{H1:Hp}:ItD K (Itr lo n) (ie lo n) M1 H1:=fun M2 H2 e2 hr2 i=>⟨fun d hd=>by
  obtain⟨h1,rfl⟩:=cv hd;refine⟨h1,fun x H' ⟨eH,y⟩=>?_⟩;subst eH;subst y;exact⟨Ext.refl _ _,hr2,by simp[Rep]⟩,fun hl=>by
  show n<=i;simpa[ie]using hl⟩
def xn(ta:TAd):TId:=fun Δ M R=>ta Δ M fun ds M1=>∃j:Int,ds=[.int j]/\-(2 ^ 62)<=j/\j<2 ^ 62/\R (ie 0 j.toNat) M1
def wa(ta:TAd):TId:=fun Δ M R=>ta Δ M fun ds M1=>∃i j:Int,ds=[.int i,.int j]/\(-(2 ^ 62)<=i/\i<2 ^ 62/\-(2 ^ 62)<=j/\j<2 ^ 62)/\R (ie i (j-i).toNat) M1
def df(g:GD) (tb:TSd) (E:gn):List D->DE->DH->Prop
 |[],Δ,M=>E.nx Δ M
 |d::ds,Δ,M=>∃ Δ',g d Δ=some Δ'/\tb { E with nx:=df g tb E ds,ct:=df g tb E ds,bk:=E.nx } Δ' M
def D5(wi:TId) (g:GD) (tb:TSd):TSd:=fun E Δ M=>wi Δ M fun ds M1=>df g tb E ds Δ M1
def wM(c:TTd) (tb:TSd):TSd:=fun E Δ M=>∃W:Nat->DE->DH->Prop,(∃m,W m Δ M)/\∀m Δ M,W m Δ M->c Δ M fun b M1=>if b=true then tb { E with nx:=fun Δ' M'=>∃m',m'<m/\W m' Δ' M',ct:=fun Δ' M'=>∃m',m'<m/\W m' Δ' M',bk:=E.nx } Δ M1 else E.nx Δ M1
end
def uI:D->Prop
 |.tup ds=>ds.length<=F2
 |.lst ds=>ds.length<=F2
 |.scr ds=>ds.length<=F2
 |_=>True
section
variable{X:Cx}{a b c e:J5}{es:List J5}{te ta tb:TEd}{pos:Pos}{tg iter elt:J5}
theorem aX.len{K:o0}{ag:List (F9×Obj)}{σ:St}{H:Hp}{s:F1}{M:DH}{d:D}{v:V}(I:Inv X ag σ H s) (h:Rep X.K M H d v):uI d:=by
 cases d with
 |tup ds =>
  simp only[Rep]at h;obtain⟨a,vs,e,t,r⟩:=h;obtain⟨_,_,_,z⟩:=I.tuple t.sq;simp only[uI];rw[r.length];exact z
 |lst ds =>
  simp only[Rep]at h;obtain⟨a,vs,e,t,r⟩:=h;obtain⟨_,_,_,z⟩:=I.list (SqL.of t.1);simp only[uI];rw[r.length];exact z
 |scr ds =>
  simp only[Rep]at h;obtain⟨a,vs,e,t,r⟩:=h;obtain⟨_,_,_,z⟩:=I.list t.sq;simp only[uI];rw[r.length];exact z
 |_=>trivial
noncomputable def ck:List Bool->DE->DE
 |true::ms,v::σ=>v::ck ms σ
 |false::ms,_::σ=>none::ck ms σ
 |[],_::σ=>none::ck [] σ
 |_,[]=>[]
def mH(ms:List Bool) (k:Nat) (Δ:DE):DE:=ck ms Δ++J0 k none
theorem cQ:∀(ms:List Bool) (σ:DE),(ck ms σ).length=σ.length
 |true::ms,v::σ=>by simp[ck,cQ ms σ]
 |false::ms,_::σ=>by simp[ck,cQ ms σ]
 |[],_::σ=>by simp[ck,cQ [] σ]
 |[],[]=>by simp[ck]
 |true::_,[]=>by simp[ck]
 |false::_,[]=>by simp[ck]
theorem g8:∀{ms:List Bool}{σ:DE}{i:Nat}{v:D},(ck ms σ)[i]?=some (some v)->ms[i]?=some true/\σ[i]?=some (some v)
 |true::ms,v::σ,0,x,h=>by simpa[ck]using h
 |true::ms,v::σ,i+1,x,h=>by
  have:=g8 (ms:=ms) (σ:=σ) (i:=i) (v:=x) (by simpa[ck]using h);simpa using this
 |false::ms,_::σ,0,x,h=>by simp[ck]at h
 |false::ms,_::σ,i+1,x,h=>by
  have:=g8 (ms:=ms) (σ:=σ) (i:=i) (v:=x) (by simpa[ck]using h);simpa using this
 |[],_::σ,0,x,h=>by simp[ck]at h
 |[],_::σ,i+1,x,h=>by
  have:=g8 (ms:=[]) (σ:=σ) (i:=i) (v:=x) (by simpa[ck]using h);simpa using this
 |[],[],_,_,h=>by simp[ck]at h
 |true::_,[],_,_,h=>by simp[ck]at h
 |false::_,[],_,_,h=>by simp[ck]at h
theorem iH:∀{ms:List Bool}{σ:St}{i:Nat}{v:V},ms[i]?=some true->σ[i]?=some (some v)->(bJ ms σ)[i]?=some (some v)
 |true::ms,v::σ,0,x,h,h2=>by simpa[bJ]using h2
 |true::ms,v::σ,i+1,x,h,h2=>by
  have:=iH (ms:=ms) (σ:=σ) (i:=i) (v:=x) (by simpa using h) (by simpa using h2);simpa[bJ]using this
 |false::ms,_::σ,0,x,h,h2=>by simp at h
 |false::ms,_::σ,i+1,x,h,h2=>by
  have:=iH (ms:=ms) (σ:=σ) (i:=i) (v:=x) (by simpa using h) (by simpa using h2);simpa[bJ]using this
 |[],_,_,_,h,_=>by simp at h
 |_::_,[],_,_,_,h=>by simp at h
theorem SR.comp{K:o0}{M:DH}{H:Hp}{σ:St}{Δ:DE}(ms:List Bool) (k:Nat) (h:SR K M H σ Δ):SR K M H (dw ms k σ) (mH ms k Δ):=by
 refine⟨by simp[dw,mH,bD,cQ,h.1],fun i d q=>?_⟩;unfold mH at q
 by_cases hi:i<(ck ms Δ).length
 ·rw[L9 hi]at q;obtain⟨m,e⟩:=g8 q;obtain⟨v,ev,rv⟩:=h.2 i d e;refine⟨v,?_,rv⟩;have:=iH m ev;unfold dw;rw[L9 (by rw[bD,h.1,<-cQ ms];exact hi)];exact this
 ·rw[Q4 (by lia),S5]at q
  split at q<;>cases q
def cJ(g:GD) (tc:TTd) (te:TEd):List D->DE->DH->List D->(List D->DH->Prop)->Prop
 |[],_,M,acc,Q=>Q acc M
 |d::ds,Δ,M,acc,Q=>∃ Δ',g d Δ=some Δ'/\tc Δ' M fun b M1=>if b=true then te Δ' M1 fun y M2=>cJ g tc te ds Δ' M2 (acc++[y]) Q else cJ g tc te ds Δ' M1 acc Q
def dLc(ms:List Bool) (k:Nat) (wi:TId) (g:GD) (tc:TTd) (te:TEd):TEd:=fun Δ M Q=>wi Δ M fun ds M1=>ds.length<=F2/\cJ g tc te ds (mH ms k Δ) M1 [] fun ys M2=>Q (.lst ys) M2
def Bn(X:Cx) (ifs:List J5) (t:TTd):Prop:=PIf X ifs (upT X.K t)
def u0:TTd:=fun _ M Q=>Q true M
theorem AH:Bn X [] u0:=fun ag s σ H Q I ⟨Δ,M,R,sr,hr,q,k⟩=>yZ ag s σ H Q I (k true M H q (Ext.refl _ _) hr)
abbrev tN(K:o0) (g:GD) (gv:TG):Prop:=∀(d:D) (v:V) (σ:St) (Δ Δ':DE) (M:DH) (H:Hp) (Q:St->Hp->Prop),SR K M H σ Δ->HR K M H->Rep K M H d v->g d Δ=some Δ'->(∀ σ',SR K M H σ' Δ'->Q σ' H)->gv v σ H Q
theorem uK{K:o0}{g:GD}{tc:TTd}{te:TEd}{gv:TG}(kg:tN K g gv) {J:It}{ds:List D}{M1:DH}{H1:Hp}(it:ItD K J ds M1 H1) (hr1:HR K M1 H1) (hz:ds.length<=F2) {R:List D->DH->Prop}{σ:St}{Δ:DE}(sr:SR K M1 H1 σ Δ) (q:cJ g tc te ds Δ M1 [] R) :
  ∃(W:Nat->Nat->List V->St->Hp->Prop) (Z:List V->St->Hp->Prop),(∃m,W 0 m [] σ H1)/\mw J gv (upT K tc) (oa (up K te)) W Z/\∀ys σ' H',Z ys σ' H'->∃M' acc,Ext M1 H1 M' H'/\HR K M' H'/\ar K M' H' acc ys/\R acc M':=by
 refine⟨fun i m ys σ' H'=>∃ Δ' M' acc,m=ds.length-i/\i<=ds.length/\Ext M1 H1 M' H'/\HR K M' H'/\SR K M' H' σ' Δ'/\ar K M' H' acc ys/\acc.length<=i/\cJ g tc te (ds.drop i) Δ' M' acc R,_,
  ⟨ds.length,_,M1,[],by simp,R4 _,Ext.refl _ _,hr1,sr,ar.nil,by simp,q⟩,?_,fun _ _ _ z=>z⟩
 rintro i m ys σ2 H2 ⟨Δ2,M2,acc,rfl,hi2,e2,hr2,sr2,ra,la,f2⟩;have hl:ys.length<=F2:=by rw[<-ra.length];lia
 refine⟨hl,?_⟩;obtain⟨go,stop⟩:=it M2 H2 e2 hr2 i
 by_cases hlt:i<ds.length
 ·have hd:ds[i]?=some ds[i]:=by simp[hlt]
  obtain⟨g1,y1⟩:=go _ hd;rw[List.drop_eq_getElem_cons hlt]at f2;simp only[cJ]at f2;obtain⟨Δ3,eg,f3⟩:=f2;refine .inr ⟨g1,fun x H' hy=>?_⟩;obtain⟨e3,hr3,rx⟩:=y1 x H' hy;refine kg _ x σ2 Δ2 Δ3 M2 H' _ (sr2.ext e3) hr3 rx eg fun σ3 sr3=>?_;refine⟨Δ3,M2,_,sr3,hr3,f3,fun b M4 H4 q4 e4 hr4=>?_⟩;cases b with
  |true =>
   simp only[if_true]at q4 ⊢;refine⟨Δ3,M4,_,sr3.ext e4,hr4,q4,fun y M5 v5 H5 q5 e5 hr5 rv5=>?_⟩;refine⟨ds.length-(i+1),by lia,Δ3,M5,acc++[y],rfl,hlt,((e2.trans e3).trans e4).trans e5,hr5,(sr3.ext e4).ext e5,(((ra.ext e3).ext e4).ext e5).append (ar.cons rv5 ar.nil),by simp;lia,q5⟩
  |false =>
   simp only[M7,if_false]at q4 ⊢;exact⟨ds.length-(i+1),by lia,Δ3,M4,acc,rfl,hlt,(e2.trans e3).trans e4,hr4,sr3.ext e4,(ra.ext e3).ext e4,by lia,q4⟩
 ·rw[List.drop_eq_nil_of_le (by lia)]at f2;exact .inl ⟨stop (by lia),M2,acc,e2,hr2,ra,f2⟩
theorem oM{K:o0}{wi:TId}{g:GD}{tc:TTd}{te:TEd}{gv:TG}{ms:List Bool}{kk:Nat}(kg:tN K g gv) :
  ∀ σ H Q,up K (dLc ms kk wi g tc te) σ H Q->tLc ms kk (upI K wi) gv (upT K tc) (up K te) σ H Q:=by
 rintro σ H Q ⟨Δ,M,R,sr,hr,q,k⟩;refine⟨Δ,M,_,sr,hr,q,fun ds M1 J H1 ⟨hz,q1⟩ e1 hr1 it=>?_⟩;obtain⟨W,Z,hW,hC,hZ⟩:=uK kg it hr1 hz ((sr.ext e1).comp ms kk) q1;refine⟨W,Z,hW,hC,fun ys σ' H' p z hp=>?_⟩;obtain⟨M',acc,e',hr',ra,q'⟩:=hZ _ _ _ z;refine k _ M' _ _ q' ((e1.trans e').trans (Ext.new hr' hp)) (hr'.new hp) ?_;simp only[Rep];exact⟨p,ys,rfl,⟨aG,hr'.fresh hp⟩,ra.ext (Ext.new hr' hp)⟩
variable{scope:R0}{cl:List (Str×F9)}{ms:List Bool}{am:List Str}{ifs:List J5}
def PGa(X:Cx) (scope:R0) (cl:List (Str×F9)) (am:List Str) (tg:J5) (g:GD):Prop:=∃gv:TG,(∀C s H ex,PG (aK X scope cl (X.N++am) C s H ex) tg gv)/\tN X.K g gv
theorem aD{i:Nat}{x:Str}{pos:Pos}(hN:(X.N++am).Nodup) (hi:(X.N++am)[i]?=some x) (hx:(X5 scope X.env).names.lookup x=some .local):PGa X scope cl am (.Name x pos) (bL i) :=
 ⟨mC i,fun C s H ex=>kZ hN hi (.inl hx) (.inr hx),fun d v σ Δ Δ' M H Q sr hr rv e k=>by cases e;exact k _ (sr.set i rv)⟩
end
abbrev SpD:=List D->DH->(D->DH->Prop)->Prop
def spD(K:o0) (n:Nat) (S:SpD):Sp:=fun vs H Q _=>∃(ds:List D) (M:DH) (R:D->DH->Prop),ds.length=n/\ar K M H ds vs/\HR K M H/\S ds M R/\∀d M' v H',R d M'->Ext M H M' H'->HR K M' H'->Rep K M' H' d v->Q v H'
theorem tu{K:o0}{n:Nat}{S:SpD}{vs:List V}{H:Hp}{Q:VK}{E:XK}(h:spD K n S vs H Q E):vs.length=n:=by
 obtain⟨ds,M,R,hl,r,_⟩:=h;rw[<-r.length];exact hl
def fW(N:List Str) (ds:List D):DE:=ds.map some++J0 (N.length-ds.length) none
theorem qx{K:o0}{M:DH}{H:Hp}{N:List Str}:∀{ds:List D}{vs:List V},ar K M H ds vs->SR K M H (gd N vs) (fW N ds):=by
 intro ds vs h;have hl:=h.length;refine⟨by simp[gd,fW,hl],fun i d q=>?_⟩;unfold fW at q
 by_cases hi:i<ds.length
 ·rw[L9 (by simpa using hi),P7]at q;cases e:ds[i]? with
  |none=>rw[e]at q;cases q
  |some d' =>
   rw[e]at q;cases q;obtain⟨v,gv,rv⟩:=h.get e;refine⟨v,?_,rv⟩;unfold gd;rw[L9 (by simp;lia),P7,gv];rfl
 ·rw[Q4 (by simpa using hi),S5]at q
  split at q<;>cases q
section
variable{P:L5}{w:P6}{K:o0}{mg:Str->Option u8}{base:K4}{f:F9}{fd:U8}
theorem Fun.okD{x qual:Str}{st:aa2}{f:F9}{fd:U8}{N ps:List Str}{k n:Nat}{S:SpD}(F:Fun K x qual st f fd) (hn:ps.length=n) (Sc:az N ps (ao st))
  (hbody:∀ (cdv:u8) (A:N3) (outer:List Env) (s:F1) (H:Hp) (E:XK),cZ k (A.deeper (ab9 qual (ao st) s.heap.objs.size f cdv)) →
   ∃t:TSd,xC (oV CX0 P w K mg base N qual (ao st) f cdv A outer s H E).nox (cY st) t/\∀ds M R,ds.length=n->S ds M R->t { nx:=fun _ M'=>R .non M',rt:=R } (fW N ds) M):bj P w K mg base CX0 (k+1) f fd ps (spD K n S):=by
 refine F.ok Sc (fun vs H Q E h=>by rw[hn];exact tu h) (fun cdv A outer s H vs Q E hr h=>?_);obtain⟨t,ht,hq⟩:=hbody cdv A outer s H E hr;obtain⟨ds,M,R,hl,r,hrr,q,k'⟩:=h;refine⟨_,ht,fW N ds,M,_,qx r,hrr,hq ds M R hl q,⟨fun Δ' M' σ' H' q' e' hr' _=>k' .non M' .non H' q' e' hr' (by simp[Rep]),fun _ _ _ _ q'=>U3 q',fun _ _ _ _ q'=>U3 q',fun d M' v H' q' e' hr' rv=>k' d M' v H' q' e' hr' rv⟩⟩
end
section
variable{X:Cx}{a b c e:J5}{es:List J5}{te ta tb:TEd}{t:TAd}{pos:Pos}
def lg(n:Nat) (S:SpD) (t:TAd):TEd:=fun Δ M Q=>t Δ M fun ds M1=>ds.length=n/\S ds M1 Q
theorem Bz{k:Nat}{f:F9}{fd:U8}{ps:List Str}{n:Nat}{S:SpD}{x:Str}{p:Pos}(F:bj X.prog X.w X.K X.mg X.base CX0 k f fd ps (spD X.K n S)) (hr:cZ k X.A) (hg:Gl X x) (hm:X.mg x=some (.ref f)) (hk:U1 X.K (.ref f)=true) (hb:dZ X.K fd ps [])
  (ha:PAd X (e::es) t) (hdb:(x==("__debug__":Str))=false:=by decide) (he:J1 (e::es) X.env=(false,T8 e X.env)::J1 es X.env:=by rfl) (hpl:(U6 pos (J1 es X.env)).any (·.1)=false:=by rfl) :
  PEd X (.Call (.Name x p) (e::es) [] pos) (lg n S t) :=
 (yN F hr hg hm hk hb .nil DX ha hdb he hpl).conv fun σ H Q hup => hup.el fun Δ M R sr hr q k => ⟨Δ,M,_,sr,hr,q,fun ds M1 vs H1 ⟨hl,q1⟩ e1 hr1 rv => by
  dsimp only;rw[W9];exact⟨ds,M1,R,hl,rv,hr1,q1,fun d M' v H' q' e' hr' rv'=>k d M' v H' q' (e1.trans e') hr' rv'⟩⟩
def Ba(M1 M2:DH) (d d2:D):Prop:=d2=d∨∃a l,d=.ref a/\M1 a=some (.lst l)/\M2 a=none/\d2=.lst l
theorem qW{K:o0}{M1 M2:DH}{H:Hp}(hr:HR K M1 H) (hle:LeM M2 M1):∀{ds ds2:List D}{vs:List V},P5 (Ba M1 M2) ds ds2->ar K M1 H ds vs->ar K M2 H ds2 vs
 |_,_,_,.nil,h=>by simp only[ar]at h ⊢;exact h
 |_,_,_,.cons h1 t,h=>by
  simp only[ar]at h;obtain⟨v,ws,rfl,h3,h4⟩:=h;refine ar.cons ?_ (qW hr hle t h4);rcases h1 with rfl|⟨a,l,rfl,e1,e2,rfl⟩
  ·exact h3.ext (Ext.le hle)
  ·simp only[Rep]at h3;subst h3;exact Rep.froze hr hle e1 e2
theorem qp{M1:DH}:∀{ds:List D},P5 (Ba M1 noM) ds (ds.map (rdM M1))
 |[]=>.nil
 | d :: ds => .cons (by
   cases d with
   |ref a =>
    simp only[rdM];cases q:M1 a with
    |none=>exact .inl rfl
    |some o=>cases o with|lst l=>exact .inr ⟨a,l,rfl,q,rfl,rfl⟩|dK _=>exact .inl rfl|dT _=>exact .inl rfl|dKr _ _ _=>exact .inl rfl|ins _ _=>exact .inl rfl|ext _ _=>exact .inl rfl
   |_=>exact .inl rfl) qp
def CT(to te:TEd):TEd:=fun Δ M Q=>to Δ M fun o M1=>∃a l,o=.ref a/\M1 a=some (.lst l)/\te Δ M1 fun d M2=>∃ds,M2 a=some (.lst ds)/\ds.length<F2/\Q .non (aw M2 a (.lst (ds++[d])))
end
def ItW(n:Nat) (Vp:Nat->V->Prop):It:=⟨fun i _=>i<n,fun i H x H'=>H'=H/\Vp i x,fun i _=>n<=i⟩
theorem vh{P:L5}{w:P6}{K:o0}{tg:J5}{it:F9}{n:Nat}{Pv:Nat->u8->Prop}{St:Nat->K4->Prop}{ty:String}{Vp:Nat->V->Prop}
  (W:∀A:N3,A.handled=none->Walks P w A it [it] [it] n Pv St) (ho:∀i h,St i h->∃o,h.get? it=some o/\o.cls=.type ty/\∃vs,o.data=.fields vs)
  (hn:["enumerate","zip","dict_itemiterator","dict_reverseitemiterator","odict_iterator","itertools.zip_longest","itertools.pairwise"].contains ty=false)
  (hv:∀i u,Pv i u->∃x,aL x u/\Vp i x) (hself:∀(A:N3) (i:Nat) (s:F1) (Q:u8->F1->Prop) (E:u8->F1->Prop),St i s.heap->Q (.ref it) s->J4 (K3 P w) A (pyIter (.ref it)) Q E s):iD P w K tg (ItW n Vp) [it] it (fun i h=>i<=n/\St i h) where
 mem:=by simp
 obj:=fun i h st b hb=>by
  have e:b=it:=by simpa using hb
  subst e;obtain⟨o,e,c,vs,d⟩:=ho i h st.2;exact⟨o,e,fun v z=>by rw[d]at z;cases z⟩
 keep:=fun i h h' st k=>⟨st.1,(W { handled:=none } rfl).frame i h h' st.2 k⟩
 item:=by
  intro X hP hw hK hc i ag s σ H E I hf st hg;subst hP hw hK;obtain⟨f0,f1,f2,f3,f4,f5⟩:=hf it (by simp);refine(W X.A (I.ok.hd hc)).item i s _ _ hg st.2 fun v h' tk pv st' kk=>?_;have I1:Inv X ag σ H { s with heap:=h',toks:=tk }:=I.turned (fun b o hb e=>kk b o (by simpa using hb) e) f0 f1 f3 f4 f5;obtain⟨x,rx,vx⟩:=hv i v pv;obtain⟨o,e,c,vs,d⟩:=ho _ _ st';exact⟨v,rfl,lH (s:={ s with heap:=h',toks:=tk }) e c d hn ⟨x,H,I1,rx,⟨rfl,vx⟩,⟨hg,st'⟩,fun b hb=>(hf b hb).1⟩⟩
 done:=by
  intro X hP hw hK hc i ag s σ H E I hf st hg;subst hP hw hK;obtain⟨f0,f1,f2,f3,f4,f5⟩:=hf it (by simp);have e:i=n:=Nat.le_antisymm st.1 hg;subst e;exact(W X.A (I.ok.hd hc)).done s _ _ st.2 fun h' tk kk=>⟨rfl,I.turned (fun b o hb e=>kk b o (by simpa using hb) e) f0 f1 f3 f4 f5⟩
 self:=fun A i s Q E st h=>hself A i s Q E st.2 h
section
variable{X:Cx}{a b c e:J5}{es:List J5}{te ta tb:TEd}{t:TAd}{pos:Pos}{tg iter:J5}
noncomputable def jn(x:Str):List D:=x.cps.toList.map fun c=>.str ⟨#[c]⟩
theorem tX{ag:List (F9×Obj)}{σ:St}{H:Hp}{s:F1}{x:Str}{t:Tok}{R:It->Hp->Prop}(I:Inv X ag σ H s) (ty:String) (hn:["enumerate","zip","dict_itemiterator","dict_reverseitemiterator","odict_iterator","itertools.zip_longest","itertools.pairwise"].contains ty=false)
  (W:∀A:N3,A.handled=none->Walks X.prog X.w A s.heap.objs.size [s.heap.objs.size] [s.heap.objs.size] x.cps.size (SignAt x) (fun i h=>h.IsStrIter s.heap.objs.size ty x t i))
  (hself:∀(A:N3) (i:Nat) (s':F1) (Q:u8->F1->Prop) (E:u8->F1->Prop),s'.heap.IsStrIter s.heap.objs.size ty x t i->Q (.ref s.heap.objs.size) s'->J4 (K3 X.prog X.w) A (pyIter (.ref s.heap.objs.size)) Q E s')
  (q:R (ItW x.cps.size fun i v=>∃c,x.cps[i]?=some c/\v=.str ⟨#[c]⟩) H):PIE X ag σ tg R (.ref s.heap.objs.size) { s with heap:=s.heap.push { cls:=.type ty,data:=.fields #[.str x t,.int 0 0] } }:=by
 have I1:Inv X ag σ H { s with heap:=s.heap.push { cls:=.type ty,data:=.fields #[.str x t,.int 0 0] } }:=I.kept (t':=s.toks) fun b o e=>F0 _ e;refine⟨s.heap.objs.size,[s.heap.objs.size],_,_,H,rfl,I1,vh W (fun i h st=>?_) hn (fun i u ⟨c,t',e,ev⟩=>⟨.str ⟨#[c]⟩,⟨t',ev⟩,c,e,rfl⟩) hself,⟨R4 _,_,F7 _ rfl,rfl,rfl⟩,fun b hb=>?_,q⟩
 ·obtain⟨o,e,c,d⟩:=st;exact⟨o,e,c,_,d⟩
 ·have e:b=s.heap.objs.size:=by simpa using hb
  subst e;exact I.fpOk (F6 _) (I.hok.fresh (F6 _))
end
section
variable{X:Cx}{a b c e:J5}{es:List J5}{te ta tb:TEd}{t:TAd}{pos:Pos}
def eqF(x y:D):Option D:=if dLe x 60=true/\dLe y 60=true then some (.bl (eqD x y))else none
theorem xI{x y z:D}(h:eqF x y=some z):dLe x 60=true/\dLe y 60=true/\z=.bl (eqD x y):=by
 unfold eqF at h
 by_cases hc:dLe x 60=true/\dLe y 60=true
 ·rw[if_pos hc]at h;cases h;exact⟨hc.1,hc.2,rfl⟩
 ·rw[if_neg hc]at h;cases h
theorem ft(hu:X.A.units+64<Z9):bM X (L6 .Eq) eqF:=by
 intro ag s σ H M x y v u dx dy dz Q I hr rx ry r1 r2 e k;obtain⟨h1,h2,rfl⟩:=xI e;exact(rX I 60 (A:=X.A) (by lia) h1 h2 r1 r2 rx ry).2.1 X.prog X.w X.xe _ ⟨.bl (eqD dx dy),H,I,rfl,k _ H (Ext.refl _ _) hr (by simp[Rep])⟩
def inD(neg:Bool) (x y:D):Option D:=match y with
 |.lst ds=>if bv x=true/\ds.all bv=true then some (.bl (xor neg (ds.any fun d=>eqD d x)))else none
 |.tup ds=>if bv x=true/\ds.all bv=true then some (.bl (xor neg (ds.any fun d=>eqD d x)))else none
 |_=>none
theorem Dh{K:o0}{M:DH}{H:Hp}{d:D}{v:V}(h:bv d=true) (r:Rep K M H d v):v=toV d/\gM v=true:=by
 cases d<;>first|(simp only[Rep]at r;subst r;exact⟨rfl,rfl⟩)|cases h
theorem zr{x y:D}(hx:bv x=true) (hy:bv y=true):eqV (toV x) (toV y)=eqD x y:=by
 cases x<;>cases y<;>first|(simp[bv]at hx;done)|(simp[bv]at hy;done)|(simp[toV,eqV,eqD];done)
theorem gS{K:o0}{M:DH}{H:Hp}{x:D}(hx:bv x=true):∀{ds:List D}{vs:List V},ar K M H ds vs->ds.all bv=true->vs.all gM=true/\inV (toV x) vs=ds.any fun d=>eqD d x
 |[],_,h,_=>by simp only[ar]at h;subst h;simp[inV]
 |d::ds,_,h,ha=>by
  simp only[ar]at h;obtain⟨v,ws,rfl,h3,h4⟩:=h;rw[V1,K1]at ha;obtain⟨e1,e2⟩:=Dh ha.1 h3;obtain⟨e3,e4⟩:=gS hx h4 ha.2;subst e1;refine⟨by rw[V1,e2,e3];rfl,?_⟩;unfold inV at e4 ⊢;rw[O9,O9,e4,zr ha.1 hx]
theorem aX.scal{K:o0}{M:DH}{H:Hp}{d:D}{v:V}(h:bv d=true) (r:aX K M H d v):v=toV d/\gM v=true:=by
 cases d<;>first|(simp only[aX,Rep]at r;subst r;exact⟨rfl,rfl⟩)|cases h
theorem FF:bM X (L6 .In) (inD false):=bM.of vJ fun H M x y dx dy dz Q hr r1 r2 e q=>by
 cases dy with
 |lst ds =>
  simp only[inD]at e
  by_cases hc:bv dx=true/\ds.all bv=true
  ·rw[if_pos hc]at e;cases e;obtain⟨l,vs,rfl,sq,rl⟩:=r2;obtain⟨e1,e2⟩:=aX.scal hc.1 r1;obtain⟨e3,e4⟩:=gS hc.1 rl hc.2;subst e1;refine⟨l,vs,rfl,.inl (SqL.of sq),e2,e3,q _ H (Ext.refl _ _) hr ?_⟩;rw[e4];simp[Rep]
  ·rw[if_neg hc]at e;cases e
 |tup ds =>
  simp only[inD]at e
  by_cases hc:bv dx=true/\ds.all bv=true
  ·rw[if_pos hc]at e;cases e;obtain⟨l,vs,rfl,sq,rl⟩:=r2;obtain⟨e1,e2⟩:=aX.scal hc.1 r1;obtain⟨e3,e4⟩:=gS hc.1 rl hc.2;subst e1;refine⟨l,vs,rfl,.inr sq,e2,e3,q _ H (Ext.refl _ _) hr ?_⟩;rw[e4];simp[Rep]
  ·rw[if_neg hc]at e;cases e
 |_=>cases e
theorem yK:bM X (L6 .NotIn) (inD true):=bM.of o7 fun H M x y dx dy dz Q hr r1 r2 e q=>by
 cases dy with
 |lst ds =>
  simp only[inD]at e
  by_cases hc:bv dx=true/\ds.all bv=true
  ·rw[if_pos hc]at e;cases e;obtain⟨l,vs,rfl,sq,rl⟩:=r2;obtain⟨e1,e2⟩:=aX.scal hc.1 r1;obtain⟨e3,e4⟩:=gS hc.1 rl hc.2;subst e1;refine⟨l,vs,rfl,.inl (SqL.of sq),e2,e3,q _ H (Ext.refl _ _) hr ?_⟩;rw[e4];simp[Rep]
  ·rw[if_neg hc]at e;cases e
 |tup ds =>
  simp only[inD]at e
  by_cases hc:bv dx=true/\ds.all bv=true
  ·rw[if_pos hc]at e;cases e;obtain⟨l,vs,rfl,sq,rl⟩:=r2;obtain⟨e1,e2⟩:=aX.scal hc.1 r1;obtain⟨e3,e4⟩:=gS hc.1 rl hc.2;subst e1;refine⟨l,vs,rfl,.inr sq,e2,e3,q _ H (Ext.refl _ _) hr ?_⟩;rw[e4];simp[Rep]
  ·rw[if_neg hc]at e;cases e
 |_=>cases e
def qA(f:D->Option D):List D->Option D
 |[d]=>f d
 |_=>none
theorem nK{K:o0}{M:DH}{H:Hp}{d:D}{xs:List V}(h:P5 (aX K M H) [d] xs):∃v,xs=[v]/\aX K M H d v:=by
 cases h with
 |cons r t=>cases t;exact⟨_,rfl,r⟩
theorem dX{f:D->Option D}{ds:List D}{z:D}(h:qA f ds=some z):∃d,ds=[d]/\f d=some z:=by
 match ds,h with
 |[d],h=>exact⟨d,rfl,h⟩
noncomputable def rP:D->Option D
 |.tup ds=>some (.int ds.length)
 |.lst ds=>some (.int ds.length)
 |.scr ds=>some (.int ds.length)
 |.str x=>if x.length<=F2 then some (.int x.length)else none
 |_=>none
theorem a7:bK X (.builtin "len") (qA rP):=bK.of (dF.or pq oS) fun H M xs ds dz Q hr rp e q=>by
 obtain⟨d,rfl,e0⟩:=dX e;clear e;have e:=e0;clear e0;obtain⟨v,rfl,r⟩:=nK rp;cases d with
 |tup ds=>cases e;obtain⟨l,vs,rfl,sq,rl⟩:=r;exact .inl ⟨l,vs,rfl,.inr sq,q _ H (Ext.refl _ _) hr (by rw[<-rl.length];simp[Rep])⟩
 |lst ds=>cases e;obtain⟨l,vs,rfl,sq,rl⟩:=r;exact .inl ⟨l,vs,rfl,.inl (SqL.of sq),q _ H (Ext.refl _ _) hr (by rw[<-rl.length];simp[Rep])⟩
 |scr ds=>cases e;obtain⟨l,vs,rfl,sq,rl⟩:=r;exact .inl ⟨l,vs,rfl,.inl sq,q _ H (Ext.refl _ _) hr (by rw[<-rl.length];simp[Rep])⟩
 |str x =>
  simp only[rP]at e
  by_cases hz:x.length<=F2
  ·rw[if_pos hz]at e;cases e;exact .inr ⟨x,by rw[nj r],hz,q _ H (Ext.refl _ _) hr (by simp[Rep])⟩
  ·rw[if_neg hz]at e;cases e
 |_=>cases e
def Fs:D->Option D
 |.int i=>some (.int (if i<0 then -i else i))
 |_=>none
def B2:D->Option D
 |.lst ds=>some (.tup ds)
 |.tup ds=>some (.tup ds)
 |_=>none
theorem dq:bK X (.type "tuple") (qA B2):=bK.of mZ fun H M xs ds dz Q hr rp e q=>by
 obtain⟨d,rfl,e0⟩:=dX e;clear e;have e:=e0;clear e0;obtain⟨v,rfl,r⟩:=nK rp;cases d with
 |lst ds=>cases e;obtain⟨l,vs,rfl,sq,rl⟩:=r;exact⟨l,vs,rfl,.inl ⟨SqL.of sq,fun p hp=>jJ hr hp rl q⟩⟩
 |tup ds=>cases e;have t1:=aX.tup hr r;obtain⟨l,vs,rfl,sq,rl⟩:=r;exact⟨l,vs,rfl,.inr ⟨sq,q _ H (Ext.refl _ _) hr t1⟩⟩
 |_=>cases e
def DV:D->Option D
 |.lst ds=>some (.lst ds)
 |.scr ds=>some (.lst ds)
 |.tup ds=>some (.lst ds)
 |_=>none
theorem xr:bK X (.type "list") (qA DV):=bK.of o4 fun H M xs ds dz Q hr rp e q=>by
 obtain⟨d,rfl,e0⟩:=dX e;clear e;have e:=e0;clear e0;obtain⟨v,rfl,r⟩:=nK rp;cases d with
 |lst ds=>cases e;obtain⟨l,vs,rfl,sq,rl⟩:=r;exact⟨l,vs,rfl,.inl (SqL.of sq),fun p hp=>fu hr hp rl q⟩
 |scr ds=>cases e;obtain⟨l,vs,rfl,sq,rl⟩:=r;exact⟨l,vs,rfl,.inl sq,fun p hp=>fu hr hp rl q⟩
 |tup ds=>cases e;obtain⟨l,vs,rfl,sq,rl⟩:=r;exact⟨l,vs,rfl,.inr sq,fun p hp=>fu hr hp rl q⟩
 |_=>cases e
def z7:D->Bool
 |.bl _=>true
 |_=>false
def zD:D->Bool
 |.bl b=>b
 |_=>false
def wI:D->Option D
 |.lst ds=>if ds.all z7=true then some (.bl (ds.all zD))else none
 |_=>none
theorem vp{p:Nat->Bool}{q:D->Bool}:∀{ds:List D},(∀i d,ds[i]?=some d->p i=q d)->(T7 ds.length).all p=ds.all q:=by
 intro ds h;rw[Bool.eq_iff_iff,Q8,Q8];constructor
 ·intro hh d hd;obtain⟨i,hi,e⟩:=List.mem_iff_getElem.mp hd;rw[<-h i d (by rw[List.getElem?_eq_getElem hi,e])];exact hh i (X8.mpr hi)
 ·intro hh i hi;have hi:=X8.mp hi;rw[h i ds[i] (by simp[hi])];exact hh _ (List.getElem_mem hi)
theorem yb{K:o0}{M:DH}{H:Hp}{ds:List D}{vs:List V}{us:List u8}(rl:ar K M H ds vs) (rv:aB vs us) (hb:ds.all z7=true) {i:Nat}{u:u8}(h:us[i]?=some u):∃d,ds[i]?=some d/\u=.bool (zD d):=by
 have hi:i<ds.length:=by rw[rl.length,rv.length];exact(L3.mp h).1
 obtain⟨v,g,r⟩:=rl.get (i:=i) (d:=ds[i]) (by simp[hi]);obtain⟨u',g',r'⟩:=rv.get g;rw[h]at g';cases g';have hbi:=Q8.mp hb ds[i] (List.getElem_mem hi);refine⟨ds[i],by simp[hi],?_⟩;cases q:ds[i]with
 |bl b=>rw[q]at r;simp only[Rep]at r;subst r;exact r'
 |_=>rw[q]at hbi;cases hbi
theorem qq(hc:X.calm=true):bK X (.builtin "all") (qA wI):=by
 intro ag s σ H M xs us ds dz Q I hr rv rp e k;obtain⟨d,rfl,e0⟩:=dX e;clear e;have e:=e0;clear e0;obtain⟨v,rfl,r⟩:=nK rp;obtain⟨u,rfl,ru⟩:=aB.one rv;cases d with
 |lst ds =>
  simp only[wI]at e
  by_cases hb:ds.all z7=true
  ·rw[if_pos hb]at e;cases e;obtain⟨l,vs,rfl,sq,rl⟩:=r;cases ru;obtain⟨its,rv,pl,hz⟩:=I.list (SqL.of sq);have hne:l≠s.heap.objs.size:=H0 (I.hok.lt sq);refine call_all_walk (wpAny_pyIter_list pl.isList ⟨s.heap.objs.size,[s.heap.objs.size,l],[s.heap.objs.size],its.toArray.size,_,_,fun i=>(ds[i]?.map zD).getD false,rfl,Walks.list (A:=X.A.in1) (show X.A.in1.handled=none from I.ok.hd hc) s.heap.objs.size l hne its.toArray,⟨⟨_,F7 _ rfl,rfl,rfl⟩,?_⟩,fun i v s' Q' E' hv q=>?_,fun h' tk kk=>?_⟩)
   ·obtain⟨o,e,c⟩:=pl.isList;exact⟨o,F0 _ e,c⟩
   ·obtain⟨d,hd,rfl⟩:=yb rl rv hb (i:=i) (u:=v) (by simpa using hv);dsimp only at q;rw[hd]at q;exact O7 q
   ·have I1:Inv X ag σ H { s with heap:=h',toks:=tk }:=I.kept (t':=tk) fun b o e=>kk b o (by simpa using H0 (F5 e)) (F0 _ e);refine⟨.bl _,H,I1,rfl,k _ H (Ext.refl _ _) hr ?_⟩;rw[F3,<-rv.length,<-rl.length,vp (q:=zD) (fun i d hd=>by simp[hd])];simp[Rep]
  ·rw[if_neg hb]at e;cases e
 |_=>cases e
end
section
variable{X:Cx}{a b c e:J5}{es:List J5}{te ta tb:TEd}{t:TAd}{pos:Pos}
noncomputable def yY(T:String):D->Option Bool
 |.non=>some false
 |.bl _=>some (T=="bool" || T=="int")
 |.int _=>some (T=="int")
 |.str _=>some (T=="str")
 |.tup _=>some (T=="tuple")
 |.lst _=>some (T=="list")
 |.emp=>some (T=="dict")
 |_=>none
def okT(T:String):Bool:=T=="bool" || T=="int" || T=="str" || T=="tuple" || T=="list"
def DY(T:String) (te:TEd):TEd:=fun Δ M Q=>te Δ M fun d M1=>∃k,yY T (rdM M1 d)=some k/\Q (.bl k) M1
theorem vL{T:String}(hT:okT T=true) {ag:List (F9×Obj)}{s:F1}{σ:St}{H:Hp}{M:DH}{v:V}{u:u8}{d:D}{k:Bool}{Q:VK}(I:Inv X ag σ H s) (r:aL v u) (rd:aX X.K M H d v) (e:yY T d=some k) (q:Q (.bl k) H) :
  J4 (K3 X.prog X.w) X.A (call (.builtin "isinstance") [u,.type T]) (EP X ag σ Q) X.xe s:=by
 have fin:∀{k'} ,k=k'->EP X ag σ Q (.bool k') s:=fun e=>by subst e;exact⟨.bl k,H,I,rfl,q⟩
 have fint:∀{k'} ,k=k'->EP X ag σ Q (.bool k') { s with toks:=s.toks+1 }:=fun e=>by subst e;exact⟨.bl k,H,I.tok _,rfl,q⟩
 have h5:T="bool"∨T="int"∨T="str"∨T="tuple"∨T="list":=by
  simp[okT]at hT;rcases hT with(((h|h)|h)|h)|h<;>simp[h]
 cases d with
 |non =>
  simp only[aX,Rep]at rd;subst rd;simp only[aL]at r;subst r;cases e;rcases h5 with rfl|rfl|rfl|rfl|rfl
  ·exact IsiPair.NoneType_bool (fint rfl)
  ·exact IsiPair.NoneType_int (fint rfl)
  ·exact IsiPair.NoneType_str (fint rfl)
  ·exact IsiPair.NoneType_tuple (fint rfl)
  ·exact IsiPair.NoneType_list (fint rfl)
 |bl b =>
  simp only[aX,Rep]at rd;subst rd;simp only[aL]at r;subst r;cases e;rcases h5 with rfl|rfl|rfl|rfl|rfl
  ·exact IsiPair.bool_bool (fin rfl)
  ·exact IsiPair.bool_int (fin rfl)
  ·exact IsiPair.bool_str (fint rfl)
  ·exact IsiPair.bool_tuple (fint rfl)
  ·exact IsiPair.bool_list (fint rfl)
 |int i =>
  simp only[aX,Rep]at rd;subst rd;obtain⟨t,rfl⟩:=r;cases e;rcases h5 with rfl|rfl|rfl|rfl|rfl
  ·exact IsiPair.int_bool (fint rfl)
  ·exact IsiPair.int_int (fin rfl)
  ·exact IsiPair.int_str (fint rfl)
  ·exact IsiPair.int_tuple (fint rfl)
  ·exact IsiPair.int_list (fint rfl)
 |str x =>
  simp only[aX,Rep]at rd;subst rd;obtain⟨t,rfl⟩:=r;cases e;rcases h5 with rfl|rfl|rfl|rfl|rfl
  ·exact IsiPair.str_bool (fint rfl)
  ·exact IsiPair.str_int (fint rfl)
  ·exact IsiPair.str_str (fin rfl)
  ·exact IsiPair.str_tuple (fint rfl)
  ·exact IsiPair.str_list (fint rfl)
 |tup ds =>
  obtain⟨a,vs,rfl,sq,rl⟩:=rd;cases r;cases e;obtain⟨its,rv,⟨o,ho,hc,_⟩,_⟩:=I.tuple sq;rcases h5 with rfl|rfl|rfl|rfl|rfl
  ·exact IsiPair.tuple_bool ho hc (fint rfl)
  ·exact IsiPair.tuple_int ho hc (fint rfl)
  ·exact IsiPair.tuple_str ho hc (fint rfl)
  ·exact IsiPair.tuple_tuple ho hc (fin rfl)
  ·exact IsiPair.tuple_list ho hc (fint rfl)
 |lst ds =>
  obtain⟨a,vs,rfl,sq,rl⟩:=rd;cases r;cases e;obtain⟨its,rv,⟨o,n,ho,hc,_⟩,_⟩:=I.list (SqL.of sq);rcases h5 with rfl|rfl|rfl|rfl|rfl
  ·exact IsiPair.list_bool ho hc (fint rfl)
  ·exact IsiPair.list_int ho hc (fint rfl)
  ·exact IsiPair.list_str ho hc (fint rfl)
  ·exact IsiPair.list_tuple ho hc (fint rfl)
  ·exact IsiPair.list_list ho hc (fin rfl)
 |emp =>
  simp only[aX,Rep]at rd;obtain⟨a,rfl,h1,_⟩:=rd;cases r;cases e;obtain⟨_,_,_,_,o,es,ep,ho,ex,_⟩:=I.hok a _ h1;rcases h5 with rfl|rfl|rfl|rfl|rfl
  ·exact IsiPair.dict_bool ho ex.1 (fint rfl)
  ·exact IsiPair.dict_int ho ex.1 (fint rfl)
  ·exact IsiPair.dict_str ho ex.1 (fint rfl)
  ·exact IsiPair.dict_tuple ho ex.1 (fint rfl)
  ·exact IsiPair.dict_list ho ex.1 (fint rfl)
 |_=>cases e
abbrev TOd:=DE->DH->(Option Int->DH->Prop)->Prop
def upO(K:o0) (t:TOd):TO:=fun σ H Q=>∃(Δ:DE) (M:DH) (R:Option Int->DH->Prop),SR K M H σ Δ/\HR K M H/\t Δ M R/\∀i M' H',R i M'->Ext M H M' H'->HR K M' H'->Q i H'
theorem upO.el{K:o0}{t:TOd}{σ:St}{H:Hp}{Q:Option Int->Hp->Prop}{P:Prop}(h:upO K t σ H Q) (f:∀(Δ:DE) (M:DH) (R:Option Int->DH->Prop),SR K M H σ Δ->HR K M H->t Δ M R->(∀i M' H',R i M'->Ext M H M' H'->HR K M' H'->Q i H')->P):P:=by
 obtain⟨x1,x2,x3,a,b,c,d⟩:=h;exact f x1 x2 x3 a b c d
def POd(X:Cx) (e:Option J5) (t:TOd):Prop:=PO X e (upO X.K t)
def oX:TOd:=fun _ M Q=>Q none M
def wF(t:TEd):TOd:=fun Δ M Q=>t Δ M fun d M1=>∃i,d=.int i/\Q (some i) M1
theorem PO.conv{e:Option J5}{t t':TO}(h:PO X e t) (k:∀ σ H Q,t' σ H Q->t σ H Q):PO X e t':=fun p s σ H Q I q=>h p s σ H Q I (k σ H Q q)
theorem Ax:POd X none oX:=Ai.conv fun σ H Q hup=>hup.el fun Δ M R sr hr q k=>k none M H q (Ext.refl _ _) hr
theorem zA(h:PEd X e te):POd X (some e) (wF te):=(zh h).conv fun σ H Q hup=>hup.el fun Δ M R sr hr q k=>⟨Δ,M,_,sr,hr,q,fun d M1 v H1 ⟨i,ed,q1⟩ e1 hr1 rv=>⟨i,by subst ed;simpa only[Rep]using rv,k _ M1 H1 q1 e1 hr1⟩⟩
def c8(xs:List D) (lo hi:Option Int):List D:=(xs.drop (HT.sIx xs.length 0 lo)).take (HT.sIx xs.length xs.length hi-HT.sIx xs.length 0 lo)
def slD:D->Option Int->Option Int->Option D
 |.lst ds,lo,hi=>some (.lst (c8 ds lo hi))
 |.scr ds,lo,hi=>some (.lst (c8 ds lo hi))
 |.str x,lo,hi=>if x.length<=F2 then some (.str (aa4 x lo hi))else none
 |.tup ds,lo,hi=>if HT.sIx ds.length 0 lo=0/\HT.sIx ds.length ds.length hi=ds.length then none else some (.tup (c8 ds lo hi))
 |_,_,_=>none
def FE:V->Option Int->Option Int->Hp->VK->Prop:=fun x lo hi H Q=>∃z,x=.str z/\z.length<=F2/\Q (.str (aa4 z lo hi)) H
theorem C4:SlR X FE:=by
 intro ag s σ H x v vl vu lo hi sl Q I rx hs pl pu h;obtain⟨z,rfl,hz,q⟩:=h;obtain⟨t,rfl⟩:=rx;refine⟨"str",_,PySem.F.slot_str_getitem.lookup,typeIs_str _ _ _,?_⟩;have fin:∀(t':Tok) (k:Nat),EP X ag σ Q (.str (aa4 z lo hi) t') { s with toks:=k }:=fun t' k=>⟨.str (aa4 z lo hi),H,I.tok _,⟨t',rfl⟩,q⟩;cases pl with
 |none =>
  cases pu with
  |none=>exact S6 (l:=none) (u:=none) (st:=none) hs rfl (X6 ⟨L7 (aa5 z _ _) hz,fin⟩)
  |int j tj=>exact S6 (l:=none) (u:=some (j,tj)) (st:=none) hs rfl (X6 ⟨L7 (aa5 z _ _) hz,fin⟩)
 |int i ti =>
  cases pu with
  |none=>exact S6 (l:=some (i,ti)) (u:=none) (st:=none) hs rfl (X6 ⟨L7 (aa5 z _ _) hz,fin⟩)
  |int j tj=>exact S6 (l:=some (i,ti)) (u:=some (j,tj)) (st:=none) hs rfl (X6 ⟨L7 (aa5 z _ _) hz,fin⟩)
end
def bO(names:List (Str×J9)) (cells:List (Str×F9)):List (Str×F9):=(names.filterMap fun y=>if y.2==.free then(cells.lookup y.1).map fun c=>(y.1,c)else none).reverse
noncomputable def fB(env:Env) (y:Str×J9) (cs:List (Str×F9)):Sem (ForInStep (List (Str×F9))):=if(y.2==.free)=true then(do let c <-cellOf env y.1;V2 (O5 ((y.1,c)::cs)))else V2 (O5 cs)
theorem jN{env:Env}:∀(names:List (Str×J9)) (acc:List (Str×F9)),(∀y∈names,y.2=.free->(env.cells.lookup y.1).isSome=true) ->
  (forIn names acc (fB env):Sem (List (Str×F9)))=V2 (bO names env.cells++acc)
 |[],acc,_=>by simp[bO]
 |y::r,acc,h=>by
  rw[List.forIn_cons]
  by_cases hk:(y.2==K7)=true
  ·have hs:=h y M0 (by simpa using hk);obtain⟨c,hc⟩:=O2.mp hs;have e1:fB env y acc=V2 (O5 ((y.1,c)::acc)):=by
    unfold fB cellOf;rw[if_pos hk,hc];simp only[ad3]
   rw[e1];simp only[ad3];rw[jN r ((y.1,c)::acc) fun y hy=>h y (K8 _ hy)];have e2:bO (y::r) env.cells=bO r env.cells++[(y.1,c)]:=by
    unfold bO;rw[P9,if_pos hk,hc];simp
   rw[e2];simp
  ·have e1:fB env y acc=V2 (O5 acc):=by
    unfold fB;rw[if_neg hk]
   rw[e1];simp only[ad3];rw[jN r acc fun y hy=>h y (K8 _ hy)];have e2:bO (y::r) env.cells=bO r env.cells:=by
    unfold bO;rw[P9,if_neg hk]
   rw[e2]
theorem pA{scope:R0}{env:Env}(h:∀y∈scope.names,y.2=.free->(env.cells.lookup y.1).isSome=true):closureFor scope env=V2 (bO scope.names env.cells):=by
 have:=jN (env:=env) scope.names [] h;simp only[W9]at this;show(forIn scope.names [] (fB env) >>= fun cs=>V2 cs)=_;rw[this];simp only[ad3]
theorem mK{cells:List (Str×F9)}{names:List (Str×J9)}{x:Str}{c:F9}(h:(bO names cells).lookup x=some c):cells.lookup x=some c:=by
 have hm:=K5 h;unfold bO at hm;rw[List.mem_reverse,P1]at hm;obtain⟨y,_,e⟩:=hm
 split at e
 ·cases q:cells.lookup y.1 with
  |none=>rw[q]at e;cases e
  |some c'=>rw[q]at e;cases e;exact q
 ·cases e
theorem eh:∀{l:List (Str×F9)}{x:Str}{c:F9},(x,c)∈l->∃c',l.lookup x=some c'
 |(y,d)::l,x,c,h=>by
  rw[J8];cases q:x==y with
  |true=>exact⟨d,by simp⟩
  |false =>
   rcases N5.mp h with e|h
   ·cases e;simp at q
   ·simpa using eh h
theorem mI{cells:List (Str×F9)}{names:List (Str×J9)}{x:Str}(h:names.lookup x=some .free) (hs:(cells.lookup x).isSome=true):∃c,(bO names cells).lookup x=some c:=by
 obtain⟨c,hc⟩:=O2.mp hs;refine eh (c:=c) ?_;unfold bO;rw[List.mem_reverse,P1];exact⟨(x,.free),K5 h,by simp[hc]⟩
noncomputable def aR(fs:R0) (N:List Str) (scope:R0) (ms:List Bool):Bool :=
 scope.kind==.function&&scope.names.all (fun y=>y.2 != .cell)&&scope.names.all (fun y=>y.2 != .local || scope.names.lookup y.1==some .local) &&
 scope.names.all (fun y=>y.2 != .free || fs.names.lookup y.1==some .cell)&&(ms.zip N).all (fun y=>!y.1 || scope.names.lookup y.2==some .free)&&decide (ms.length<=N.length)
theorem aJ{X:Cx}{scope:R0}{ms:List Bool}{am:List Str}{n0:Nat}(hX:X.env.cells=O6 n0 X.env.scope.names []) (c:aR X.env.scope X.N scope ms=true):cT X scope (bO scope.names X.env.cells) ms am:=by
 unfold aR at c;simp only[K1,Q8,decide_eq_true_eq]at c;obtain⟨⟨⟨⟨⟨c1,c2⟩,c3⟩,c4⟩,c5⟩,c6⟩:=c;have fr:∀x,(x,K7)∈scope.names->X.env.scope.names.lookup x=some .cell:=fun x hx=>by
  have:=c4 _ hx;simpa using this
 have cs:∀x,(x,K7)∈scope.names->(X.env.cells.lookup x).isSome=true:=fun x hx=>by
  rw[hX];exact N9 _ _ _ (.inl (fr x hx))
 refine⟨by simpa using c1,fun y hy e=>?_,fun y hy e=>?_,pA fun y hy e=>?_,fun x c h=>mK h,fun x h=>mI h (cs x (K5 h)),fun x h=>.inl (fr x (K5 h)),fun i x h1 h2=>?_,c6⟩
 ·have:=c2 y hy;rw[e]at this;simp at this
 ·have:=c3 y hy;simpa[e]using this
 ·obtain⟨a,b⟩:=y;cases e;exact cs a hy
 ·have:=c5 (true,x) (by
   rw[List.mem_iff_getElem?];exact⟨i,by rw[List.getElem?_zip_eq_some];exact⟨h1,h2⟩⟩)
  simpa using this
structure FnD(P:L5) (w:P6) (K:o0) (mg:Str->Option u8) (base:K4) (x:Str) (k n:Nat) (S:SpD):Prop where
 ex:∃(f:F9) (fd:U8) (ps:List Str),bj P w K mg base CX0 k f fd ps (spD K n S)/\mg x=some (.ref f)/\U1 K (.ref f)=true/\dZ K fd ps []
section
variable{X:Cx}{e:J5}{es:List J5}{t:TAd}{pos p:Pos}{x:Str}{k n:Nat}{S:SpD}
theorem dc(F:FnD X.prog X.w X.K X.mg X.base x k n S) (hr:cZ k X.A) (hg:Gl X x) (ha:PAd X (e::es) t) (hdb:(x==("__debug__":Str))=false:=by decide) (he:J1 (e::es) X.env=(false,T8 e X.env)::J1 es X.env:=by rfl) (hpl:(U6 pos (J1 es X.env)).any (·.1)=false:=by rfl) :
  PEd X (.Call (.Name x p) (e::es) [] pos) (lg n S t):=by
 obtain⟨f,fd,ps,h1,h2,h3,h4⟩:=F.ex;exact Bz h1 hr hg h2 h3 h4 ha hdb he hpl
end
section
variable{X:Cx}{a b c e:J5}{es:List J5}{te ta tb:TEd}{t:TAd}{pos:Pos}{tg iter:J5}
def AK(te:TEd):TSd:=fun E Δ M=>te Δ M fun d M1=>∃a ds,d=.ref a/\M1 a=some (.lst ds)/\E.rt (.lst ds) (jd M1 a)
theorem Cm:bM X (ac9 .Add) (iOp fun i j=>some (.int (i+j))):=by
 intro ag s σ H M x y v u dx dy dz Q I hr rx ry r1 r2 e k;obtain⟨i,j,rfl,rfl,e'⟩:=mQ e;cases e';exact Cg ag s σ H x y v u Q I rx ry ⟨i,j,fC r1,fC r2,k _ H (Ext.refl _ _) hr (by simp[Rep])⟩
theorem E1:D2 X (unaryOp .USub) (fun d=>match d with|.int i=>some (.int (-i))|_=>none):=by
 intro ag s σ H M x v dx dz Q I hr rx r1 e k;cases dx with
 |int i=>cases e;exact Bv ag s σ H x v Q I rx ⟨i,fC r1,k _ H (Ext.refl _ _) hr (by simp[Rep])⟩
 |_=>cases e
def iI:D->Option (List D)
 |.tup ds=>some ds
 |.lst ds=>some ds
 |.scr ds=>some ds
 |.str x=>if x.length<=F2 then some (jn x)else none
 |_=>none
def A1(te:TEd):TId:=fun Δ M R=>te Δ M fun d M1=>∃ds,iI d=some ds/\(ds.length<=F2->R ds M1)
theorem o9{ag:List (F9×Obj)}{σ:St}{H:Hp}{s:F1}{o:Obj}(I:Inv X ag σ H s):∀b∈[s.heap.objs.size],cV X ag H b:=fun b hb=>by
 have e:b=s.heap.objs.size:=by simpa using hb
 subst e;exact I.fpOk (F6 _) (I.hok.fresh (F6 _))
theorem Cf{K:o0}{x:Str}{M1:DH}{H1:Hp}:ItD K (ItW x.cps.size fun i v=>∃c,x.cps[i]?=some c/\v=.str ⟨#[c]⟩) (jn x) M1 H1:=fun M2 H2 e2 hr2 i=>⟨fun d hd=>by
  unfold jn at hd;rw[P7]at hd;cases q:x.cps.toList[i]? with
  |none=>rw[q]at hd;cases hd
  |some c =>
   rw[q]at hd;cases hd;have hc:x.cps[i]?=some c:=by simpa using q
   refine⟨?_,fun y H' ⟨eH,c',hc',ey⟩=>?_⟩
   ·exact(Array.getElem?_eq_some_iff.mp hc).1
   ·subst eH;subst ey;rw[hc]at hc';cases hc';exact⟨Ext.refl _ _,hr2,by simp[Rep]⟩,fun hl=>by
  show x.cps.size<=i;simpa[jn]using hl⟩
end
section
variable{M:DH}
theorem yM{i:Int}:rdM M (.int i)=.int i:=rfl
theorem CS{i:Bool}:rdM M (.bl i)=.bl i:=rfl
theorem zu{i:Str}:rdM M (.str i)=.str i:=rfl
theorem zU:rdM M .non=.non:=rfl
theorem Ad{i:List D}:rdM M (.tup i)=.tup i:=rfl
theorem zb{i:List D}:rdM M (.lst i)=.lst i:=rfl
theorem ze{i:List D}:rdM M (.scr i)=.scr i:=rfl
theorem kU{a:F9}{ds:List D}(h:M a=some (.lst ds)):rdM M (.ref a)=.lst ds:=by simp[rdM,h]
theorem yJ{a:F9}{ds:List D}:rdM (aw M a (.lst ds)) (.ref a)=.lst ds:=kU aj
theorem BC{f:Int->Int->Option D}{a b:Int}:iOp f (.int a) (.int b)=f a b:=rfl
theorem zM{a b:Int}:kl (.int a) (.int b)=some (.int (a+b)):=rfl
theorem Ab{a b:Str}:kl (.str a) (.str b)=if a.length+b.length<=F2 then some (.str (a++b))else none:=rfl
theorem zK{a b:List D}:kl (.lst a) (.lst b)=if a.length+b.length<=F2 then some (.lst (a++b))else none:=rfl
theorem zi{a b:List D}:kl (.tup a) (.tup b)=if a.length+b.length<=F2 then some (.tup (a++b))else none:=rfl
theorem EJ{a:List D}{b:Int}:ixD (.lst a) (.int b)=atI a b:=rfl
theorem Dy{a:List D}{b:Int}:ixD (.scr a) (.int b)=atI a b:=rfl
theorem EY{a:List D}{b:Int}:ixD (.tup a) (.int b)=atI a b:=rfl
theorem Bc{α:Type}{x:α}{xs:List α}:atI (x::xs) 0=some x:=du (j:=0) rfl
theorem DA{α:Type}{x y:α}{xs:List α}:atI (x::y::xs) 1=some y:=du (j:=1) rfl
theorem D3{α:Type}{x y z:α}{xs:List α}:atI (x::y::z::xs) 2=some z:=du (j:=2) rfl
theorem wu{f:D->Option D}{d:D}:qA f [d]=f d:=rfl
theorem CV{a:List D}:rP (.lst a)=some (.int a.length):=rfl
theorem BS{a:List D}:rP (.tup a)=some (.int a.length):=rfl
theorem BD{a:List D}:rP (.scr a)=some (.int a.length):=rfl
theorem Ca{x:Str}:rP (.str x)=if x.length<=F2 then some (.int x.length)else none:=rfl
theorem BY{i:Int}:Fs (.int i)=some (.int (if i<0 then -i else i)):=rfl
theorem C1{a:List D}:B2 (.lst a)=some (.tup a):=rfl
theorem B6{a:List D}:B2 (.tup a)=some (.tup a):=rfl
theorem EF{b:Bool}{x:D}{ds:List D}:inD b x (.lst ds)=if bv x=true/\ds.all bv=true then some (.bl (xor b (ds.any fun d=>eqD d x)))else none:=rfl
theorem Ea{b:Bool}{x:D}{ds:List D}:inD b x (.tup ds)=if bv x=true/\ds.all bv=true then some (.bl (xor b (ds.any fun d=>eqD d x)))else none:=rfl
theorem BE{a b:Int}:eqF (.int a) (.int b)=some (.bl (a==b)):=by simp[eqF,dLe,eqD]
theorem CQ{a b:Str}:eqF (.str a) (.str b)=some (.bl (a==b)):=by simp[eqF,dLe,eqD]
theorem Cv{a b:Bool}:eqF (.bl a) (.bl b)=some (.bl (a==b)):=by simp[eqF,dLe,eqD]
theorem Dk{ds:List D}{lo hi:Option Int}:slD (.scr ds) lo hi=some (.lst (c8 ds lo hi)):=rfl
theorem D9{ds:List D}{lo hi:Option Int}:slD (.lst ds) lo hi=some (.lst (c8 ds lo hi)):=rfl
theorem DB{x:Str}{lo hi:Option Int}:slD (.str x) lo hi=if x.length<=F2 then some (.str (aa4 x lo hi))else none:=rfl
theorem xD{a:List D}:iI (.lst a)=some a:=rfl
theorem yo{a:List D}:iI (.tup a)=some a:=rfl
theorem xa{a:List D}:iI (.scr a)=some a:=rfl
theorem wx{x:Str}:iI (.str x)=if x.length<=F2 then some (jn x)else none:=rfl
theorem E3{n:Nat}:ixN (n+1) 0=some 0:=by simp[ixN]<;>omega
theorem Eu{n:Nat}:ixN (n+2) 1=some 1:=by simp[ixN]<;>omega
theorem DI{n:Nat}:ixN (n+3) 2=some 2:=by simp[ixN]<;>omega
theorem sz3(n:Nat) (h:n<=1000:=by decide):n<=F2:=L7 h (by decide)
theorem CL{b:Bool}:yY "bool" (.bl b)=some true:=rfl
end
end L2
namespace L2
theorem DU{i j:Int}(h:-18446744073709551616<j/\j<18446744073709551616):jO i j=True:=by unfold jO;simp;right;omega
theorem DL{i j:Int}(h:-18446744073709551616<i/\i<18446744073709551616):jO i j=True:=by unfold jO;simp;left;omega
theorem yz:pS 10 18=True:=by simp[pS]
theorem ES{i j:Int}(h:0<j/\j<1073741824):o3 i j=True:=by unfold o3;simp[h]
end L2
namespace L2
open PySem PySem.Spec PyProof.Rows
theorem fX{g:GD}{tc:TTd}{te:TEd}{M:DH}{Q:List D->DH->Prop}(b:D->Bool) (y:D->D) (Ok:DE->Prop):∀(ds:List D) (Δ:DE) (acc:List D),
  (∀d∈ds,∀ Δ,Ok Δ->∃ Δ',g d Δ=some Δ'/\Ok Δ'/\(∀Q1:Bool->DH->Prop,Q1 (b d) M->tc Δ' M Q1)/\(b d=true->∀Q2:D->DH->Prop,Q2 (y d) M->te Δ' M Q2))->Ok Δ ->
  Q (acc++(ds.filter b).map y) M->cJ g tc te ds Δ M acc Q
 |[],Δ,acc,_,_,q=>by simpa[cJ]using q
 |d::ds,Δ,acc,h,hΔ,q=>by
  simp only[cJ];obtain⟨Δ',eg,ok,h1,h2⟩:=h d M0 Δ hΔ;refine⟨Δ',eg,h1 _ ?_⟩;have hr:∀d∈ds,∀ Δ,Ok Δ->∃ Δ',g d Δ=some Δ'/\Ok Δ'/\(∀Q1:Bool->DH->Prop,Q1 (b d) M->tc Δ' M Q1)/\(b d=true->∀Q2:D->DH->Prop,Q2 (y d) M->te Δ' M Q2):=fun x hx=>h x (K8 _ hx);cases hb:b d with
  |true =>
   simp only[if_true];refine h2 hb _ (fX b y Ok ds Δ' (acc++[y d]) hr ok ?_);simpa[List.filter_cons,hb]using q
  |false =>
   simp only[M7,if_false];refine fX b y Ok ds Δ' acc hr ok ?_;simpa[List.filter_cons,hb]using q
theorem zo{a b:Str}:eqD (.str a) (.str b)=(a==b):=by simp[eqD]
theorem cW{x:Str}:∀{ws:List Str},(ws.map D.str).any (fun d=>eqD d (.str x))=decide (x∈ws)
 |[]=>by simp
 |w::ws=>by
  rw[N7,O9,cW (ws:=ws),zo]
  by_cases h:w=x
  ·subst h;simp
  ·have h2:(w==x)=false:=by simpa using h
   have h3:¬ x=w:=fun e=>h e.symm;simp[h2,h3]
theorem dA{ws:List Str}:(ws.map D.str).all bv=true:=by
 induction ws with
 |nil=>rfl
 |cons w ws ih=>rw[N7,V1,ih];rfl
section
variable{X:Cx}{e:J5}{te:TEd}{pos:Pos}
def AC(te:TEd):TSd:=fun E Δ M=>te Δ M fun d M1=>∃M2,LeM M2 M1/\E.rt d M2
theorem dQ{M:DH}{q:F9}{o:HD}(h:M q=none):LeM M (aw M q o):=fun a u e=>by
 by_cases ha:a=q
 ·subst ha;rw[h]at e;cases e
 ·rw[av ha];exact e
end
end L2
namespace L2
open PySem PySem.Spec PyProof.Rows PySem.Builtin.Str
def tx(cs:List Nat):Str:=⟨cs.toArray⟩
theorem dh{α:Type} [DecidableEq α]:∀(V K:List α),V.Nodup->(∀x∈V,x∈K)->V.length<=K.length
 |[],_,_,_=>R4 _
 |x::V,K,hn,h=>by
  have hx:=h x M0;obtain⟨h1,h2⟩:=U9.mp hn;have:=dh V (K.erase x) h2 fun y hy=>(List.mem_erase_of_ne (by rintro rfl;exact h1 hy)).mpr (h y (K8 _ hy));rw[List.length_erase_of_mem hx]at this;have hp:0<K.length:=List.length_pos_of_mem hx;simp only[S8]
  lia
end L2
namespace L2
open PySem PySem.Spec PyProof.Rows
theorem nJ{g:GD}{tb:TSd}{E:gn}{all:List D}(I:Nat->DE->DH->Prop)
  (step:∀(i:Nat) (d:D) (Δ:DE) (M:DH) (X:DE->DH->Prop),all[i]?=some d->I i Δ M->(∀ Δ' M',I (i+1) Δ' M'->X Δ' M')->∃ Δ',g d Δ=some Δ'/\tb { E with nx:=X,ct:=X,bk:=E.nx } Δ' M)
  (fin:∀ Δ M,I all.length Δ M->E.nx Δ M):∀(ds:List D) (i:Nat) (Δ:DE) (M:DH),all.drop i=ds->i<=all.length->I i Δ M->df g tb E ds Δ M
 |[],i,Δ,M,e,hi,h=>by
  have:i=all.length:=by
   have:=congrArg Z5 e;simp at this;lia
  subst this;simpa only[df]using fin Δ M h
 |d::ds,i,Δ,M,e,hi,h=>by
  have hlt:i<all.length:=by
   have:=congrArg Z5 e;simp at this;lia
  have hd:all[i]?=some d:=by
   have:=congrArg List.head? e;simpa using this
  have hn:all.drop (i+1)=ds:=by
   rw[<-List.tail_drop,e];rfl
  simp only[df];exact step i d Δ M _ hd h fun Δ' M' h'=>nJ I step fin ds (i+1) Δ' M' hn hlt h'
theorem aZ{g:GD}{tb:TSd}{E:gn}{ds:List D}{Δ:DE}{M:DH}(I:Nat->DE->DH->Prop) (h0:I 0 Δ M)
  (step:∀(i:Nat) (d:D) (Δ:DE) (M:DH) (X:DE->DH->Prop),ds[i]?=some d->I i Δ M->(∀ Δ' M',I (i+1) Δ' M'->X Δ' M')->∃ Δ',g d Δ=some Δ'/\tb { E with nx:=X,ct:=X,bk:=E.nx } Δ' M)
  (fin:∀ Δ M,I ds.length Δ M->E.nx Δ M):df g tb E ds Δ M:=nJ I step fin ds 0 Δ M rfl (R4 _) h0
theorem pZ{g:GD}{tc:TTd}{te:TEd}{all:List D}{Q:List D->DH->Prop}(I:Nat->List D->DE->DH->Prop)
  (step:∀ (i:Nat) (d:D) (acc:List D) (Δ:DE) (M:DH) (X:List D → DE → DH → Prop),all[i]? = some d → I i acc Δ M → (∀ acc' Δ' M',I (i + 1) acc' Δ' M' → X acc' Δ' M') →
   ∃ Δ',g d Δ=some Δ'/\tc Δ' M fun b M1=>if b=true then te Δ' M1 fun y M2=>X (acc++[y]) Δ' M2 else X acc Δ' M1)
  (fin:∀acc Δ M,I all.length acc Δ M->Q acc M):∀(ds:List D) (i:Nat) (acc:List D) (Δ:DE) (M:DH),all.drop i=ds->i<=all.length->I i acc Δ M->cJ g tc te ds Δ M acc Q
 |[],i,acc,Δ,M,e,hi,h=>by
  have:i=all.length:=by
   have:=congrArg Z5 e;simp at this;lia
  subst this;simpa only[cJ]using fin acc Δ M h
 |d::ds,i,acc,Δ,M,e,hi,h=>by
  have hlt:i<all.length:=by
   have:=congrArg Z5 e;simp at this;lia
  have hd:all[i]?=some d:=by
   have:=congrArg List.head? e;simpa using this
  have hn:all.drop (i+1)=ds:=by
   rw[<-List.tail_drop,e];rfl
  simp only[cJ];exact step i d acc Δ M (fun acc' Δ' M'=>cJ g tc te ds Δ' M' acc' Q) hd h fun acc' Δ' M' h'=>pZ I step fin ds (i+1) acc' Δ' M' hn hlt h'
theorem mO{g:GD}{tc:TTd}{te:TEd}{ds:List D}{Δ:DE}{M:DH}{Q:List D->DH->Prop}(I:Nat->List D->DE->DH->Prop) (h0:I 0 [] Δ M)
  (step:∀ (i:Nat) (d:D) (acc:List D) (Δ:DE) (M:DH) (X:List D → DE → DH → Prop),ds[i]? = some d → I i acc Δ M → (∀ acc' Δ' M',I (i + 1) acc' Δ' M' → X acc' Δ' M') →
   ∃ Δ',g d Δ=some Δ'/\tc Δ' M fun b M1=>if b=true then te Δ' M1 fun y M2=>X (acc++[y]) Δ' M2 else X acc Δ' M1)
  (fin:∀acc Δ M,I ds.length acc Δ M->Q acc M):cJ g tc te ds Δ M [] Q:=pZ I step fin ds 0 [] Δ M rfl (R4 _) h0
theorem szB(n:Nat) (h:n<=16000000:=by decide):n<=F2:=L7 h (by decide)
theorem eW{α:Type}{f:α->D}{xs:List α}{i:Nat}{d:D}(h:(xs.map f)[i]?=some d):∃x,xs[i]?=some x/\d=f x:=by
 rw[P7]at h;cases e:xs[i]? with
 |none=>rw[e]at h;cases h
 |some x=>rw[e]at h;cases h;exact⟨x,rfl,rfl⟩
theorem qT{K:o0}{M:DH}{H:Hp}:∀ns:List Int,ar K M H (ns.map D.int) (ns.map V.int)
 |[]=>ar.nil
 |n::ns=>ar.cons (by simp[Rep]) (qT ns)
theorem oh:Manifest.owners.lookup (String.ofList ['d','e','s','r','e','v','e','r'].reverse)=some Manifest.sig_reversed:=by kernel_rfl
theorem cu:Slot "reversed" "__next__" "reversed.__next__" :=
 .of (owner:="reversed") (n:="__next__") (by rw[X7,T4];kernel_rfl) (by decide +kernel) (by decide +kernel) (by decide +kernel)
  (by first|exact .inl (by decide +kernel)|exact .inr (by decide +kernel)) (by rw[V7];kernel_rfl)
theorem gV:entryFor table "reversed.__next__"=some J3.«reversed.__next__»:=entryFor_of_tree (by kernel_rfl)
theorem gj(a:u8):argsOk "reversed.__next__" ⟨[a],[]⟩:=by
 unfold argsOk;rw[signature?_of (id:="reversed.__next__") (n:=['_','_','t','x','e','n','_','_']) (o:=['d','e','s','r','e','v','e','r']) (by kernel_rfl) oh];kernel_rfl
theorem iA:Slot "reversed" "__iter__" "reversed.__iter__" :=
 .of (owner:="reversed") (n:="__iter__") (by rw[X7,T4];kernel_rfl) (by decide +kernel) (by decide +kernel) (by decide +kernel)
  (by first|exact .inl (by decide +kernel)|exact .inr (by decide +kernel)) (by rw[V7];kernel_rfl)
theorem kN(a:u8):argsOk "reversed.__iter__" ⟨[a],[]⟩:=by
 unfold argsOk;rw[signature?_of (id:="reversed.__iter__") (n:=['_','_','r','e','t','i','_','_']) (o:=['d','e','s','r','e','v','e','r']) (by kernel_rfl) oh];kernel_rfl
theorem ly:entryFor table "reversed.__iter__"=some J3.«dict_keyiterator.__iter__» :=
 entryFor_alias (id':="dict_keyiterator.__iter__") (by kernel_rfl) (by first|rfl|decide +kernel|(unfold String.splitOn;simp +decide [String.splitOnAux])) (by decide +kernel) (by kernel_rfl)
theorem iU:typeLookup (.type "tuple") "__reversed__"=V2 none:=by rw[X7,T4];kernel_rfl
theorem mh:isSubtype (.type "tuple") (.type "dict")=V2 false:=by rw[V7];kernel_rfl
section
variable{prog:L5}{w:P6}{A:N3}{E:u8->F1->Prop}{s:F1}
noncomputable def uh(l:F9) (i:Int):Obj:={ cls:=.type "reversed",data:=.fields #[.ref l,Z3 i] }
def fq(h:K4) (a l:F9) (i:Int):Prop:=∃o,h.get? a=some o/\o.cls=.type "reversed"/\o.data=.fields #[.ref l,Z3 i]
theorem fq.typeIs{a l:F9}{i:Int}(x:fq s.heap a l i):s.TypeIs (.ref a) "reversed":=let⟨o,ho,hc,_⟩:=x;⟨o,ho,hc⟩
theorem fq.at{h h':K4}{a l:F9}{i:Int}(x:fq h a l i) (e:∀o,h.get? a=some o->h'.get? a=some o):fq h' a l i:=let⟨o,ho,r⟩:=x;⟨o,e _ ho,r⟩
theorem mV(l:F9) (items:Array u8) (hsz:items.size<2 ^ 63) :
  Meets (J3.«reversed.__new__» ⟨[.type "reversed",.ref l],[]⟩) (fun _ R s=>ab8 s.heap l items/\∀k,R (.ok (.ret (.ref s.heap.objs.size))) { s with heap:=s.heap.push (uh l ((items.size:Int)-1)),toks:=k }) :=
 .of_wp fun prog w A R s h=>by
  obtain⟨hl,h⟩:=h;unfold J3.«reversed.__new__»;refine s0 (T5 (newClass_reversed _) ?_)
  try dsimp only
  refine s0 (T5 (a:=()) (by first|rfl|kernel_rfl) ?_);refine s0 (T5 (a:=()) (by first|rfl|kernel_rfl) ?_)
  try dsimp only
  refine s0 (X4 hl.typeIs iU ?_)
  try dsimp only
  refine s0 (s0 (wpAny_isInstance hl.typeIs mh ?_));rw[if_neg L4];refine s0 (X4 hl.typeIs slot_tuple_getitem.lookup ?_);dsimp only;rw[if_pos (by decide +kernel)];refine F4 ?_;rw[if_neg (by decide)];refine s0 (len_tuple hl (by lia) ?_);refine s0 (T5 (a:=some (items.size:Int)) rfl ?_);dsimp only;show J4 _ _ (newObj (.type "reversed") (.fields #[.ref l,Z3 ((items.size:Int)-1)]) >>= _) _ _ _;exact s0 (K0 (F4 ⟨_,rfl,h _⟩))
theorem m9:Slot "reversed" "__init__" "object.__init__" :=
 .of (owner:="object") (n:="__init__") (by rw[X7,T4];kernel_rfl) (by decide +kernel) (by decide +kernel) (by decide +kernel)
  (by first|exact .inl (by decide +kernel)|exact .inr (by decide +kernel)) (by rw[V7];kernel_rfl)
theorem rm:TypeCalled "reversed" "reversed.__new__" "object.__init__" :=
 ⟨by decide +kernel,by decide +kernel,⟨_,_,F.mro_reversed⟩,F.made_reversed,by decide +kernel,by rw[V7];kernel_rfl,m9⟩
theorem mf{l:F9}{items:Array u8}{Q:u8->F1->Prop}(hl:ab8 s.heap l items) (hsz:items.size<2 ^ 63)
  (h:∀k,Q (.ref s.heap.objs.size) { s with heap:=s.heap.push (uh l ((items.size:Int)-1)),toks:=k }):J4 (K3 prog w) A (call (.type "reversed") [.ref l]) Q E s:=by
 refine callType_new rm (by decide) (F.typeCall_reversed_1 _) (F.newCall_reversed_1 _) (fun obj=>F.args_object_init_2 obj _) F.entry_reversed_new (mV l items hsz) ⟨hl,fun k=>?_⟩;exact⟨⟨_,F7 _ rfl,rfl⟩,h k⟩
theorem fK{it l:F9}{i:Nat}{items:Array u8}{x:u8}{Q:Option u8->F1->Prop}(hit:fq s.heap it l (i:Int)) (hl:ab8 s.heap l items) (hx:items[i]?=some x) (hsz:items.size<2 ^ 62)
  (hQ:∀h' k,fq h' it l ((i:Int)-1)->N8 it s.heap h'->Q (some x) { s with heap:=h',toks:=k }):J4 (K3 prog w) A (ac6 (.ref it)) Q E s:=by
 obtain⟨o,ho,hc,hd⟩:=id hit;have hi:i<items.size:=(Array.getElem?_eq_some_iff.mp hx).1;unfold ac6;refine s0 (wpAny_attempt (N6 (name:=U4 "__next__") hit.typeIs cu
  (P3 cu hit.typeIs gV ?_ (gj _))))
 unfold J3.«reversed.__next__»;refine s0 (T5 (a:=(P8 it,[])) rfl ?_)
 try dsimp only
 refine s0 (O4 ho hd (x:=.ref l) rfl ?_);refine s0 (O4 ho hd (x:=Z3 (i:Int)) rfl ?_);show J4 _ _ (if(i:Int)<0 then _ else _) _ _ s;rw[if_neg (by lia)];refine s0 (X4 hl.typeIs slot_tuple_getitem.lookup ?_);rw[if_neg (by simp)];refine s0 (wpAny_mkInt ?_);refine s0 (wpAny_attempt (getItem_tuple (s:={ s with toks:=s.toks+1 }) hl (by lia) (by lia) (j:=i) (by unfold seqIndex?;simp;lia) hx ?_));dsimp only;refine s0 (O4 (s:={ s with toks:=s.toks+1 }) ho hd (x:=Z3 (i:Int)) rfl ?_);dsimp only[Z3];refine s0 (V8 (s:={ s with toks:=s.toks+1 }) ho hd (by simp) ?_);refine F4 ⟨x,rfl,F4 (hQ _ _ ?_ (S7 ..))⟩;exact⟨_,T2 _ ho (Obj.isFreed_of_fields (R1 hd _)),(Obj.cls_mapFields ..).trans hc,by
  rw[R1 hd];simp[Z3]⟩
theorem gr{it l:F9}{Q:Option u8->F1->Prop}(hh:A.handled=none) (hit:fq s.heap it l (-1))
  (hQ:∀h',K4.ExtBut it s.heap h'->Q none { s with heap:=h' }):J4 (K3 prog w) A (ac6 (.ref it)) Q E s:=by
 obtain⟨o,ho,hc,hd⟩:=id hit;unfold ac6;refine s0 (wpAny_attempt (N6 (name:=U4 "__next__") hit.typeIs cu
  (P3 cu hit.typeIs gV ?_ (gj _))))
 unfold J3.«reversed.__next__»;refine s0 (T5 (a:=(P8 it,[])) rfl ?_)
 try dsimp only
 refine s0 (O4 ho hd (x:=.ref l) rfl ?_);refine s0 (O4 ho hd (x:=Z3 (-1)) rfl ?_);show J4 _ _ (if(-1:Int)<0 then _ else _) _ _ s;rw[if_pos (by decide)];refine s0 (wpAny_rule ?_);have ho1:=T2 (Obj.mapFields (·.setIfInBounds 1 (Z3 (-1)))) ho (Obj.isFreed_of_fields (R1 hd _));refine s0 (s0 (V8 ho hd (by simp) (V8 ho1 (R1 hd _) (by simp) ?_)));refine s0 ?_;show J4 _ _ (newExc (.type "StopIteration") [] >>= _) _ _ _;refine s0 ?_;simp only[newExc,newTuple];refine s0 (K0 ?_ (by size_fits));refine s0 (m:=Z1 _ _) (T5 (a:=V3) (by first|rfl|(simp only[Z1];rfl)) ?_);refine K0 ?_ (by size_fits);simp only[raiseNew];refine s0 (wpAny_handled ?_)
 first|rw[show A.in1.handled=none from hh]|rw[hh]
 refine s0 (F4 (wpAny_throw ?_));refine s0 (wpAny_isInstance (T:="StopIteration") (b:=true) ⟨_,F7 _ rfl,rfl⟩ isSubtype_stop ?_);refine F4 (hQ _ ((K4.ExtBut.push ?_ _).push _));exact fun b o hb e=>((S7 ..).2 b hb).trans (((S7 ..).2 b hb).trans e)
theorem ff{it l:F9}{i:Int}{Q:u8->F1->Prop}(hit:fq s.heap it l i) (h:Q (.ref it) s):J4 (K3 prog w) A (pyIter (.ref it)) Q E s:=by
 refine wpAny_pyIter_slot hit.typeIs iA (P3 iA hit.typeIs ly ?_ (kN _));show J4 _ _ (ret (.ref it)) _ _ s;exact F4 ⟨_,rfl,"reversed",_,hit.typeIs,cu.lookup,h⟩
end
def Itv(K:o0) (a:F9) (n:Nat):It :=
 ⟨fun i H=>(∃xs,SqT K H a xs/\xs.length=n)/\i<n,fun i H x H'=>H'=H/\∀xs,SqT K H a xs->xs[n-1-i]?=some x,fun i _=>n<=i⟩
theorem wQ:F2<2 ^ 62:=by decide
theorem wG{P:L5}{w:P6}{K:o0}{tg:J5}(a it:F9) (n:Nat):iD P w K tg (Itv K a n) [it] it (fun i h=>i<=n/\fq h it a ((n:Int)-1-(i:Int))) where
 mem:=by simp
 obj:=fun i h st b hb=>by
  have e:b=it:=by simpa using hb
  subst e;obtain⟨_,o,e,c,d⟩:=st;exact⟨o,e,fun v z=>by rw[d]at z;cases z⟩
 keep:=fun i h h' st k=>⟨st.1,st.2.at fun o e=>k it (by simp) o e⟩
 item:=by
  intro X hP hw hK hc i ag s σ H E I hf st hg;subst hP hw hK;obtain⟨⟨xs,hq,hxl⟩,hi⟩:=hg;obtain⟨its,rv,p,hz⟩:=I.tuple hq;have bG:=rv.length;have hxi:n-1-i<xs.length:=by lia
  obtain⟨u,hu,ru⟩:=rv.get (show xs[n-1-i]?=some xs[n-1-i]by simp[hxi]);obtain⟨f0,f1,f2,f3,f4,f5⟩:=hf it (by simp);have ei:(n:Int)-1-(i:Int)=((n-1-i:Nat):Int):=by lia
  have st2:=st.2;rw[ei]at st2;have hsz:its.toArray.size<2 ^ 62:=by have:=wQ;simp;lia
  refine fK st2 p (x:=u) (by simpa using hu) hsz fun h' kk st' sb=>?_;have I1:Inv X ag σ H { s with heap:=h',toks:=kk }:=I.turned (t':=kk) (fun b o hb e=>(sb.2 b hb).trans e) f0 f1 f3 f4 f5;obtain⟨o,e,c,d⟩:=id st';have e2:((n-1-i:Nat):Int)-1=(n:Int)-1-((i+1:Nat):Int):=by lia
  rw[e2]at st';exact⟨u,rfl,lH (s:={ s with heap:=h',toks:=kk }) e c d (by decide) ⟨xs[n-1-i],H,I1,ru,⟨rfl,fun ys hy=>by rw[I.tuple_inj hy hq];simp[hxi]⟩,⟨hi,st'⟩,fun b hb=>(hf b hb).1⟩⟩
 done:=by
  intro X hP hw hK hc i ag s σ H E I hf st hg;subst hP hw hK;obtain⟨f0,f1,f2,f3,f4,f5⟩:=hf it (by simp);have e:i=n:=Nat.le_antisymm st.1 hg;subst e;have st2:=st.2;rw[show(i:Int)-1-(i:Int)=-1 by lia]at st2;exact gr (I.ok.hd hc) st2 fun h' eb=>⟨rfl,I.turned (t':=s.toks) (fun b o hb e=>eb b o hb e) f0 f1 f3 f4 f5⟩
 self:=fun _ _ _ _ _ st h=>ff st.2 h
section
variable{X:Cx}{a b c e:J5}{es:List J5}{te ta tb:TEd}{t:TAd}{pos:Pos}{tg iter:J5}
def AS(ta:TAd):TId:=fun Δ M R=>ta Δ M fun ds M1=>∃es,ds=[.tup es]/\(es.length<=F2->R es.reverse M1)
theorem ni:Q9 "reversed"=some (.type "reversed"):=by kernel_rfl
end
section
variable{X:Cx}
def neF(x y:D):Option D:=if dLe x 60=true/\dLe y 60=true then some (.bl (!(eqD x y)))else none
theorem gu(hu:X.A.units+64<Z9):bM X (L6 .NotEq) neF:=by
 intro ag s σ H M x y v u dx dy dz Q I hr rx ry r1 r2 e k;unfold neF at e
 by_cases hc:dLe dx 60=true/\dLe dy 60=true
 ·rw[if_pos hc]at e;cases e;exact(rX I 60 (A:=X.A) (by lia) hc.1 hc.2 r1 r2 rx ry).2.2 X.prog X.w X.xe _ ⟨.bl (!(eqD dx dy)),H,I,rfl,k _ H (Ext.refl _ _) hr (by simp[Rep])⟩
 ·rw[if_neg hc]at e;cases e
theorem pz{a b:Int}:neF (.int a) (.int b)=some (.bl (!(a==b))):=by simp[neF,dLe,eqD]
theorem yi{a b:Str}:neF (.str a) (.str b)=some (.bl (!(a==b))):=by simp[neF,dLe,eqD]
theorem BW{a b:Bool}:neF (.bl a) (.bl b)=some (.bl (!(a==b))):=by simp[neF,dLe,eqD]
end
end L2
namespace HT
open PySem PyProof.Rows
section
variable{prog:L5}{w:P6}{A:N3}{E:u8->F1->Prop}{s:F1}
theorem ng{t:F9}{items:Array u8}{Q:Bool->F1->Prop}(ht:ab8 s.heap t items) (h:Q true s):J4 (K3 prog w) A (J3.Tuple.tupleIsExact (.ref t)) Q E s:=by
 unfold J3.Tuple.tupleIsExact;exact s0 (aa3 ht.typeIs (F4 (by simpa using h)))
theorem getItem_tuple_whole{t sl:F9}{items:Array u8}{vl vu:u8}{lo hi:Option Int}{Q:u8->F1->Prop}(ht:ab8 s.heap t items) (hs:s.heap.IsSliceOf sl vl vu .none) (pl:ac0 vl lo) (pu:ac0 vu hi)
  (hw:sIx items.size 0 lo=0/\sIx items.size items.size hi=items.size) (h:Q (.ref t) s):J4 (K3 prog w) A (X1 (.ref t) (.ref sl)) Q E s:=by
 obtain⟨os,hos,hcs,hds⟩:=id hs;have hTs:s.TypeIs (.ref sl) "slice":=⟨os,hos,hcs⟩;unfold X1
 try with_reducible refine S3 ?_
 first|refine s0 (F4 ?_)|skip
 refine s0 (wpAny_sequenceKey ht.typeIs (by decide) ?_);refine s0 (N6 (name:=U4 "__getitem__") ht.typeIs J7
  (P3 J7 ht.typeIs entry_tuple_getitem ?_ (args_tuple_getitem _ _)))
 show J4 _ _ (Q6 (.ref t) >>= _) _ _ s;refine s0 (Z6 ht ?_);refine s0 (aa3 hTs ?_);rw[if_pos (by decide)];refine s0 (fG hs pl pu ?_);show J4 _ _ (if(((sIx items.size 0 lo:Nat):Int)==0&&(1:Int)==1&&(sIx items.size items.size hi-sIx items.size 0 lo)==items.size)=true then _ else _) _ _ s;rw[if_pos (by rw[hw.1,hw.2];simp)];refine s0 (ng ht ?_);rw[if_pos rfl];refine s0 (wpAny_rule ?_)
 first
  |exact F4 ⟨_,rfl,F4 h⟩
  |exact s0 (F4 (F4 ⟨_,rfl,F4 h⟩))
theorem jU{sl:F9}{tk:Tok}{n:Nat}{Q:Int×Int×Nat->F1->Prop}(hs:s.heap.IsSliceOf sl .none .none (.int (-1) tk))
  (h:Q ((n:Int)-1,-1,n) s):J4 (K3 prog w) A (Q5 (.ref sl) (V2 (n:Int))) Q E s:=by
 obtain⟨os,hos,hcs,hds⟩:=id hs;unfold Q5 J3.Slice.sliceFields;refine s0 (s0 (O4 hos hds (x:=.none) rfl (s0 (O4 hos hds (x:=.none) rfl (s0 (O4 hos hds (x:=.int (-1) tk) rfl (F4 ?_)))))));refine s0 (slicePart_int ?_);show J4 _ _ (if((-1:Int)==0)=true then _ else _) _ _ s;rw[if_neg (by decide)];refine s0 (Z0 (s0 (Z0 (s0 (F4 ?_)))));show J4 _ _ (V2 ((n:Int)-1,(-1:Int),N0 ((n:Int)-1) (-1) (-1))) _ _ s;have e:N0 ((n:Int)-1) (-1) (-1)=n:=by
  unfold N0;simp only[show ¬ ((-1:Int) > 0)by omega,if_false]
  split<;>simp<;>omega
 rw[e];exact F4 h
theorem xl(xs:Array u8):((T7 xs.size).filterMap fun(m:Nat)=>xs[((xs.size:Int)-1+(m:Int)*-1).toNat]?)=xs.toList.reverse:=by
 have:∀k,k<=xs.size->((T7 k).filterMap fun(m:Nat)=>xs[((xs.size:Int)-1+(m:Int)*-1).toNat]?)=xs.toList.reverse.take k:=by
  intro k
  induction k with
  |zero=>intro _;simp
  |succ k ih =>
   intro hk;rw[List.range_succ,List.filterMap_append,ih (by omega)];have e1:((xs.size:Int)-1+(k:Int)*-1).toNat=xs.size-1-k:=by omega
   have e2:xs[xs.size-1-k]?=some xs[xs.size-1-k]:=by simp[show xs.size-1-k<xs.size by omega]
   have e3:xs.toList.reverse[k]?=some xs[xs.size-1-k]:=by
    rw[List.getElem?_reverse (by simp;omega)];simpa using e2
   rw[List.take_add_one,e3];have e4:(List.filterMap (fun(m:Nat)=>xs[((xs.size:Int)-1+(m:Int)*-1).toNat]?) [k])=[xs[xs.size-1-k]]:=by
    rw[P9,e1,e2];rfl
   rw[e4];rfl
 rw[this xs.size (F6 _)];exact List.take_of_length_le (by simp)
theorem getItem_tuple_rev{t sl:F9}{items:Array u8}{tk:Tok}{Q:u8->F1->Prop}(ht:ab8 s.heap t items) (hs:s.heap.IsSliceOf sl .none .none (.int (-1) tk))
  (h:Q (.ref s.heap.objs.size) { s with heap:=s.heap.push { cls:=.type "tuple",data:=.seq items.toList.reverse.toArray } }) (hsz:items.size<=F2):J4 (K3 prog w) A (X1 (.ref t) (.ref sl)) Q E s:=by
 have htake:sizeOk (.seq items.toList.reverse.toArray):=by
  show items.toList.reverse.toArray.size<=F2;simpa using hsz
 obtain⟨os,hos,hcs,hds⟩:=id hs;have hTs:s.TypeIs (.ref sl) "slice":=⟨os,hos,hcs⟩;unfold X1
 try with_reducible refine S3 ?_
 first|refine s0 (F4 ?_)|skip
 refine s0 (wpAny_sequenceKey ht.typeIs (by decide) ?_);refine s0 (N6 (name:=U4 "__getitem__") ht.typeIs J7
  (P3 J7 ht.typeIs entry_tuple_getitem ?_ (args_tuple_getitem _ _)))
 show J4 _ _ (Q6 (.ref t) >>= _) _ _ s;refine s0 (Z6 ht ?_);refine s0 (aa3 hTs ?_);rw[if_pos (by decide)];refine s0 (jU hs ?_);show J4 _ _ (if((((items.size:Int)-1)==0&&(-1:Int)==1&&items.size==items.size)=true)then _ else _) _ _ s;rw[if_neg (by simp),xl]
 first
  |exact s0 (m:=K2 _) (K0 (F4 ⟨_,rfl,F4 h⟩) htake)
  |exact s0 (m:=K2 _) (K0 (s0 (F4 (F4 ⟨_,rfl,F4 h⟩))) htake)
  |exact s0 (s0 (m:=K2 _) (K0 (F4 (F4 ⟨_,rfl,F4 h⟩)) htake))
  |exact s0 (s0 (m:=K2 _) (K0 (F4 ⟨_,rfl,F4 h⟩) htake))
end
end HT
namespace L2
open PySem PySem.Spec PyProof.Rows
section
variable{X:Cx}{a b c e:J5}{es:List J5}{te ta tb ts:TEd}{t:TAd}{pos:Pos}
def slE:D->Option Int->Option Int->Option D
 |.tup ds,lo,hi=>some (.tup (c8 ds lo hi))
 |d,lo,hi=>slD d lo hi
def E5(K:o0):V->Option Int->Option Int->Hp->VK->Prop:=fun x lo hi H Q=>∃a xs,x=.ref a/\SqT K H a xs/\(HT.sIx xs.length 0 lo=0/\HT.sIx xs.length xs.length hi=xs.length)/\Q (.ref a) H
theorem ye:SlR X (E5 X.K):=by
 intro ag s σ H x v vl vu lo hi sl Q I rx hs pl pu h;obtain⟨a,xs,rfl,hx,hw,q⟩:=h;cases rx;obtain⟨its,r,ht,hz⟩:=I.tuple hx;have bG:its.toArray.size=xs.length:=by rw[F3];exact r.length.symm
 exact⟨"tuple",_,J7.lookup,ht.typeIs,HT.getItem_tuple_whole ht hs pl pu (by rw[bG];exact hw) ⟨.ref a,H,I,rfl,q⟩⟩
theorem rn{ds:List D}{lo hi:Option Int}(h:HT.sIx ds.length 0 lo=0/\HT.sIx ds.length ds.length hi=ds.length):c8 ds lo hi=ds:=by
 unfold c8;rw[h.1,h.2];simp
def Eb(te:TEd) (tl th:TOd):TEd:=fun Δ M Q=>te Δ M fun x M1=>tl Δ M1 fun l M2=>th Δ M2 fun u M3=>∃z,slE (rdM M3 x) l u=some z/\Q z M3
theorem DP{ds:List D}{lo hi:Option Int}:slE (.tup ds) lo hi=some (.tup (c8 ds lo hi)):=rfl
theorem ua{ds:List D}{lo hi:Option Int}:slE (.lst ds) lo hi=some (.lst (c8 ds lo hi)):=rfl
theorem Ed{ds:List D}{lo hi:Option Int}:slE (.scr ds) lo hi=some (.lst (c8 ds lo hi)):=rfl
theorem EH{x:Str}{lo hi:Option Int}:slE (.str x) lo hi=if x.length<=F2 then some (.str (aa4 x lo hi))else none:=rfl
theorem ar.reverse{K:o0}{M:DH}{H:Hp}:∀{ds:List D}{vs:List V},ar K M H ds vs->ar K M H ds.reverse vs.reverse
 |[],_,h=>by simp only[ar]at h;subst h;exact ar.nil
 |d::ds,_,h=>by
  simp only[ar]at h;obtain⟨v,ws,rfl,h1,h2⟩:=h;rw[V4,V4];exact(ar.reverse h2).append (ar.cons h1 ar.nil)
def yy(te ts:TEd):TEd:=fun Δ M Q=>te Δ M fun x M1=>ts Δ M1 fun st M2=>st=.int (-1)/\∃ds,x=.tup ds/\Q (.tup ds.reverse) M2
variable{scope:R0}{cl:List (Str×F9)}{am:List Str}{tg:J5}
def zZ(X:Cx) (scope:R0) (cl:List (Str×F9)) (am:List Str) (tgs:List J5) (g:GDs):Prop:=∃gv:TGs,(∀C s H ex,PGs (aK X scope cl (X.N++am) C s H ex) tgs gv)/\∀(ds:List D) (vs:List V) (σ:St) (Δ Δ':DE) (M:DH) (H:Hp) (Q:St->Hp->Prop),SR X.K M H σ Δ->HR X.K M H->ar X.K M H ds vs->g ds Δ=some Δ'->(∀ σ',SR X.K M H σ' Δ'->Q σ' H)->gv vs σ H Q
theorem cF:zZ X scope cl am [] lM:=⟨Cn,fun _ _ _ _=>pj,fun ds vs σ Δ Δ' M H Q sr hr rv e k=>by
 cases ds with
 |nil=>simp only[ar]at rv;subst rv;cases e;exact⟨rfl,k _ sr⟩
 |cons _ _=>cases e⟩
theorem aT{tgs:List J5}{g:GD}{gs:GDs}(h1:PGa X scope cl am tg g) (h2:zZ X scope cl am tgs gs)
  (hs:∀env,(M9 (tg::tgs) env).map (·.2)=U0 tg env::(M9 tgs env).map (·.2):=by intro _;rfl):zZ X scope cl am (tg::tgs) (fm g gs):=by
 obtain⟨g1,p1,k1⟩:=h1;obtain⟨g2,p2,k2⟩:=h2;refine⟨xx g1 g2,fun C s H ex=>iS (p1 C s H ex) (p2 C s H ex) (hs _),fun ds vs σ Δ Δ' M H Q sr hr rv e k=>?_⟩;cases ds with
 |nil=>cases e
 |cons d r =>
  simp only[ar]at rv;obtain⟨v,ws,rfl,h3,h4⟩:=rv;simp only[fm]at e;cases q:g d Δ with
  |none=>rw[q]at e;cases e
  |some Δ1 =>
   rw[q]at e;exact⟨v,ws,rfl,k1 d v σ Δ Δ1 M H _ sr hr h3 q fun σ1 sr1=>k2 r ws σ1 Δ1 Δ' M H Q sr1 hr h4 e k⟩
theorem cH{tgs:List J5}{kx:Nat}{g:GDs}{n:Nat}(hc:X.calm=true) (h:zZ X scope cl am tgs g) (hn:∀env,(M9 tgs env).length=n:=by intro _;rfl) (hst:∀env,(M9 tgs env).findIdx? (·.1)=none:=by intro _;rfl):PGa X scope cl am (.Tuple tgs kx pos) (jh g n):=by
 obtain⟨g1,p1,k1⟩:=h;refine⟨B8 X.K n g1,fun C s H ex=>sd (X:=aK X scope cl (X.N++am) C s H ex) hc (p1 C s H ex) (hn _) (hst _),fun d v σ Δ Δ' M H Q sr hr rv e k=>?_⟩;cases d with
 |tup ds =>
  simp only[jh]at e
  by_cases hl:ds.length=n
  ·rw[if_pos hl]at e;simp only[Rep]at rv;obtain⟨a,vs,rfl,ta,rl⟩:=rv;exact⟨a,vs,rfl,ta.sq,by rw[<-rl.length];exact hl,k1 ds vs σ Δ Δ' M H Q sr hr rl e k⟩
  ·rw[if_neg hl]at e;cases e
 |_=>cases e
end
section
variable{X:Cx}{a b c e:J5}{es:List J5}{te ta tb ts:TEd}{t:TAd}{pos:Pos}
def inE(neg:Bool) (x y:D):Option D:=match y with
 |.str j=>match x with
  |.str i=>some (.bl (xor neg (!(S4 j i 0 j.length 1).isEmpty)))
  |_=>none
 |y=>inD neg x y
theorem my:bM X (L6 .In) (inE false):=by
 intro ag s σ H M x y v u dx dy dz Q I hr rx ry r1 r2 e k;cases dy with
 |str j =>
  cases dx with
  |str i =>
   cases e;exact u7 ag s σ H x y v u Q I rx ry ⟨i,j,nj r1,nj r2,k _ H (Ext.refl _ _) hr (by simp[Rep])⟩
  |_=>cases e
 |_=>exact FF ag s σ H M x y v u dx _ dz Q I hr rx ry r1 r2 e k
theorem rg:bM X (L6 .NotIn) (inE true):=by
 intro ag s σ H M x y v u dx dy dz Q I hr rx ry r1 r2 e k;cases dy with
 |str j =>
  cases dx with
  |str i =>
   cases e;exact oF ag s σ H x y v u Q I rx ry ⟨i,j,nj r1,nj r2,k _ H (Ext.refl _ _) hr (by simp[Rep])⟩
  |_=>cases e
 |_=>exact yK ag s σ H M x y v u dx _ dz Q I hr rx ry r1 r2 e k
theorem Dv{b:Bool}{x:D}{ds:List D}:inE b x (.lst ds)=if bv x=true/\ds.all bv=true then some (.bl (xor b (ds.any fun d=>eqD d x)))else none:=rfl
theorem DM{b:Bool}{x:D}{ds:List D}:inE b x (.tup ds)=if bv x=true/\ds.all bv=true then some (.bl (xor b (ds.any fun d=>eqD d x)))else none:=rfl
theorem D7{b:Bool}{c:Nat}{y:Str}:inE b (.str (tx [c])) (.str y)=some (.bl (xor b (decide (c∈y.cps.toList)))):=by
 show some (D.bl (xor b (!(S4 y ⟨#[c]⟩ 0 y.length 1).isEmpty)))=_;rw[StrLaws.found_one]
theorem jL:fillsNumberSlot (.type "tuple") "mul"=V2 false :=
 PySem.fillsNumberSlot_seq (id:="tuple.__mul__") (r:=some (.builtin "tuple.__rmul__")) F.slot_tuple_mul.lookup (by decide +kernel) F.slot_tuple_rmul.lookup (by decide +kernel)
theorem oY:seqRepeat? (.type "tuple")=V2 (some (.builtin "tuple.__mul__")):=by
 unfold seqRepeat?;rw[PySem.seqSlot_of (T:="tuple") (name:="__mul__") (id:="tuple.__mul__") F.slot_tuple_mul.lookup (by decide +kernel),PySem.seqSlot_of (T:="tuple") (name:="__rmul__") (id:="tuple.__rmul__") F.slot_tuple_rmul.lookup (by decide +kernel)];rfl
theorem lu(a:Int) (t:Tok) (l:F9) (items:Array u8) :
  Meets (J3.«int.__rmul__» ⟨[.int a t,.ref l],[]⟩) (fun _ R s=>ab8 s.heap l items/\R (.ok (.ret u8.notImplemented)) s) :=
 .of_wp fun prog w A R s h=>by
  obtain⟨hp,g,d,tk,os⟩:=s;obtain⟨⟨⟨cls,dd,data,sl⟩,ho,hc,n,hd⟩,h⟩:=h;simp only at hc hd;subst hc hd
  wp_walk;exact⟨_,rfl,h⟩
theorem m8(l:F9) (items:Array u8) (x:Int) (u:Tok) (hne:items.isEmpty=false) (hx:2<=x) (hx2:x<2 ^ 62) (hz:items.size*x.toNat<=F2) :
  Meets (J3.«tuple.__mul__» ⟨[.ref l,.int x u],[]⟩) (fun _ R s=>ab8 s.heap l items/\R (.ok (.ret (.ref s.heap.objs.size))) { s with heap:=s.heap.push { cls:=.type "tuple",data:=.seq (J0 x.toNat items.toList).flatten.toArray } }) :=
 .of_wp fun prog w A R s h=>by
  obtain⟨ht,h⟩:=h;show J4 _ _ (do
   let n <-asIndex (.int x u)
   if n < -(2 ^ 63) || n>=2 ^ 63 then
    rule "tuple.repeat.overflow";raiseError "OverflowError" s!"cannot fit '{← typeNameOf (.int x u)}' into an index-sized integer"
   let xs <-Q6 (.ref l)
   if xs.isEmpty || n==1 then
    if <-J3.Tuple.tupleIsExact (.ref l)then rule "tuple.repeat.same-object";return <-ret (.ref l)
   if n<=0 || xs.isEmpty then return <-ret (<-K2 #[])
   if xs.size*n > (2 ^ 63-1) / 8 then rule "tuple.repeat.no-memory";raiseNew (<-newExc (.type "MemoryError") [])
   if J3.Tuple.tupleTooMany (xs.size*n)then unsupported "tuple.__mul__:memory"
   ret (<-K2 ((J0 n.toNat xs).foldl (·++·) #[]))) _ _ s
  refine s0 (T5 (a:=x) rfl ?_);dsimp only;rw[if_neg (by simp only[Bool.or_eq_true,decide_eq_true_eq];lia)];refine s0 (Z6 ht ?_);rw[if_neg (by simp[hne];lia)];rw[if_neg (by simp[hne];lia)];have hxn:((x.toNat:Nat):Int)=x:=by lia
  have hm:(items.size:Int)*x=((items.size*x.toNat:Nat):Int):=by rw[Int.natCast_mul,hxn]
  have h16:F2=16777216:=rfl;rw[if_neg (by rw[hm];lia)];rw[if_neg (by unfold J3.Tuple.tupleTooMany;rw[hm];simp only[decide_eq_true_eq];lia)];have hf:ac4 (fun x1 x2=>x1++x2) #[] (J0 x.toNat items)=(J0 x.toNat items.toList).flatten.toArray:=by
   have:=jM items.toList x.toNat [];rw[List.nil_append]at this;simpa using this
  rw[hf];have hs:sizeOk (.seq (J0 x.toNat items.toList).flatten.toArray):=by
   show(J0 x.toNat items.toList).flatten.toArray.size<=F2;rw[F3,pI,U2,Nat.mul_comm];exact hz
  exact s0 (m:=K2 _) (K0 (F4 ⟨_,rfl,h⟩) hs)
theorem ar.rep{K:o0}{M:DH}{H:Hp}{ds:List D}{vs:List V}(h:ar K M H ds vs):∀k:Nat,ar K M H (J0 k ds).flatten (J0 k vs).flatten
 |0=>ar.nil
 |k+1=>by
  rw[O8,O8,R9,R9];exact h.append (ar.rep h k)
def v9:D->D->Option D
 |.int a,.int b=>if jO a b then some (.int (a*b))else none
 |.str x,.int n=>if x.length<=16777216/\-(2 ^ 63)<=n/\n<=16777216/\x.length*n.toNat<=16777216 then some (.str (Txt.mul x n))else none
 |.tup ds,.int n=>if 2<=n/\n<2 ^ 62/\ds≠[]/\ds.length*n.toNat<=F2 then some (.tup (J0 n.toNat ds).flatten)else none
 |.lst ds,.int n=>if -(2 ^ 63)<=n/\n<2 ^ 63/\ds.length*n.toNat<=F2 then some (.lst (J0 n.toNat ds).flatten)else none
 |_,_=>none
theorem xq:bM X (P2 .Mult) v9:=by
 intro ag s σ H M x y v u dx dy dz Q I hr rx ry r1 r2 e k;cases dx with
 |int a =>
  cases dy with
  |int b=>exact CF ag s σ H M x y v u _ _ dz Q I hr rx ry r1 r2 e k
  |_=>cases e
 |str z =>
  cases dy with
  |int n =>
   simp only[v9]at e
   by_cases hc:z.length<=16777216/\-(2 ^ 63)<=n/\n<=16777216/\z.length*n.toNat<=16777216
   ·rw[if_pos hc]at e;cases e;have e1:=nj r1;have e2:=fC r2;subst e1;subst e2;obtain⟨t1,rfl⟩:=rx;obtain⟨t2,rfl⟩:=ry;have hok:MulOk z n:=by
     by_cases hn:0<=n
     ·exact mulOk_of z.length n.toNat (F6 _) (by lia) hc.2.1 (by lia) hc.2.2.2
     ·exact mulOk_of z.length 0 (F6 _) (by lia) hc.2.1 (by lia) (by lia)
    exact SB.mul hok fun t' kk=>⟨.str _,H,I.tok _,⟨t',rfl⟩,k _ H (Ext.refl _ _) hr (by simp[Rep])⟩
   ·rw[if_neg hc]at e;cases e
  |_=>cases e
 |tup ds =>
  cases dy with
  |int n =>
   simp only[v9]at e
   by_cases hc:2<=n/\n<2 ^ 62/\ds≠[]/\ds.length*n.toNat<=F2
   ·rw[if_pos hc]at e;cases e;have e2:=fC r2;subst e2;obtain⟨t2,rfl⟩:=ry;obtain⟨a,vs,rfl,sq,rl⟩:=r1;cases rx;obtain⟨its,rv,pt,hz⟩:=I.tuple sq;have hl1:=rv.length;have hl2:=rl.length;have hne:its.toArray.isEmpty=false:=by
     cases its with
     |nil =>
      have h0:ds.length=0:=by rw[hl2,hl1];rfl
      exact absurd (List.length_eq_zero_iff.mp h0) hc.2.2.1
     |cons _ _=>rfl
    have hzz:its.toArray.size*n.toNat<=F2:=by rw[F3,<-hl1,<-hl2];exact hc.2.2.2
    refine wpAny_binaryOp_repeat_ref (T:="tuple") (U:="int") (by decide) pt.typeIs (fun s'=>aa7 s' n t2) jL F.fills_int_mul X3 oY F.slot_int_index.lookup
     (W5 X3 (aa7 s n t2) F.entry_int_rmul (F.args_int_rmul_2 _ _) (lu n t2 a its.toArray)
      ⟨pt,rfl,pt.typeIs,W5 F.slot_tuple_mul pt.typeIs F.entry_tuple_mul (F.args_tuple_mul_2 _ _) (m8 a its.toArray n t2 hne hc.1 hc.2.1 hzz) ⟨pt,?_⟩⟩)
    have rr:aB (J0 n.toNat vs).flatten (J0 n.toNat its).flatten:=rv.rep n.toNat;refine⟨.ref s.heap.objs.size,_,I.laid (t':=s.toks) (o:=.tup (J0 n.toNat vs).flatten) (fun b ob q=>F0 _ q) (F6 _) ?_,rfl,?_⟩
    ·refine⟨?_,_,rr,by simpa using ko.new _ _⟩;rw[pI,Nat.mul_comm,<-hl2];exact hc.2.2.2
    ·exact jJ hr (I.hok.fresh (F6 _)) (rl.rep n.toNat) k
   ·rw[if_neg hc]at e;cases e
  |_=>cases e
 |lst ds =>
  cases dy with
  |int n =>
   simp only[v9]at e
   by_cases hc:-(2 ^ 63)<=n/\n<2 ^ 63/\ds.length*n.toNat<=F2
   ·rw[if_pos hc]at e;cases e;obtain⟨a,vs,rfl,sq,rl⟩:=r1;exact BM ag s σ H _ _ v u Q I rx ry ⟨a,n,vs,rfl,fC r2,sq,hc.1,hc.2.1,by rw[<-rl.length];exact hc.2.2,fun p hp=>fu hr hp (rl.rep n.toNat) k⟩
   ·rw[if_neg hc]at e;cases e
  |_=>cases e
 |_=>cases e
theorem zy{a b:Int}:v9 (.int a) (.int b)=if jO a b then some (.int (a*b))else none:=rfl
def lQ:D->Bool
 |.non=>true
 |_=>false
def ud(neg:Bool) (x y:D):Option D:=match y with|.non=>some (.bl (xor neg (lQ x)))|_=>none
theorem Aa{K:o0}{M:DH}{H:Hp}{d:D}{x:V}(r:aX K M H d x):decide (x=V.non)=lQ d:=by
 cases d with
 |tup ds=>obtain⟨a,vs,rfl,_⟩:=r;rfl
 |lst ds=>obtain⟨a,vs,rfl,_⟩:=r;rfl
 |scr ds=>obtain⟨a,vs,rfl,_⟩:=r;rfl
 |emp=>simp only[aX,Rep]at r;obtain⟨a,rfl,_⟩:=r;rfl
 |box _ _=>simp only[aX,Rep]at r;obtain⟨a,_,rfl,_⟩:=r;rfl
 |_=>simp only[aX,Rep]at r;subst r;rfl
theorem Fl:bM X (L6 .Is) (ud false):=by
 intro ag s σ H M x y v u dx dy dz Q I hr rx ry r1 r2 e k;cases dy with
 |non =>
  cases e;refine BO ag s σ H x y v u Q I rx ry ⟨Fb r2,?_⟩;rw[Aa r1];exact k _ H (Ext.refl _ _) hr (by simp[Rep])
 |_=>cases e
theorem vQ{b:Bool}{x:D}:ud b x .non=some (.bl (xor b (lQ x))):=rfl
def BF(ms:List Bool) (k:Nat) (wi:TId) (g:GD) (tc:TTd) (te:TEd):TEd:=fun Δ M Q=>wi Δ M fun ds M1=>ds.length<=F2/\cJ g tc te ds (mH ms k Δ) M1 [] fun ys M2=>∀p,M2 p=none->Q (.ref p) (aw M2 p (.lst ys))
theorem xo{K:o0}{wi:TId}{g:GD}{tc:TTd}{te:TEd}{gv:TG}{ms:List Bool}{kk:Nat}(kg:tN K g gv) :
  ∀ σ H Q,up K (BF ms kk wi g tc te) σ H Q->tLc ms kk (upI K wi) gv (upT K tc) (up K te) σ H Q:=by
 rintro σ H Q ⟨Δ,M,R,sr,hr,q,k⟩;refine⟨Δ,M,_,sr,hr,q,fun ds M1 J H1 ⟨hz,q1⟩ e1 hr1 it=>?_⟩;obtain⟨W,Z,hW,hC,hZ⟩:=uK kg it hr1 hz ((sr.ext e1).comp ms kk) q1;refine⟨W,Z,hW,hC,fun ys σ' H' p z hp=>?_⟩;obtain⟨M',acc,e',hr',ra,q'⟩:=hZ _ _ _ z;exact k _ _ _ _ (q' p (hr'.fresh hp)) ((e1.trans e').trans (Ext.own hp)) (hr'.own hp ra) (by simp only[Rep])
variable{scope:R0}{cl:List (Str×F9)}{ms:List Bool}{am:List Str}{ifs:List J5}{tg iter elt:J5}
end
@[irreducible] def QEd(X:Cx) (e:J5) (t:TEd):Prop:=PEd X e t
theorem QEd.eq{X:Cx}{e:J5}{t:TEd}:QEd X e t=(PEd X e t):=by unfold QEd;rfl
@[irreducible] def QAd(X:Cx) (e:List J5) (t:TAd):Prop:=PAd X e t
theorem QAd.eq{X:Cx}{e:List J5}{t:TAd}:QAd X e t=(PAd X e t):=by unfold QAd;rfl
@[irreducible] def QTd(X:Cx) (e:J5) (t:TTd):Prop:=PTd X e t
theorem QTd.eq{X:Cx}{e:J5}{t:TTd}:QTd X e t=(PTd X e t):=by unfold QTd;rfl
@[irreducible] def QWd(X:Cx) (e:J5) (t:TTd):Prop:=PWd X e t
theorem QWd.eq{X:Cx}{e:J5}{t:TTd}:QWd X e t=(PWd X e t):=by unfold QWd;rfl
@[irreducible] def QSd(X:Cx) (e:aa2) (t:TSd):Prop:=PSd X e t
theorem QSd.eq{X:Cx}{e:aa2}{t:TSd}:QSd X e t=(PSd X e t):=by unfold QSd;rfl
@[irreducible] def QSs(X:Cx) (e:List aa2) (t:TSd):Prop:=xC X e t
theorem QSs.eq{X:Cx}{e:List aa2}{t:TSd}:QSs X e t=(xC X e t):=by unfold QSs;rfl
@[irreducible] def QId(X:Cx) (tg e:J5) (t:TId):Prop:=PId X tg e t
theorem QId.eq{X:Cx}{tg e:J5}{t:TId}:QId X tg e t=(PId X tg e t):=by unfold QId;rfl
@[irreducible] def QIf(X:Cx) (e:List J5) (t:TTd):Prop:=Bn X e t
theorem QIf.eq{X:Cx}{e:List J5}{t:TTd}:QIf X e t=(Bn X e t):=by unfold QIf;rfl
@[irreducible] def QOd(X:Cx) (e:Option J5) (t:TOd):Prop:=POd X e t
theorem QOd.eq{X:Cx}{e:Option J5}{t:TOd}:QOd X e t=(POd X e t):=by unfold QOd;rfl
theorem af{X:Cx}(i:Nat) {x:Str}{pos:Pos}(hN:X.N[i]?=some x:=by rfl) (hv:Vis X.env.scope x:=by first|exact Or.inl rfl|exact Or.inr (Or.inl rfl)|exact Or.inr (Or.inr rfl)) (hd:(x==("__debug__":Str))=false:=by decide)
  (hcd:(x==("__classdict__":Str))=false:=by decide):QEd X (.Name x pos) (eJ i):=by
 simp only[QEd.eq]at *
 exact(C9 hN hv hd hcd).conv fun σ H Q ⟨Δ,M,R,sr,hr,⟨d,e,q⟩,k⟩=>let⟨v,ev,rv⟩:=sr.2 i d e;⟨v,ev,k d M v H q (Ext.refl _ _) hr rv⟩
theorem ak{X:Cx}{i j pos}:QEd X (.Constant (.int i) j pos) (dC (.int i)):=by
 simp only[QEd.eq]at *
 exact CU.conv fun σ H Q hup=>hup.el fun Δ M R sr hr q k=>k _ M _ H q (Ext.refl _ _) hr (by simp[Rep])
theorem gw{X:Cx}{i j pos}:QEd X (.Constant (.bool i) j pos) (dC (.bl i)):=by
 simp only[QEd.eq]at *
 exact DS.conv fun σ H Q hup=>hup.el fun Δ M R sr hr q k=>k _ M _ H q (Ext.refl _ _) hr (by simp[Rep])
theorem aW{X:Cx}{i j pos}:QEd X (.Constant (.str i) j pos) (dC (.str i)):=by
 simp only[QEd.eq]at *
 exact Ci.conv fun σ H Q hup=>hup.el fun Δ M R sr hr q k=>k _ M _ H q (Ext.refl _ _) hr (by simp[Rep])
theorem xM{X:Cx}{j pos}:QEd X (.Constant .none j pos) (dC .non):=by
 simp only[QEd.eq]at *
 exact Cj.conv fun σ H Q hup=>hup.el fun Δ M R sr hr q k=>k _ M _ H q (Ext.refl _ _) hr (by simp[Rep])
theorem ah{X:Cx}:QAd X [] rC:=by
 simp only[QAd.eq]at *
 exact mr.conv fun σ H Q hup=>hup.el fun Δ M R sr hr q k=>k _ M _ H q (Ext.refl _ _) hr ar.nil
theorem ae{X:Cx}{a:J5}{es:List J5}{ta:TEd}{tr:TAd}(ha:QEd X a ta) (hr:QAd X es tr) (hs:J1 (a::es) X.env=(false,T8 a X.env)::J1 es X.env:=by rfl):QAd X (a::es) (fj ta tr):=by
 simp only[QEd.eq,QAd.eq]at *
 exact(h8 ha hr hs).conv fun σ H Q hup=>hup.el fun Δ M R sr hr q k=>⟨Δ,M,_,sr,hr,q,fun d M1 v H1 q1 e1 hr1 rv=>⟨Δ,M1,_,sr.ext e1,hr1,q1,fun ds M2 vs H2 q2 e2 hr2 rvs =>
   k _ M2 _ H2 q2 (e1.trans e2) hr2 (ar.cons (rv.ext e2) rvs)⟩⟩
theorem aU{X:Cx}{es:List J5}{pos:Pos}{x1}{t:TAd}(h:QAd X es t):QEd X (.Tuple es x1 pos) (zf t):=by
 simp only[QEd.eq,QAd.eq]at *
 exact(lz h).conv fun σ H Q hup=>hup.el fun Δ M R sr hr q k=>⟨Δ,M,_,sr,hr,q,fun ds M1 vs H1 ⟨z,q1⟩ e1 hr1 rv=>⟨by rw[<-rv.length];exact z,fun p hp=>k _ M1 _ _ q1 (e1.trans (Ext.new hr1 hp)) (hr1.new hp) (by
   simp only[Rep];exact⟨p,vs,rfl,.inl ⟨.inl aG,hr1.fresh hp⟩,rv.ext (Ext.new hr1 hp)⟩)⟩⟩
theorem iu{X:Cx}{es:List J5}{pos:Pos}{t:TAd}(h:QAd X es t):QEd X (.List es pos) (DD t):=by
 simp only[QEd.eq,QAd.eq]at *
 exact(wg h).conv fun σ H Q hup=>hup.el fun Δ M R sr hr q k=>⟨Δ,M,_,sr,hr,q,fun ds M1 vs H1 ⟨z,q1⟩ e1 hr1 rv=>⟨by rw[<-rv.length];exact z,fun p hp=>k _ M1 _ _ q1 (e1.trans (Ext.new hr1 hp)) (hr1.new hp) (by
   simp only[Rep];exact⟨p,vs,rfl,⟨aG,hr1.fresh hp⟩,rv.ext (Ext.new hr1 hp)⟩)⟩⟩
theorem dM{X:Cx}{es:List J5}{pos:Pos}{t:TAd}(h:QAd X es t):QEd X (.List es pos) (AQ t):=by
 simp only[QEd.eq,QAd.eq]at *
 exact(wg h).conv fun σ H Q hup=>hup.el fun Δ M R sr hr q k=>⟨Δ,M,_,sr,hr,q,fun ds M1 vs H1 ⟨z,q1⟩ e1 hr1 rv=>⟨by rw[<-rv.length];exact z,fun p hp=>k _ _ _ _ (q1 p (hr1.fresh hp)) (e1.trans (Ext.own hp)) (hr1.own hp rv) (by
   simp only[Rep])⟩⟩
theorem aP{X:Cx}{a:J5}{b:J5}{ta:TEd}{tb:TEd}{pos:Pos}{op:ac7}{r:D->D->Option D}(ho:bM X (P2 op) r) (ha:QEd X a ta) (hb:QEd X b tb):QEd X (.BinOp a op b pos) (dOp r ta tb):=by
 simp only[QEd.eq]at *
 exact(AL ho.v ha hb).conv yh
theorem gh{X:Cx}{a:J5}{b:J5}{ta:TEd}{tb:TEd}{pos:Pos}{op:ac2}{r:D->D->Option D}(ho:bM X (L6 op) r) (ha:QEd X a ta) (hb:QEd X b tb) (hm:S2 op b=false):QEd X (.Compare a [op] [b] pos) (dOp r ta tb):=by
 simp only[QEd.eq]at *
 exact(yI ho.v ha hb hm).conv yh
theorem aH{X:Cx}{a:J5}{b:J5}{ta:TEd}{tb:TEd}{pos:Pos}{r:D->D->Option D}(ho:IxR X (opV X.K r)) (ha:QEd X a ta) (hb:QEd X b tb) (hs:uf b):QEd X (.Subscript a b pos) (dOp r ta tb):=by
 simp only[QEd.eq]at *
 exact(E4 ho ha hb hs).conv yh
theorem DF{X:Cx}{a:J5}{ta:TEd}{pos:Pos}{op:UnaryOp}{r:D->Option D}(ho:D2 X (unaryOp op) r) (ha:QEd X a ta):QEd X (.UnaryOp op a pos) (dUn r ta):=by
 simp only[QEd.eq]at *
 have h:UnR X (unaryOp op) (fun x H Q=>∃dx dz M,HR X.K M H/\aX X.K M H dx x/\r dx=some dz/\∀w H',Ext M H M H'->HR X.K M H'->Rep X.K M H' dz w->Q w H'):=fun ag s σ H x v Q I rx ⟨dx,dz,M,hr,r1,e,k⟩=>ho ag s σ H M x v dx dz Q I hr rx r1 e k;exact(Dw h ha).conv fun σ H Q hup=>hup.el fun Δ M R sr hr q k=>⟨Δ,M,_,sr,hr,q,fun x M1 v H1 ⟨z,ez,q1⟩ e1 hr1 rv=>⟨_,z,M1,hr1,rv.rd hr1,ez,fun w H' e2 hr2 rw_=>k z M1 w H' q1 (e1.trans e2) hr2 rw_⟩⟩
theorem aF{X:Cx}{a:J5}{b:J5}{ta:TEd}{tb:TEd}{pos:Pos}{op:ac2}{r:D->D->Option D}(ho:bM X (L6 op) r) (ha:QEd X a ta) (hb:QEd X b tb) (hm:S2 op b=false):QTd X (.Compare a [op] [b] pos) (lO (dOp r ta tb)):=by
 simp only[QEd.eq,QTd.eq]at *
 refine(zT ho.v ha hb hm).conv fun σ H Q h=>?_;obtain⟨Δ,M,R,sr,hr,q,k⟩:=h;exact⟨Δ,M,_,sr,hr,q,fun x M1 v H1 q1 e1 hr1 rv=>⟨Δ,M1,_,sr.ext e1,hr1,q1,fun y M2 u H2 ⟨z,ez,b,eb,q2⟩ e2 hr2 ru=>⟨_,_,z,M2,hr2,(rv.ext e2).rd hr2,ru.rd hr2,ez,fun w H' e3 hr3 rw_ =>
  ⟨b,by subst eb;simpa only[Rep]using rw_,k b M2 H' q2 ((e1.trans e2).trans e3) hr3⟩⟩⟩⟩
theorem bt{X:Cx}{a:J5}{ta:TEd}(h:QEd X a ta) (he:∀whole,isTrue a X.env whole=(do let v <-whole;standAt a.pos;ab2 [v] (truthy v)):=by intro _;rfl):QTd X a (lO ta):=by
 simp only[QEd.eq,QTd.eq]at *
 exact(Di h he).conv Ek
theorem cU{X:Cx}{a:J5}{pos:Pos}{tA:TTd}(h:QTd X a tA):QTd X (.UnaryOp .Not a pos) (A7 tA):=by
 simp only[QTd.eq]at *
 exact(BQ h).conv fun σ H Q hup=>hup.el fun Δ M R sr hr q k=>⟨Δ,M,_,sr,hr,q,fun b M1 H1 q1 e1 hr1=>k _ M1 H1 q1 e1 hr1⟩
theorem eV{X:Cx}{a:J5}{pos:Pos}{tA:TTd}(ha:QTd X a tA):QWd X (.BoolOp .And [a] pos) tA:=by
 simp only[QTd.eq,QWd.eq]at *
 exact Ao ha
theorem eF{X:Cx}{a:J5}{pos:Pos}{tA:TTd}(ha:QTd X a tA):QWd X (.BoolOp .Or [a] pos) tA:=by
 simp only[QTd.eq,QWd.eq]at *
 exact CK ha
theorem eK{X:Cx}{a:J5}{b:J5}{pos:Pos}{tA:TTd}{tB':TTd}{bZ:List J5}(ha:QTd X a tA) (hb:QWd X (.BoolOp .And (b::bZ) pos) tB'):QWd X (.BoolOp .And (a::b::bZ) pos) (wB tA tB'):=by
 simp only[QTd.eq,QWd.eq]at *
 exact(C5 ha hb).conv fun σ H Q hup=>hup.el fun Δ M R sr hr q k=>⟨Δ,M,_,sr,hr,q,fun c M1 H1 q1 e1 hr1=>by
   cases c with
   |true=>simp only[if_true]at q1 ⊢;exact⟨Δ,M1,R,sr.ext e1,hr1,q1,fun b M2 H2 q2 e2 hr2=>k b M2 H2 q2 (e1.trans e2) hr2⟩
   |false=>simp only[M7,if_false]at q1 ⊢;exact k _ M1 H1 q1 e1 hr1⟩
theorem fw{X:Cx}{a:J5}{b:J5}{pos:Pos}{tA:TTd}{tB':TTd}{bZ:List J5}(ha:QTd X a tA) (hb:QWd X (.BoolOp .Or (b::bZ) pos) tB'):QWd X (.BoolOp .Or (a::b::bZ) pos) (EM tA tB'):=by
 simp only[QTd.eq,QWd.eq]at *
 exact(DR ha hb).conv fun σ H Q hup=>hup.el fun Δ M R sr hr q k=>⟨Δ,M,_,sr,hr,q,fun c M1 H1 q1 e1 hr1=>by
   cases c with
   |false=>simp only[M7,if_false]at q1 ⊢;exact⟨Δ,M1,R,sr.ext e1,hr1,q1,fun b M2 H2 q2 e2 hr2=>k b M2 H2 q2 (e1.trans e2) hr2⟩
   |true=>simp only[if_true]at q1 ⊢;exact k _ M1 H1 q1 e1 hr1⟩
theorem oy{X:Cx}{a:J5}{ta:TEd}{pos:Pos}{op}(h:QEd X a ta):QEd X (.BoolOp op [a] pos) ta:=by
 simp only[QEd.eq]at *
 exact Cs h
theorem lW{X:Cx}{a:J5}{b:J5}{ta:TEd}{tb:TEd}{pos:Pos}{bZ:List J5}(ha:QEd X a ta) (hb:QEd X (.BoolOp .And (b::bZ) pos) tb):QEd X (.BoolOp .And (a::b::bZ) pos) (EA ta tb):=by
 simp only[QEd.eq]at *
 exact(Cd ha hb).conv fun σ H Q hup=>hup.el fun Δ M R sr hr q k=>⟨Δ,M,_,sr,hr,q,fun d M1 v H1 ⟨c,e,q1⟩ e1 hr1 rv=>⟨c,by subst e;simpa only[Rep]using rv,by
   cases c with
   |true=>simp only[if_true]at q1 ⊢;exact⟨Δ,M1,R,sr.ext e1,hr1,q1,fun b M2 v2 H2 q2 e2 hr2 r2=>k b M2 v2 H2 q2 (e1.trans e2) hr2 r2⟩
   |false=>simp only[M7,if_false]at q1 ⊢;exact k _ M1 _ H1 q1 e1 hr1 (by simp[Rep])⟩⟩
theorem Fk{X:Cx}{a:J5}{b:J5}{c:J5}{ta:TEd}{tb:TEd}{pos:Pos}{tA:TTd}(hc:QTd X c tA) (ha:QEd X a ta) (hb:QEd X b tb):QEd X (.IfExp c a b pos) (dIf tA ta tb):=by
 simp only[QEd.eq,QTd.eq]at *
 exact(wW hc ha hb).conv fun σ H Q hup=>hup.el fun Δ M R sr hr q k=>⟨Δ,M,_,sr,hr,q,fun c M1 H1 q1 e1 hr1=>by
   cases c with
   |true=>simp only[if_true]at q1 ⊢;exact⟨Δ,M1,R,sr.ext e1,hr1,q1,fun b M2 v2 H2 q2 e2 hr2 r2=>k b M2 v2 H2 q2 (e1.trans e2) hr2 r2⟩
   |false=>simp only[M7,if_false]at q1 ⊢;exact⟨Δ,M1,R,sr.ext e1,hr1,q1,fun b M2 v2 H2 q2 e2 hr2 r2=>k b M2 v2 H2 q2 (e1.trans e2) hr2 r2⟩⟩
theorem tS{X:Cx}{a:J5}{b:J5}{c:J5}{ta:TEd}{tb:TEd}{pos:Pos}{tc:TEd}{op op':ac2}{r r':D->D->Option D}(ho:bM X (L6 op) r) (ho':bM X (L6 op') r') (ha:QEd X a ta) (hb:QEd X b tb) (hc:QEd X c tc)
  (hm:ad1 [op,op'] [b,c]=false:=by with_unfolding_all rfl):QEd X (.Compare a [op,op'] [b,c] pos) (sf r r' ta tb tc):=by
 simp only[QEd.eq]at *
 refine(yF ho.v ho'.v ha hb hc hm).conv fun σ H Q h=>?_;obtain⟨Δ,M,R,sr,hr,q,k⟩:=h;refine⟨Δ,M,_,sr,hr,q,fun x M1 v H1 q1 e1 hr1 rv=>⟨Δ,M1,_,sr.ext e1,hr1,q1,fun y M2 u H2 ⟨b,eb,q2⟩ e2 hr2 ru=>⟨_,_,.bl b,M2,hr2,(rv.ext e2).rd hr2,ru.rd hr2,eb,fun w H3 e3 hr3 rw_ =>
  ⟨b,by simpa only[Rep]using rw_,?_⟩⟩⟩⟩
 cases b with
 |true =>
  simp only[if_true]at q2 ⊢;exact⟨Δ,M2,_,(sr.ext (e1.trans e2)).ext e3,hr3,q2,fun z M4 w4 H4 ⟨d,ed,q4⟩ e4 hr4 r4=>⟨_,_,d,M4,hr4,((ru.ext e3).ext e4).rd hr4,r4.rd hr4,ed,fun w5 H5 e5 hr5 r5=>k d M4 w5 H5 q4 ((((e1.trans e2).trans e3).trans e4).trans e5) hr5 r5⟩⟩
 |false =>
  simp only[M7,if_false]at q2 ⊢;exact k _ M2 _ H3 q2 ((e1.trans e2).trans e3) hr3 (by simp[Rep])
theorem p7{X:Cx}{a:J5}{b:J5}{c:J5}{ta:TEd}{tb:TEd}{pos:Pos}{tc:TEd}{op op':ac2}{r r':D->D->Option D}(ho:bM X (L6 op) r) (ho':bM X (L6 op') r') (ha:QEd X a ta) (hb:QEd X b tb) (hc:QEd X c tc)
  (hm:ad1 [op,op'] [b,c]=false:=by with_unfolding_all rfl):QTd X (.Compare a [op,op'] [b,c] pos) (lO (sf r r' ta tb tc)):=by
 simp only[QEd.eq,QTd.eq]at *
 refine(xj ho.v ho'.v ha hb hc hm).conv fun σ H Q h=>?_;obtain⟨Δ,M,R,sr,hr,q,k⟩:=h;refine⟨Δ,M,_,sr,hr,q,fun x M1 v H1 q1 e1 hr1 rv=>⟨Δ,M1,_,sr.ext e1,hr1,q1,fun y M2 u H2 ⟨b,eb,q2⟩ e2 hr2 ru=>⟨_,_,.bl b,M2,hr2,(rv.ext e2).rd hr2,ru.rd hr2,eb,fun w H3 e3 hr3 rw_ =>
  ⟨b,by simpa only[Rep]using rw_,?_⟩⟩⟩⟩
 cases b with
 |true =>
  simp only[if_true]at q2 ⊢;exact⟨Δ,M2,_,(sr.ext (e1.trans e2)).ext e3,hr3,q2,fun z M4 w4 H4 ⟨d,ed,kb,ekb,q4⟩ e4 hr4 r4=>⟨_,_,d,M4,hr4,((ru.ext e3).ext e4).rd hr4,r4.rd hr4,ed,fun w5 H5 e5 hr5 r5=>⟨kb,by subst ekb;simpa only[Rep]using r5,k kb M4 H5 q4 ((((e1.trans e2).trans e3).trans e4).trans e5) hr5⟩⟩⟩
 |false =>
  simp only[M7,if_false]at q2 ⊢;obtain⟨kb,ekb,q2⟩:=q2;cases ekb;exact⟨false,rfl,k _ M2 H3 q2 ((e1.trans e2).trans e3) hr3⟩
theorem ax{X:Cx}{pos:Pos}{x:Str}{p:Pos}{e:J5}{es:List J5}{t:TAd}{id:String}{r:List D->Option D}(hc:bK X (.builtin id) r) (hg:Gl X x) (hm:X.mg x=none) (hv:Q9 x=some (.builtin id)) (ha:QAd X (e::es) t) (hn:x≠"__name__":=by decide) (hdb:(x==("__debug__":Str))=false:=by decide)
  (he:J1 (e::es) X.env=(false,T8 e X.env)::J1 es X.env:=by rfl) (hpl:(U6 pos (J1 es X.env)).any (·.1)=false:=by rfl):QEd X (.Call (.Name x p) (e::es) [] pos) (dCB r t):=by
 simp only[QEd.eq,QAd.eq]at *
 exact(qF hc.v hg hm hv ha hn hdb he hpl).conv AN
theorem bR{X:Cx}{pos:Pos}{x:Str}{p:Pos}{e:J5}{es:List J5}{t:TAd}{id:String}{r:List D->Option D}(hc:bK X (.type id) r) (hg:Gl X x) (hm:X.mg x=none) (hv:Q9 x=some (.type id)) (ha:QAd X (e::es) t) (hn:x≠"__name__":=by decide) (hdb:(x==("__debug__":Str))=false:=by decide)
  (he:J1 (e::es) X.env=(false,T8 e X.env)::J1 es X.env:=by rfl) (hpl:(U6 pos (J1 es X.env)).any (·.1)=false:=by rfl):QEd X (.Call (.Name x p) (e::es) [] pos) (dCB r t):=by
 simp only[QEd.eq,QAd.eq]at *
 exact(u9 hc.v hg hm hv ha hn hdb he hpl).conv AN
theorem aV{X:Cx}:QSs X [] xY:=by
 simp only[QSs.eq]at *
 exact zJ.conv fun D σ H hup=>hup.el fun Δ M E sr hr q u=>u.nx Δ M σ H q (Ext.refl _ _) hr sr
theorem ai{X:Cx}{st:aa2}{bZ:List aa2}{t:TSd}{u:TSd}(h1:QSd X st t) (h2:QSs X bZ u):QSs X (st::bZ) (ER t u):=by
 simp only[QSd.eq,QSs.eq]at *
 exact(xJ h1 h2).conv fun D σ H hup=>hup.el fun Δ M E sr hr q k=>⟨Δ,M,{ E with nx:=u E },sr,hr,q,⟨fun Δ' M' σ' H' q' e' hr' sr'=>⟨Δ',M',E,sr',hr',q',k.ext e'⟩,k.bk,k.ct,k.rt⟩⟩
theorem au{X:Cx}{st:aa2}{t:TSd}(h1:QSd X st t):QSs X [st] t:=by
 simp only[QSd.eq,QSs.eq]at *
 exact zB h1
theorem aS{X:Cx}{e:J5}{te:TEd}{pos:Pos}(he:QEd X e te):QSd X (.Return (some e) pos) (EK te):=by
 simp only[QEd.eq,QSd.eq]at *
 exact(si he).conv fun D σ H hup=>hup.el fun Δ M E sr hr q k=>⟨Δ,M,_,sr,hr,q,k.rt⟩
theorem dH{X:Cx}{e:J5}{te:TEd}{pos:Pos}(he:QEd X e te) (hs:V9 e none pos.line X.env=V2 false:=by rfl):QSd X (.Expr e pos) (v8 te):=by
 simp only[QEd.eq,QSd.eq]at *
 exact(Aw he hs).conv fun D σ H hup=>hup.el fun Δ M E sr hr q k=>⟨Δ,M,_,sr,hr,q,fun d M1 v H1 q1 e1 hr1 _=>k.nx Δ M1 σ H1 q1 e1 hr1 (sr.ext e1)⟩
theorem bh{X:Cx}{c:J5}{pos:Pos}{t:TSd}{u:TSd}{sa sb:List aa2}{tc:TTd}(hc:QTd X c tc) (ha:QSs X sa t) (hb:QSs X sb u):QSd X (.If c sa sb pos) (B5 tc t u):=by
 simp only[QTd.eq,QSd.eq,QSs.eq]at *
 exact(DN hc ha hb).conv fun D σ H hup=>hup.el fun Δ M E sr hr q k=>⟨Δ,M,_,sr,hr,q,fun b M1 H1 q1 e1 hr1=>by
   cases b with
   |true=>simp only[if_true]at q1 ⊢;exact⟨Δ,M1,E,sr.ext e1,hr1,q1,k.ext e1⟩
   |false=>simp only[M7,if_false]at q1 ⊢;exact⟨Δ,M1,E,sr.ext e1,hr1,q1,k.ext e1⟩⟩
theorem aO{X:Cx}{e:J5}{te:TEd}{pos:Pos}{i:Nat}{x:Str}{pos':Pos}(hN:X.N.Nodup) (hi:X.N[i]?=some x) (hx:Loc X.env.scope x) (he:QEd X e te) (hs:V9 e (some (.Name x pos')) pos.line X.env=V2 false:=by rfl) (hf:X.fn x=true∨X.env.scope.names.lookup x=some .local:=by first|exact .inl rfl|exact .inr rfl|assumption) :
  QSd X (.Assign [.Name x pos'] e pos) (wR i te):=by
 simp only[QEd.eq,QSd.eq]at *
 exact(CD hN hi hx he hs hf).conv fun D σ H hup=>hup.el fun Δ M E sr hr q k=>⟨Δ,M,_,sr,hr,q,fun d M1 v H1 q1 e1 hr1 rv=>k.nx _ M1 _ H1 q1 e1 hr1 ((sr.ext e1).set i rv)⟩
theorem Ei{X:Cx}{e:J5}{te:TEd}{pos:Pos}{i:Nat}{x:Str}{op:ac7}{r:D->D->Option D}{pos':Pos}(hN:X.N.Nodup) (hi:X.N[i]?=some x) (hx:Loc X.env.scope x) (he:QEd X e te) (ho:bM X (ac9 op) r) (hf:X.fn x=true∨X.env.scope.names.lookup x=some .local:=by first|exact .inl rfl|exact .inr rfl|assumption) :
  QSd X (.AugAssign (.Name x pos') op e pos) (Ey i te r):=by
 simp only[QEd.eq,QSd.eq]at *
 have h:PIp X op (opV X.K r):=fun ag s σ H x y v u Q I rx ry q=>ho.v ag s σ H x y v u Q I rx ry q;refine(Ce hN hi hx he h hf).conv fun D σ H hh=>?_;obtain⟨Δ,M,E,sr,hr,⟨d,ed,q⟩,k⟩:=hh;obtain⟨v,ev,rv⟩:=sr.2 i d ed;refine⟨v,ev,Δ,M,_,sr,hr,q,fun y M1 w H1 ⟨z,ez,q1⟩ e1 hr1 rw_=>⟨_,_,z,M1,hr1,(rv.ext e1).rd hr1,rw_.rd hr1,ez,fun w2 H2 e2 hr2 r2=>k.nx _ M1 _ H2 q1 (e1.trans e2) hr2 (((sr.ext e1).ext e2).set i r2)⟩⟩
theorem pJ{X:Cx}{t:TSd}{sts:List aa2}(i:Nat) (h:QSs X sts t):QSs X sts (wq i t):=by
 simp only[QSs.eq]at *
 exact PSs.conv h fun D σ H ⟨Δ,M,E,sr,hr,⟨a,ds,e1,e2,q⟩,k⟩=>by
  refine⟨_,jd M a,E,?_,hr.le LeM.del,q,k.ext (Ext.le LeM.del)⟩;obtain⟨v,ev,rv⟩:=sr.2 i _ e1;simp only[Rep]at rv;subst rv;have:=(sr.ext (Ext.le (M1:=jd M a) LeM.del)).set i (Rep.froze (M1:=jd M a) hr LeM.del e2 gY);have es:σ.set i (some (.ref a))=σ:=by
   apply List.ext_getElem?;intro j
   by_cases hj:j=i
   ·subst hj;have hl:j<σ.length:=(L3.mp ev).1;rw[Q3 hl,ev]
   ·rw[T9 (W6 hj)]
  rw[es]at this;exact this
theorem AV{X:Cx}{e:J5}{te:TEd}{pos:Pos}{tg:J5}{g:GD}(he:QEd X e te) (hg:PGd X tg g) (hs:swapsWithSole [tg] e pos.line X.env=V2 false:=by rfl) (hw:swappedStores [tg] e X.env=V2 none:=by rfl)
  (h1:(M9 [tg] X.env).map (·.2)=[U0 tg X.env]:=by rfl):QSd X (.Assign [tg] e pos) (EC te g):=by
 simp only[QEd.eq,QSd.eq]at *
 obtain⟨gv,pg,kg⟩:=hg;exact(xu he pg hs hw h1).conv fun D σ H hup=>hup.el fun Δ M E sr hr q k=>⟨Δ,M,_,sr,hr,q,fun d M1 v H1 ⟨Δ',eg,q1⟩ e1 hr1 rv=>kg d v σ Δ Δ' M1 H1 _ (sr.ext e1) hr1 rv eg fun σ' sr'=>k.nx Δ' M1 σ' H1 q1 e1 hr1 sr'⟩
theorem cz{X:Cx}{a:J5}{pos:Pos}{tg:J5}{ta:TAd}{p:Pos}(hg:Gl X "range") (hm:X.mg "range"=none) (ha:QAd X [a] ta) (hs:J1 [a] X.env=[(false,T8 a X.env)]:=by rfl):QId X tg (.Call (.Name "range" p) [a] [] pos) (xn ta):=by
 simp only[QAd.eq,QId.eq]at *
 exact(vK hg hm ha hs).conv fun σ H R hup=>hup.el fun Δ M R' sr hr q k=>⟨Δ,M,_,sr,hr,q,fun ds M1 vs H1 ⟨j,ed,h1,h2,q1⟩ e1 hr1 rv=>by
   subst ed;obtain⟨v,ev,rv1⟩:=rv.one;have ev1:v=.int j:=by simpa only[Rep]using rv1
   subst ev1;subst ev;exact⟨j,rfl,h1,h2,k _ M1 _ H1 q1 e1 hr1 um⟩⟩
theorem uE{X:Cx}{a:J5}{b:J5}{pos:Pos}{tg:J5}{ta:TAd}{p:Pos}(hg:Gl X "range") (hm:X.mg "range"=none) (ha:QAd X [a,b] ta) (hs:J1 [a,b] X.env=[(false,T8 a X.env),(false,T8 b X.env)]:=by rfl) (hs2:J1 [b] X.env=[(false,T8 b X.env)]:=by rfl):QId X tg (.Call (.Name "range" p) [a,b] [] pos) (wa ta):=by
 simp only[QAd.eq,QId.eq]at *
 exact(vG hg hm ha hs hs2).conv fun σ H R hup=>hup.el fun Δ M R' sr hr q k=>⟨Δ,M,_,sr,hr,q,fun ds M1 vs H1 ⟨i,j,ed,h1,q1⟩ e1 hr1 rv=>by
   subst ed;obtain⟨v,w,ev,rv1,rv2⟩:=rv.two;have ev1:v=.int i:=by simpa only[Rep]using rv1
   have ev2:w=.int j:=by simpa only[Rep]using rv2
   subst ev1;subst ev2;subst ev;exact⟨i,j,rfl,h1,k _ M1 _ H1 q1 e1 hr1 um⟩⟩
theorem cP{X:Cx}{pos:Pos}{tg:J5}{iter:J5}{body:List aa2}{wi:TId}{g:GD}{tb:TSd}(hp:ad0 (K3 X.prog X.w) X.A X.env X.xe) (hc:X.calm=true) (hi:QId X tg iter wi) (hg:PGd X tg g) (hb:QSs X body tb)
  (hs:∀x,O1 iter X.env x=V2 x:=by intro _;rfl):QSd X (.For tg iter body [] pos) (D5 wi g tb):=by
 simp only[QSd.eq,QSs.eq,QId.eq]at *
 obtain⟨gv,pg,kg⟩:=hg;refine(CJ hp hc hi pg hb hs).conv fun D σ H hh=>?_;obtain⟨Δ,M,E,sr,hr,q,k⟩:=hh;refine⟨Δ,M,_,sr,hr,q,fun ds M1 J H1 q1 e1 hr1 it=>?_⟩;refine⟨fun i m σ' H'=>∃ Δ' M',m=ds.length-i/\i<=ds.length/\Ext M1 H1 M' H'/\HR X.K M' H'/\SR X.K M' H' σ' Δ'/\df g tb E (ds.drop i) Δ' M',⟨ds.length,Δ,M1,by simp,R4 _,Ext.refl _ _,hr1,sr.ext e1,q1⟩,?_⟩;rintro i m σ2 H2 ⟨Δ2,M2,rfl,hi2,e2,hr2,sr2,f2⟩;obtain⟨go,stop⟩:=it M2 H2 e2 hr2 i
 by_cases hlt:i<ds.length
 ·have hd:ds[i]?=some ds[i]:=by simp[hlt]
  obtain⟨g1,y1⟩:=go _ hd;rw[List.drop_eq_getElem_cons hlt]at f2;simp only[df]at f2;obtain⟨Δ3,eg,f3⟩:=f2;refine .inr ⟨g1,fun σ' H'=>∃m',m'<ds.length-i/\∃ Δ' M',m'=ds.length-(i+1)/\i+1<=ds.length/\Ext M1 H1 M' H'/\HR X.K M' H'/\SR X.K M' H' σ' Δ'/\df g tb E (ds.drop (i+1)) Δ' M',fun σ' H' z=>z,fun x H' hy=>?_⟩;obtain⟨e3,hr3,rx⟩:=y1 x H' hy;refine kg _ x σ2 Δ2 Δ3 M2 H' _ (sr2.ext e3) hr3 rx eg fun σ3 sr3=>?_;refine⟨Δ3,M2,_,sr3,hr3,f3,⟨fun Δ' M' σ' H'' q' e' hr' sr'=>?_,fun Δ' M' σ' H'' q' e' hr' sr'=>?_,fun Δ' M' σ' H'' q' e' hr' sr'=>?_,fun d M' v H'' q' e' hr' rv'=>?_⟩⟩
  ·exact⟨_,by lia,Δ',M',rfl,hlt,(e2.trans e3).trans e',hr',sr',q'⟩
  ·exact k.nx Δ' M' σ' H'' q' (((e1.trans e2).trans e3).trans e') hr' sr'
  ·exact⟨_,by lia,Δ',M',rfl,hlt,(e2.trans e3).trans e',hr',sr',q'⟩
  ·exact k.rt d M' v H'' q' (((e1.trans e2).trans e3).trans e') hr' rv'
 ·rw[List.drop_eq_nil_of_le (by lia)]at f2;exact .inl ⟨stop (by lia),k.nx Δ2 M2 σ2 H2 f2 (e1.trans e2) hr2 sr2⟩
theorem uS{X:Cx}{c:J5}{pos:Pos}{body:List aa2}{tc:TTd}{tb:TSd}(hp:ad0 (K3 X.prog X.w) X.A X.env X.xe) (hc:QTd X c tc) (hb:QSs X body tb):QSd X (.While c body [] pos) (wM tc tb):=by
 simp only[QTd.eq,QSd.eq,QSs.eq]at *
 refine(xt hp hc hb).conv fun D σ H hh=>?_;obtain⟨Δ,M,E,sr,hr,⟨W,⟨m0,w0⟩,turn⟩,k⟩:=hh;refine⟨fun m σ' H'=>∃ Δ' M',Ext M H M' H'/\HR X.K M' H'/\SR X.K M' H' σ' Δ'/\W m Δ' M',⟨m0,Δ,M,Ext.refl _ _,hr,sr,w0⟩,?_⟩;rintro m σ1 H1 ⟨Δ1,M1,e1,hr1,sr1,w1⟩;refine⟨Δ1,M1,_,sr1,hr1,turn m Δ1 M1 w1,fun b M2 H2 q2 e2 hr2=>?_⟩;cases b with
 |true =>
  simp only[if_true]at q2 ⊢;refine⟨fun σ' H'=>∃m',m'<m/\∃ Δ' M',Ext M H M' H'/\HR X.K M' H'/\SR X.K M' H' σ' Δ'/\W m' Δ' M',fun σ' H' z=>z,Δ1,M2,_,sr1.ext e2,hr2,q2,⟨fun Δ' M' σ' H'' ⟨m',hm,w'⟩ e' hr' sr'=>?_,fun Δ' M' σ' H'' q' e' hr' sr'=>?_,fun Δ' M' σ' H'' ⟨m',hm,w'⟩ e' hr' sr'=>?_,fun d M' v H'' q' e' hr' rv'=>?_⟩⟩
  ·exact⟨m',hm,Δ',M',(e1.trans e2).trans e',hr',sr',w'⟩
  ·exact k.nx Δ' M' σ' H'' q' ((e1.trans e2).trans e') hr' sr'
  ·exact⟨m',hm,Δ',M',(e1.trans e2).trans e',hr',sr',w'⟩
  ·exact k.rt d M' v H'' q' ((e1.trans e2).trans e') hr' rv'
 |false =>
  simp only[M7,if_false]at q2 ⊢;exact k.nx Δ1 M2 σ1 H2 q2 (e1.trans e2) hr2 (sr1.ext e2)
theorem dY{X:Cx}:QIf X [] u0:=by
 simp only[QEd.eq,QAd.eq,QTd.eq,QWd.eq,QSd.eq,QSs.eq,QId.eq,QIf.eq,QOd.eq]at *
 exact AH 
theorem cI{X:Cx}{c:J5}{tc:TTd}(h:QTd X c tc):QIf X [c] tc:=by
 simp only[QTd.eq,QIf.eq]at *
 exact Ak h
theorem gK{X:Cx}{pos:Pos}{tg:J5}{iter:J5}{elt:J5}{scope:R0}{cl:List (Str×F9)}{ms:List Bool}{am:List Str}{ifs:List J5}{wi:TId}{g:GD}{tc:TTd}{te:TEd}(S:cT X scope cl ms am) (bA:X.calm=true) (hi:QId X tg iter wi) (hg:PGa X scope cl am tg g)
  (hif:∀C s H ex,QIf (aK X scope cl (X.N++am) C s H ex) ifs tc) (he:∀C s H ex,QEd (aK X scope cl (X.N++am) C s H ex) elt te)
  (hs:∀x,O1 iter X.env x=V2 x:=by intro _;rfl):QEd X (.ListComp elt [⟨tg,iter,ifs,0⟩] scope pos) (dLc ms am.length wi g tc te):=by
 simp only[QEd.eq,QId.eq,QIf.eq]at *
 obtain⟨gv,pg,kg⟩:=hg;exact(wt (tc:=upT X.K tc) S bA hi pg hif (o8 (te:=up X.K te) he) hs).conv (oM kg)
theorem g6{X:Cx}{pos:Pos}{tg:J5}{iter:J5}{elt:J5}{scope:R0}{cl:List (Str×F9)}{ms:List Bool}{am:List Str}{ifs:List J5}{i:Nat}{x:Str}{spos pos':Pos}{wi:TId}{g:GD}{tc:TTd}{te:TEd}(hN:X.N.Nodup) (hix:X.N[i]?=some x) (hx:X.env.scope.names.lookup x=some .local)
  (hsw:V9 (.ListComp elt [⟨tg,iter,ifs,0⟩] scope pos) (some (.Name x pos')) spos.line X.env=V2 true) (S:cT X scope cl ms am) (bA:X.calm=true) (hi:QId X tg iter wi) (hg:PGa X scope cl am tg g)
  (hif:∀C s H ex,QIf (aK X scope cl (X.N++am) C s H ex) ifs tc) (he:∀C s H ex,QEd (aK X scope cl (X.N++am) C s H ex) elt te)
  (hs:∀x,O1 iter X.env x=V2 x:=by intro _;rfl):QSd X (.Assign [.Name x pos'] (.ListComp elt [⟨tg,iter,ifs,0⟩] scope pos) spos) (wR i (dLc ms am.length wi g tc te)):=by
 simp only[QEd.eq,QSd.eq,QId.eq,QIf.eq]at *
 obtain⟨gv,pg,kg⟩:=hg;refine(og (tc:=upT X.K tc) hN hix hx hsw S bA hi pg hif (o8 (te:=up X.K te) he) hs).conv fun D σ H hh=>?_;obtain⟨Δ,M,E,sr,hr,q,k⟩:=hh;exact oM kg σ H _ ⟨Δ,M,_,sr,hr,q,fun d M1 v H1 q1 e1 hr1 rv=>k.nx _ M1 _ H1 q1 e1 hr1 ((sr.ext e1).set i rv)⟩
theorem ix{X:Cx}{e:J5}{te:TEd}{o:J5}{to:TEd}{cp bq:Pos}(ho:QEd X o to) (he:QEd X e te) (eC:W3 o "append" X.env (T8 o X.env)=T8 o X.env:=by rfl)
  (hse:J1 [e] X.env=(false,T8 e X.env)::J1 [] X.env:=by rfl)
  (lb:((U6 bq (J1 [e] X.env)).all (fun x => !x.1) && (backToKw bq (ab5 [] X.env)).all (fun x => x.1.isSome)
  &&decide ([e].length+([]:List ab6).length+(if([]:List ab6).isEmpty then 0 else 1)<30))=true:=by rfl)
  (eR:(cp.endLine==bq.line)=true:=by rfl) (iC:(U6 bq (J1 [] X.env)).any (·.1)=false:=by rfl):QEd X (.Call (.Attribute o "append" cp) [e] [] bq) (CT to te):=by
 simp only[QEd.eq]at *
 exact(xp PySem.F.plainAttrs_list PySem.F.slot_list_append PySem.F.type_list_append (show MtR X "list.append" uD from uX) ho (h8 he mr hse) eC lb eR hse iC).conv fun σ H Q hup=>hup.el fun Δ M R sr hr q k=>⟨Δ,M,_,sr,hr,q,fun o M1 ov H1 ⟨a,l,eo,em,q1⟩ e1 hr1 ro=>by
   subst eo;simp only[Rep]at ro;subst ro;obtain⟨vs,hv,rl⟩:=hr1 a _ em;refine⟨.inl ⟨rfl,vs,SqL.of hv⟩,Δ,M1,_,sr.ext e1,hr1,q1,fun d M2 v H2 ⟨ds,em2,hz,q2⟩ e2 hr2 rv=>?_⟩;obtain⟨ws,hw,rl2⟩:=hr2 a _ em2;refine⟨a,ws,v,rfl,rfl,hw,by rw[<-rl2.length];exact hz,k _ _ _ _ q2 ((e1.trans e2).trans (Ext.write em2)) (hr2.write em2 (rl2.append (ar.cons rv ar.nil))) (by simp[Rep])⟩⟩
theorem jf{X:Cx}{a:J5}{ta:TEd}{pos:Pos}{T:Str}{Tn:String}{p p2:Pos}(hT:okT Tn=true) (hg:Gl X "isinstance") (hm:X.mg "isinstance"=none) (hg2:Gl X T) (hm2:X.mg T=none) (hv2:Q9 T=some (.type Tn)) (ha:QEd X a ta) (hn2:T≠"__name__":=by decide) (hd2:(T==("__debug__":Str))=false:=by decide)
  (hs:J1 [a,.Name T p2] X.env=(false,T8 a X.env)::J1 [.Name T p2] X.env:=by rfl) (hs2:J1 [.Name T p2] X.env=(false,T8 (.Name T p2) X.env)::J1 [] X.env:=by rfl) (hpl:(U6 pos (J1 [.Name T p2] X.env)).any (·.1)=false:=by rfl) :
  QEd X (.Call (.Name "isinstance" p) [a,.Name T p2] [] pos) (DY Tn ta):=by
 simp only[QEd.eq]at *
 have hc:dF X (.builtin "isinstance") (fun xs H Q=>∃v d k M,xs=[v,.ty Tn]/\aX X.K M H d v/\yY Tn d=some k/\Q (.bl k) H):=by
  intro ag s σ H xs us Q I rv h;obtain⟨v,d,k,M,rfl,rd,ek,q⟩:=h;obtain⟨u1,u2,rfl,r1,r2⟩:=aB.two rv;cases r2;exact vL hT I r1 rd ek q
 refine(qF hc hg hm (by kernel_rfl) (h8 ha (h8 (yL (v:=.ty Tn) hg2 hm2 hv2 rfl hn2 hd2) mr hs2) hs) (by decide) (by decide) hs hpl).conv fun σ H Q hh=>?_;obtain⟨Δ,M,R,sr,hr,q,k⟩:=hh;exact⟨Δ,M,_,sr,hr,q,fun d M1 v H1 ⟨kk,ek,q1⟩ e1 hr1 rv=>⟨v,_,kk,M1,rfl,rv.rd hr1,ek,k _ M1 _ H1 q1 e1 hr1 (by simp[Rep])⟩⟩
theorem cL{X:Cx}:QOd X none oX:=by
 simp only[QEd.eq,QAd.eq,QTd.eq,QWd.eq,QSd.eq,QSs.eq,QId.eq,QIf.eq,QOd.eq]at *
 exact Ax 
theorem bu{X:Cx}{e:J5}{te:TEd}(h:QEd X e te):QOd X (some e) (wF te):=by
 simp only[QEd.eq,QAd.eq,QTd.eq,QWd.eq,QSd.eq,QSs.eq,QId.eq,QIf.eq,QOd.eq]at *
 exact zA (h:=h)
theorem qc{X:Cx}{e:J5}{es:List J5}{t:TAd}{pos:Pos}{p:Pos}{x:Str}{k:Nat}{n:Nat}{S:SpD}(F:FnD X.prog X.w X.K X.mg X.base x k n S) (hr:cZ k X.A) (hg:Gl X x) (ha:QAd X (e::es) t) (hdb:(x==("__debug__":Str))=false:=by decide) (he:J1 (e::es) X.env=(false,T8 e X.env)::J1 es X.env:=by rfl) (hpl:(U6 pos (J1 es X.env)).any (·.1)=false:=by rfl) :
  QEd X (.Call (.Name x p) (e::es) [] pos) (lg n S t):=by
 simp only[QEd.eq,QAd.eq,QTd.eq,QWd.eq,QSd.eq,QSs.eq,QId.eq,QIf.eq,QOd.eq]at *
 exact dc (F:=F) (hr:=hr) (hg:=hg) (ha:=ha) (hdb:=hdb) (he:=he) (hpl:=hpl)
theorem xQ{X:Cx}{e:J5}{te:TEd}{pos:Pos}(he:QEd X e te):QSd X (.Return (some e) pos) (AK te):=by
 simp only[QEd.eq,QSd.eq]at *
 exact(si he).conv fun D σ H hup=>hup.el fun Δ M E sr hr q k=>⟨Δ,M,_,sr,hr,q,fun d M1 v H1 ⟨a,ds,ed,em,q1⟩ e1 hr1 rv=>by
  subst ed;simp only[Rep]at rv;subst rv;exact k.rt _ _ _ H1 q1 (e1.trans (Ext.le LeM.del)) (hr1.le LeM.del) (Rep.froze hr1 LeM.del em gY)⟩
theorem bp{X:Cx}{te:TEd}{tg:J5}{iter:J5}(h:QEd X iter te):QId X tg iter (A1 te):=by
 simp only[QEd.eq,QId.eq]at *
 intro ag s σ H R I hh;obtain⟨Δ,M,R',sr,hr,q,k⟩:=hh;refine thn (h ag s σ H (fun v H1=>∃d ds M1,iI d=some ds/\(ds.length<=F2->R' ds M1)/\Ext M H M1 H1/\HR X.K M1 H1/\Rep X.K M1 H1 d v) I ⟨Δ,M,_,sr,hr,q,fun d M1 v H1 ⟨ds,ed,q1⟩ e1 hr1 rv=>⟨d,ds,M1,ed,q1,e1,hr1,rv⟩⟩) fun u s1 ⟨v,H1,I1,r1,d,ds,M1,ed,q1,e1,hr1,rv⟩=>?_;have lo:=aX.len (K:=X.K) I1 rv;cases d with
 |tup es =>
  cases ed;simp only[Rep]at rv;obtain⟨a,vs,rfl,ta,rl⟩:=rv;cases r1;obtain⟨its,rvv,p,hz⟩:=I1.tuple ta.sq;refine wpAny_pyIter_tuple (show s1.heap.IsTuple a its.toArray from p) ?_;refine⟨s1.heap.objs.size,[s1.heap.objs.size],_,_,H1,rfl,I1.kept (t':=s1.toks) fun b o e=>F0 _ e,rO a _,⟨_,F7 _ rfl,rfl,rfl⟩,o9 (o:=default) I1,?_⟩;refine k _ M1 _ H1 (q1 lo) e1 hr1 fun M2 H2 e2 hr2 i=>⟨fun d hd=>?_,fun hl=>⟨vs,(ta.ext e2).sq,by rw[<-rl.length];exact hl⟩⟩;obtain⟨v,gv,r⟩:=rl.get hd;refine⟨⟨vs,v,(ta.ext e2).sq,gv⟩,fun x H' ⟨eH,y⟩=>?_⟩;subst eH;have:=y vs (ta.ext e2).sq;rw[gv]at this;cases this;exact⟨Ext.refl _ _,hr2,r.ext e2⟩
 |lst es =>
  cases ed;simp only[Rep]at rv;obtain⟨a,vs,rfl,ta,rl⟩:=rv;cases r1;obtain⟨its,rvv,p,hz⟩:=I1.list (SqL.of ta.1);refine wpAny_pyIter_list p.isList ?_;refine⟨s1.heap.objs.size,[s1.heap.objs.size],_,_,H1,rfl,I1.kept (t':=s1.toks) fun b o e=>F0 _ e,oo a _,⟨_,F7 _ rfl,rfl,rfl⟩,o9 (o:=default) I1,?_⟩;refine k _ M1 _ H1 (q1 lo) e1 hr1 fun M2 H2 e2 hr2 i=>⟨fun d hd=>?_,fun hl=>⟨vs,SqL.of (ta.ext e2).1,by rw[<-rl.length];exact hl⟩⟩;obtain⟨v,gv,r⟩:=rl.get hd;refine⟨⟨vs,v,SqL.of (ta.ext e2).1,gv⟩,fun x H' ⟨eH,y⟩=>?_⟩;subst eH;have:=y vs (SqL.of (ta.ext e2).1);rw[gv]at this;cases this;exact⟨Ext.refl _ _,hr2,r.ext e2⟩
 |scr es =>
  cases ed;simp only[Rep]at rv;obtain⟨a,vs,rfl,ta,rl⟩:=rv;cases r1;obtain⟨its,rvv,p,hz⟩:=I1.list ta.sq;refine wpAny_pyIter_list p.isList ?_;refine⟨s1.heap.objs.size,[s1.heap.objs.size],_,_,H1,rfl,I1.kept (t':=s1.toks) fun b o e=>F0 _ e,oo a _,⟨_,F7 _ rfl,rfl,rfl⟩,o9 (o:=default) I1,?_⟩;refine k _ M1 _ H1 (q1 lo) e1 hr1 fun M2 H2 e2 hr2 i=>⟨fun d hd=>?_,fun hl=>⟨vs,(ta.ext e2).sq,by rw[<-rl.length];exact hl⟩⟩;obtain⟨v,gv,r⟩:=rl.get hd;refine⟨⟨vs,v,(ta.ext e2).sq,gv⟩,fun x H' ⟨eH,y⟩=>?_⟩;subst eH;have:=y vs (ta.ext e2).sq;rw[gv]at this;cases this;exact⟨Ext.refl _ _,hr2,r.ext e2⟩
 |str x =>
  simp only[iI]at ed
  by_cases hz:x.length<=F2
  ·rw[if_pos hz]at ed;cases ed;simp only[Rep]at rv;subst rv;obtain⟨t,rfl⟩:=r1;have hq:=k _ M1 _ H1 (q1 (by have hz2:x.cps.size<=F2:=hz;simpa[jn]using hz2)) e1 hr1 Cf;cases ha:x.cps.all (·<128)
   ·exact wpAny_pyIter_wide ha (tX I1 "str_iterator" (by decide) (fun A hA=>Walks.strWide hA _ x t) (fun A i s' Q E st q=>wpAny_pyIter_striter_wide st q) hq)
   ·exact wpAny_pyIter_ascii ha (tX I1 "str_ascii_iterator" (by decide) (fun A hA=>Walks.strAscii hA _ x t) (fun A i s' Q E st q=>wpAny_pyIter_striter_ascii st q) hq)
  ·rw[if_neg hz]at ed;cases ed
 |_=>cases ed
theorem bT{X:Cx}{e:J5}{te:TEd}{pos:Pos}(he:QEd X e te):QSd X (.Return (some e) pos) (AC te):=by
 simp only[QEd.eq,QSd.eq]at *
 exact(si he).conv fun D σ H hup=>hup.el fun Δ M E sr hr q k=>⟨Δ,M,_,sr,hr,q,fun d M1 v H1 ⟨M2,hle,q1⟩ e1 hr1 rv =>
  k.rt _ _ _ H1 q1 (e1.trans (Ext.le hle)) (hr1.le hle) (rv.ext (Ext.le hle))⟩
theorem Bs{X:Cx}{a:J5}{t:TAd}{pos:Pos}{tg:J5}{p:Pos}(hg:Gl X "reversed") (hm:X.mg "reversed"=none) (ha:QAd X [a] t) (hs:J1 [a] X.env=[(false,T8 a X.env)]:=by rfl):QId X tg (.Call (.Name "reversed" p) [a] [] pos) (AS t):=by
 simp only[QAd.eq,QId.eq]at *
 intro ag s σ H R I hh;obtain⟨Δ,M,R',sr,hr,q,k⟩:=hh;refine Call_ (dI I hg hm ni (N2 (thn (ha pos ag s σ H (fun vs H1=>∃es M1,ar X.K M1 H1 [.tup es] vs/\(es.length<=F2->R' es.reverse M1)/\Ext M H M1 H1/\HR X.K M1 H1) I ⟨Δ,M,_,sr,hr,q,fun ds M1 vs H1 ⟨es,ed,q1⟩ e1 hr1 rv=>⟨es,M1,by rw[<-ed];exact rv,q1,e1,hr1⟩⟩) fun us s1 ⟨vs,H1,I1,r1,es,M1,rv,q1,e1,hr1⟩=>?_) hs rfl));obtain⟨v,rfl,rt⟩:=rv.one;cases r1 with
 |cons r rr =>
  cases rr;have lo:=aX.len (K:=X.K) I1 rt;simp only[Rep]at rt;obtain⟨ad,vs,rfl,ta,rl⟩:=rt;cases r;obtain⟨its,rvv,pt,hz⟩:=I1.tuple ta.sq;have hl1:=rvv.length;have hl2:=rl.length;have hsz:its.toArray.size<2 ^ 63:=by have:=wQ;simp;lia
  refine mf pt hsz fun kk=>?_;refine ff (i:=(its.toArray.size:Int)-1) ⟨_,F7 _ rfl,rfl,rfl⟩ ?_;refine⟨s1.heap.objs.size,[s1.heap.objs.size],_,_,H1,rfl,I1.kept (t':=kk) fun b o e=>F0 _ e,wG ad _ es.length,⟨R4 _,_,F7 _ rfl,rfl,?_⟩,o9 (o:=default) I1,?_⟩
  ·show Data.fields _=_;have e1:(its.toArray.size:Int)-1=(es.length:Int)-1-((0:Nat):Int):=by simp;lia
   rw[e1]
  ·refine k _ M1 _ H1 (q1 lo) e1 hr1 fun M2 H2 e2 hr2 i=>⟨fun d hd=>?_,fun hl=>by show es.length<=i;simpa using hl⟩;have hi:i<es.length:=by
    have:=(L3.mp hd).1;simpa using this
   rw[List.getElem?_reverse hi]at hd;obtain⟨v,gv,r⟩:=rl.get hd;refine⟨⟨⟨vs,(ta.ext e2).sq,by lia⟩,hi⟩,fun x H' ⟨eH,y⟩=>?_⟩;subst eH;have:=y vs (ta.ext e2).sq;rw[gv]at this;cases this;exact⟨Ext.refl _ _,hr2,r.ext e2⟩
theorem bB{X:Cx}{e:J5}{te:TEd}{pos:Pos}{lo hi:Option J5}{tl th:TOd}{p2:Pos}(he:QEd X e te) (hl:QOd X lo tl) (hu:QOd X hi th):QEd X (.Subscript e (.Slice lo hi none p2) pos) (Eb te tl th):=by
 simp only[QEd.eq,QOd.eq]at *
 refine(ym (SlR.or Ar (SlR.or Bl (SlR.or C4 ye))) he hl hu).conv fun σ H Q hh=>?_;obtain⟨Δ,M,R,sr,hr,q,k⟩:=hh;refine⟨Δ,M,_,sr,hr,q,fun x M1 v H1 q1 e1 hr1 rv=>⟨Δ,M1,_,sr.ext e1,hr1,q1,fun l M2 H2 q2 e2 hr2=>⟨Δ,M2,_,(sr.ext e1).ext e2,hr2,q2,fun u M3 H3 ⟨z,ez,q3⟩ e3 hr3=>?_⟩⟩⟩;have rr:=((rv.ext e2).ext e3).rd hr3;have ee:=(e1.trans e2).trans e3;have kk:∀w H',Ext M3 H3 M3 H'->HR X.K M3 H'->Rep X.K M3 H' z w->Q w H':=fun w H' e4 hr4 r4=>k z M3 w H' q3 (ee.trans e4) hr4 r4;generalize rdM M3 x=d at rr ez;cases d with
 |lst ds =>
  cases ez;obtain⟨a,vs,rfl,sq,rl⟩:=rr;refine .inl ⟨a,vs,rfl,SqL.of sq,fun p hp=>fu hr3 hp ?_ kk⟩;unfold c8 pF;rw[<-rl.length];exact(rl.drop _).take _
 |scr ds =>
  cases ez;obtain⟨a,vs,rfl,sq,rl⟩:=rr;refine .inl ⟨a,vs,rfl,sq,fun p hp=>fu hr3 hp ?_ kk⟩;unfold c8 pF;rw[<-rl.length];exact(rl.drop _).take _
 |str s =>
  simp only[slE,slD]at ez
  by_cases hz:s.length<=F2
  ·rw[if_pos hz]at ez;cases ez;exact .inr (.inr (.inl ⟨s,nj rr,hz,kk _ H3 (Ext.refl _ _) hr3 (by simp[Rep])⟩))
  ·rw[if_neg hz]at ez;cases ez
 |tup ds =>
  cases ez;have rt:=aX.tup hr3 rr;obtain⟨a,vs,rfl,sq,rl⟩:=rr
  by_cases hw:HT.sIx ds.length 0 l=0/\HT.sIx ds.length ds.length u=ds.length
  ·refine .inr (.inr (.inr ⟨a,vs,rfl,sq,by rw[<-rl.length];exact hw,kk _ H3 (Ext.refl _ _) hr3 ?_⟩));rw[rn hw];exact rt
  ·refine .inr (.inl ⟨a,vs,rfl,sq,by rw[<-rl.length];exact hw,fun p hp=>jJ hr3 hp ?_ kk⟩);unfold c8 pF;rw[<-rl.length];exact(rl.drop _).take _
 |_=>cases ez
theorem xf{X:Cx}{e:J5}{te:TEd}{ts:TEd}{pos:Pos}{st:J5}{p2:Pos}(he:QEd X e te) (hs:QEd X st ts):QEd X (.Subscript e (.Slice none none (some st) p2) pos) (yy te ts):=by
 simp only[QEd.eq]at *
 intro ag s σ H Q I hh;obtain⟨Δ,M,R,sr,hr,q,k⟩:=hh;refine ac3 (thn (he ag s σ H (fun v H1=>∃x M1,Rep X.K M1 H1 x v/\Ext M H M1 H1/\HR X.K M1 H1/\ts Δ M1 fun st M2=>st=.int (-1)/\∃ds,x=.tup ds/\R (.tup ds.reverse) M2) I
  ⟨Δ,M,_,sr,hr,q,fun x M1 v H1 q1 e1 hr1 rv=>⟨x,M1,rv,e1,hr1,q1⟩⟩) fun v s1 ⟨vx,H1,I1,r1,x,M1,rv,e1,hr1,q1⟩=>?_)
 refine wpAny_Slice ?_;rw[evalPart_none];refine F4 (F4 ?_);rw[evalPart_some];refine thn (hs ag s1 σ H1 (fun u H2=>∃M2 ds,u=.int (-1)/\x=.tup ds/\R (.tup ds.reverse) M2/\Ext M1 H1 M2 H2/\HR X.K M2 H2) I1 ⟨Δ,M1,_,sr.ext e1,hr1,q1,fun d M2 u H2 ⟨ed,ds,ex,q2⟩ e2 hr2 ru=>⟨M2,ds,by subst ed;simpa only[Rep]using ru,ex,q2,e2,hr2⟩⟩) fun u s2 ⟨vu,H2,I2,r2,M2,ds,eu,ex,q2,e2,hr2⟩=>?_;subst eu;subst ex;obtain⟨tk,rfl⟩:=r2;have rv2:=rv.ext e2;simp only[Rep]at rv2;obtain⟨ad,vs,rfl,ta,rl⟩:=rv2;cases r1;have I4:Inv X ag σ H2 { s2 with heap:=s2.heap.push { cls:=.type "slice",data:=.fields #[.none,.none,.int (-1) tk] } }:=I2.kept (t':=s2.toks) fun b ob q=>F0 _ q;obtain⟨its,r,ht,hz⟩:=I4.tuple ta.sq;have hl:=r.length;refine tail_any (ops:=[.ref ad,.ref s2.heap.objs.size]) ht.typeIs J7.lookup (HT.getItem_tuple_rev ht (K4.IsSliceOf.new ..) ?_ (by rw[F3,<-hl];exact hz)) (by with_unfolding_all rfl);have rr:aB vs.reverse its.reverse:=aB.reverse r;refine⟨.ref _,_,I4.laid (t':=s2.toks) (o:=.tup vs.reverse) (fun b ob q=>F0 _ q) (F6 _) ?_,rfl,?_⟩
 ·exact⟨by simpa using hz,_,rr,ko.new _ _⟩
 ·exact jJ (ds:=ds.reverse) hr2 (I4.hok.fresh (F6 _)) rl.reverse fun w H' e4 hr4 r4=>k _ M2 w H' q2 ((e1.trans e2).trans e4) hr4 r4
theorem rj{X:Cx}{pos:Pos}{scope:R0}{cl:List (Str×F9)}{ms:List Bool}{am:List Str}{ifs:List J5}{tg:J5}{iter:J5}{elt:J5}{i:Nat}{x:Str}{spos pos':Pos}{wi:TId}{g:GD}{tc:TTd}{te:TEd}(hN:X.N.Nodup) (hix:X.N[i]?=some x) (hx:X.env.scope.names.lookup x=some .local)
  (hsw:V9 (.ListComp elt [⟨tg,iter,ifs,0⟩] scope pos) (some (.Name x pos')) spos.line X.env=V2 true) (S:cT X scope cl ms am) (bA:X.calm=true) (hi:QId X tg iter wi) (hg:PGa X scope cl am tg g)
  (hif:∀C s H ex,QIf (aK X scope cl (X.N++am) C s H ex) ifs tc) (he:∀C s H ex,QEd (aK X scope cl (X.N++am) C s H ex) elt te)
  (hs:∀x,O1 iter X.env x=V2 x:=by intro _;rfl):QSd X (.Assign [.Name x pos'] (.ListComp elt [⟨tg,iter,ifs,0⟩] scope pos) spos) (wR i (BF ms am.length wi g tc te)):=by
 simp only[QEd.eq,QSd.eq,QId.eq,QIf.eq]at *
 obtain⟨gv,pg,kg⟩:=hg;refine(og (tc:=upT X.K tc) hN hix hx hsw S bA hi pg hif (o8 (te:=up X.K te) he) hs).conv fun D σ H hh=>?_;obtain⟨Δ,M,E,sr,hr,q,k⟩:=hh;exact xo kg σ H _ ⟨Δ,M,_,sr,hr,q,fun d M1 v H1 q1 e1 hr1 rv=>k.nx _ M1 _ H1 q1 e1 hr1 ((sr.ext e1).set i rv)⟩
section
variable{X:Cx}{bZ:List aa2}{t:TSd}{e:J5}{tt:TTd}
theorem uG(h:QSs X bZ t):xC X bZ t:=by
 rw[QSs.eq]at h;exact h
theorem fZ(h:QWd X e tt):QTd X e tt:=by
 simp only[QWd.eq,QTd.eq]at *
 exact PWd.pt h
end
end L2
namespace L2
open PySem PySem.Spec PyProof.Rows PySem.Builtin.Str
end L2
namespace L2
open PySem PySem.Spec PyProof.Rows
def Few(n:Int):Prop:=J3.Int.intBits n<=2 ^ 20
theorem zY{ns:List Int}:R3.weightAll (ns.map .int)<=2 ^ 20->∀n∈ns,Few n:=by
 induction ns with
 |nil=>intro _ n h;cases h
 |cons a r ih =>
  intro h n hn;rw[N7,R3.weightAll]at h;rcases N5.mp hn with e|e
  ·subst e;have:R3.weight (.int n)=J3.Int.intBits n:=by unfold R3.weight J3.Int.intBits;rfl
   unfold Few
   lia
  ·exact ih (by lia) n e
theorem zk{ns:List Int}(h:R3.layableAll [.list (ns.map .int)]=true):∀n∈ns,Few n:=by
 refine zY ?_;have h1:R3.layable (.list (ns.map .int))=true:=by
  unfold R3.layableAll at h;simpa using h
 unfold R3.layable at h1;have h2:=(Bool.and_eq_true_iff.mp h1).2;have h3:=of_decide_eq_true h2;unfold R3.weight at h3;exact h3
end L2
namespace Att
open PySem PySem.W PySem.Calls PyProof.Rows
theorem attach_callB{l:OpenLaw}{n:Nat}{q:L5}{loose:List Str}{XP:(Str->Option u8)->K4->Prop}{YP:P6->K4->Prop}{d:DefRec}
  (hn:l.most=some n) (hdf:d.params.defaults=[])
  (call:∀ (w:P6) (s₀ s₁:F1) (mg mb:Str → Option u8) (fa:F9) (o:Obj) (pm cd doc:u8) (a:F9) (vs:List u8) (ns:List Int),
   Ground q loose [] XP w s₀ mg mb s₁.heap->YP w s₁.heap ->
   s₁.heap.get? fa=some o->o.data=.func (docDef d.name d.params d.body d.scope pm cd doc)->s₁.heap.CodeRec cd d.name->mg d.name=some (.ref fa) ->
   s₁.heap.get? a=some { cls:=.type "list",data:=.seq vs.toArray }->IntsAre vs ns->ns.length<=n->(∀m∈ns,L2.Few m)->s₁.gens=#[] ->
   X9 (K3 l.prog w) callerA (.call (.ref fa) ⟨[.ref a],[]⟩) (fun r s'=>r=.ok (.ret (.bool true))/\OldK s₁.heap s'.heap/\s'.os=s₁.os/\aa1 s'.gens) s₁) :
  WalkO q loose XP YP l.row.toRowW d [] (fun f vs=>PySem.call f vs):=by
 intro w s₀ s₁ mg mb G Y fa o pm cd doc dV kV ho hd hcd hD hmg hg args vals as hpre hlay hrd hwl hlo;obtain rfl:dV=.none:=Dflts.none hD hdf;obtain rfl:kV=.none:=Dflts.noKw hD;obtain⟨a,vs,ns,rfl,rfl,hobj,hints,bG⟩:=ve hn hpre hwl;refine enter_call (codeAny_mono (call w s₀ s₁ mg mb fa o pm cd doc a vs ns G Y ho (fd_plain hd) hcd hmg hobj hints bG (L2.zk hlay) hg) fun r s' hq=>?_);obtain⟨rfl,h2,h3,h4⟩:=hq;exact⟨.inl ⟨.bool true,.bool true,[],rfl,fun _=>rfl,.bool true,vU l _,fun _=>⟨List.Pairwise.nil,fun _ hm=>(nomatch hm)⟩⟩,h2,h3,h4⟩
end Att
namespace L2
open PySem PySem.Spec PyProof.Rows
section
variable{X:Cx}{pos:Pos}
instance (n:Int):Decidable (Few n):=by unfold Few;exact inferInstance
def ik(i j:Int):Prop:=jO i j∨(Few i/\Few j)
instance:∀i j,Decidable (ik i j):=fun i j=>Classical.propDecidable _
theorem ik.ok{i j:Int}(h:ik i j):IntMulOk i j:=by
 rcases h with h|⟨a,b⟩
 ·exact h.ok
 ·exact .of_bits a b
theorem zN:OpR X (P2 .Mult) (rI ik fun i j=>.int (i*j)):=opI fun _ _ _ _ _ _ _ hc q=>mul_int q hc.ok
theorem sN:bM X (P2 .Mult) (iOp fun i j=>if ik i j then some (.int (i*j))else none):=uw (fun _ _=>rfl) zN
theorem AA{K:o0}{M:DH}{H:Hp}{a b:D}{xs:List V}(h:P5 (aX K M H) [a,b] xs):∃v w,xs=[v,w]/\aX K M H a v/\aX K M H b w:=by
 cases h with
 |cons r t =>
  cases t with
  |cons r2 t2=>cases t2;exact⟨_,_,rfl,r,r2⟩
def dmD:List D->Option D
 |[.int i,.int j]=>if o3 i j then some (.tup [.int (i / j),.int (i % j)])else none
 |_=>none
theorem yB:bK X (.builtin "divmod") dmD:=bK.of qP fun H M xs ds dz Q hr rp e q=>by
 unfold dmD at e
 split at e
 ·rename_i i j
  by_cases hc:o3 i j
  ·rw[if_pos hc]at e;cases e;obtain⟨v,w,rfl,r1,r2⟩:=AA rp;rw[fC r1,fC r2];refine⟨i,j,rfl,hc,fun p hp=>?_⟩;exact jJ hr hp (ar.cons (by simp[Rep]) (ar.cons (by simp[Rep]) ar.nil)) q
  ·rw[if_neg hc]at e;cases e
 ·cases e
noncomputable def C2:List D->Option D
 |[.int i,.int j]=>some (.int (if j > i then j else i))
 |_=>none
theorem EV(hc:X.calm=true):bK X (.builtin "max") C2:=bK.of (vC hc) fun H M xs ds dz Q hr rp e q=>by
 unfold C2 at e
 split at e
 ·rename_i i j;cases e;obtain⟨v,w,rfl,r1,r2⟩:=AA rp;rw[fC r1,fC r2];exact⟨i,j,rfl,q _ H (Ext.refl _ _) hr (by simp[Rep])⟩
 ·cases e
def A6(n:Nat) (to ti te:TEd):TSd:=fun E Δ M=>te Δ M fun d M1=>∃d1 d2,d=.tup [d1,d2]/\to Δ M1 fun o M2=>ti Δ M2 fun i M3=>∃a ds k j,o=.ref a/\i=.int k/\M3 a=some (.lst ds)/\ixN ds.length k=some j/\E.nx (Δ.set n (some d2)) (aw M3 a (.lst (ds.set j d1)))
theorem B4{n:Nat}{x:Str}{o i e:J5}{to ti te:TEd}{p px pt:Pos}{kx:Nat}(hc:X.calm=true) (hN:X.N.Nodup) (hn:X.N[n]?=some x) (hx:Loc X.env.scope x) (ho:QEd X o to) (hi:QEd X i ti) (he:QEd X e te)
  (hf:X.fn x=true∨X.env.scope.names.lookup x=some .local:=by first|exact .inl rfl|exact .inr rfl|assumption)
  (ha:∀ v,U0 (.Subscript o i p) X.env v = (do
   let ov <-ab2 [v] (T8 o X.env)
   let iv <-ab2 [v,ov] (T8 i X.env)
   standAt p
   ab2 [v,ov,iv] (setItem ov iv v)
   release [v,ov,iv] []):=by intro _;rfl)
  (hs1:(M9 [.Subscript o i p,.Name x px] X.env).map (·.2)=U0 (.Subscript o i p) X.env::(M9 [.Name x px] X.env).map (·.2):=by rfl)
  (hs2:(M9 [.Name x px] X.env).map (·.2)=U0 (.Name x px) X.env::(M9 [] X.env).map (·.2):=by rfl)
  (hl2:(M9 [.Subscript o i p,.Name x px] X.env).length=2:=by rfl) (hst:(M9 [.Subscript o i p,.Name x px] X.env).findIdx? (·.1)=none:=by rfl)
  (hs:swapsWithSole [.Tuple [.Subscript o i p,.Name x px] kx pt] e pos.line X.env=V2 false:=by rfl) (hw:swappedStores [.Tuple [.Subscript o i p,.Name x px] kx pt] e X.env=V2 none:=by rfl)
  (h1:(M9 [.Tuple [.Subscript o i p,.Name x px] kx pt] X.env).map (·.2)=[U0 (.Tuple [.Subscript o i p,.Name x px] kx pt) X.env]:=by rfl):QSd X (.Assign [.Tuple [.Subscript o i p,.Name x px] kx pt] e pos) (A6 n to ti te):=by
 simp only[QEd.eq,QSd.eq]at *
 exact(xu he (sd hc (iS (Dd ho hi yp ha) (iS (kZ hN hn hx hf) pj hs2) hs1) hl2 hst) hs hw h1).conv fun D σ H hup=>hup.el fun Δ M E sr hr q k=>⟨Δ,M,_,sr,hr,q,fun d M1 v H1 ⟨d1,d2,ed,q1⟩ e1 hr1 rv=>by
   subst ed;simp only[Rep]at rv;obtain⟨ad,vs,rfl,ta,rl⟩:=rv;simp only[ar]at rl;obtain⟨v1,r1,rfl,h3,v2,r2,rfl,h4,rfl⟩:=rl;refine⟨ad,[v1,v2],rfl,ta.sq,rfl,v1,[v2],rfl,Δ,M1,_,sr.ext e1,hr1,q1,fun o M2 ov H2 q2 e2 hr2 ro=>⟨Δ,M2,_,(sr.ext e1).ext e2,hr2,q2,fun i M3 iv H3 ⟨a,ds,kk,j,eo,ei,em,ej,q3⟩ e3 hr3 ri=>by
   subst eo;subst ei;simp only[Rep]at ro ri;subst ro;subst ri;obtain⟨vs,hv,rl⟩:=hr3 a _ em;refine⟨a,vs,kk,j,rfl,rfl,hv,by rw[<-rl.length];exact ej,v2,[],rfl,rfl,?_⟩;exact k.nx _ _ _ _ q3 (((e1.trans e2).trans e3).trans (Ext.write em)) (hr3.write em (rl.set j ((h3.ext e2).ext e3))) (((((sr.ext e1).ext e2).ext e3).ext (Ext.write em)).set n (((h4.ext e2).ext e3).ext (Ext.write em)))⟩⟩⟩
end
open AutoSeq1 (wpAny_loadPart')
section
variable{prog:L5}{w:P6}{A:N3}{E:u8->F1->Prop}{s:F1}
theorem kH(l:F9) (its:Array u8) (n:Nat) (dct:Option F9) (sl:Array (Option u8)) :
  Meets (J3.«enumerate.__new__» ⟨[.type "enumerate",.ref l],[]⟩) (fun _ R s=>s.heap.get? l=some { cls:=.type "tuple",dict:=dct,data:=.seq its n,slots:=sl } /\
   R (.ok (.ret (.ref (s.heap.push { cls:=.type "tuple_iterator",data:=.fields #[.ref l,.int 0 0] }).objs.size)))
    { s with heap:=(s.heap.push { cls:=.type "tuple_iterator",data:=.fields #[.ref l,.int 0 0] }).push { cls:=.type "enumerate",data:=.fields #[.none,.bool false,.ref s.heap.objs.size,Z3 0,.none,.none] } }) :=
 .of_wp fun prog w A R s h=>by
  obtain⟨hp,g,d,tk,os⟩:=s;have hl:=h.1;have hR:=h.2;have hsb:=sub_enumerate;have hT:K4.IsTuple (F1.heap ⟨hp,g,d,tk,os⟩) l its:=⟨_,hl,rfl,n,rfl⟩
  wp_walk using V0 hl
  refine wpAny_stack_any fun st=>F4 ?_
  split
  ·rename_i c _ _ _ _ _;cases(c==ac1 "enumerate")<;>(wp_walk using V0 hl,wpAny_pyIter_tuple hT;exact⟨_,rfl,hR⟩)
  ·wp_walk using V0 hl,wpAny_pyIter_tuple hT
   exact⟨_,rfl,hR⟩
theorem kK{l:F9}{its:Array u8}{Q:u8->F1->Prop}(hL:s.heap.IsTuple l its)
  (h:∀ h',IsEnum h' (s.heap.objs.size + 1) s.heap.objs.size 0 .none → h'.IsTupleIter s.heap.objs.size l 0 → h'.objs.size = s.heap.objs.size + 2 →
   (∀b o,s.heap.get? b=some o->h'.get? b=some o)->Q (.ref (s.heap.objs.size+1)) { s with heap:=h' }) :
  J4 (K3 prog w) A (call (.type "enumerate") [.ref l]) Q E s:=by
 obtain⟨⟨c,dct,dt,sl⟩,hl,hc,n,hd⟩:=hL;obtain rfl:c=.type "tuple":=hc;obtain rfl:dt=.seq its n:=hd;refine callType_new F.called_enumerate (by decide) (F.typeCall_enumerate_1 _) (F.newCall_enumerate_1 _) (fun ob=>F.args_object_init_2 ob _) F.entry_enumerate_new (kH l its n dct sl) ⟨hl,?_⟩;have hz:(s.heap.push { cls:=.type "tuple_iterator",data:=.fields #[.ref l,.int 0 0] }).objs.size=s.heap.objs.size+1:=R5 ..;show _/\_;rw[hz];have he:IsEnum ((s.heap.push { cls:=.type "tuple_iterator",data:=.fields #[.ref l,.int 0 0] }).push { cls:=.type "enumerate",data:=.fields #[.none,.bool false,.ref s.heap.objs.size,Z3 0,.none,.none] }) (s.heap.objs.size+1) s.heap.objs.size 0 .none:=by
  have q:=F7 (s.heap.push { cls:=.type "tuple_iterator",data:=.fields #[.ref l,.int 0 0] }) (o:={ cls:=.type "enumerate",data:=.fields #[.none,.bool false,.ref s.heap.objs.size,Z3 0,.none,.none] }) rfl
  rwa [hz]at q
 exact⟨⟨_,he,rfl⟩,h _ he ⟨_,F0 _ (F7 _ rfl),rfl,rfl⟩ (by rw[R5,hz]) fun b o x=>F0 _ (F0 _ x)⟩
theorem kC{it t:F9}{i:Nat}{its}{x:u8}{Q:u8->F1->Prop}(hit:s.heap.IsTupleIter it t i) (ht:s.heap.IsTuple t its) (hx:its[i]?=some x)
  (hQ:∀h',h'.IsTupleIter it t (i+1)->N8 it s.heap h'->Q x { s with heap:=h' }):J4 (K3 prog w) A (R6 (.ref it)) Q E s:=by
 obtain⟨o,ho,hc,hd⟩:=id hit;obtain⟨ol,hol,_,nl,hdl⟩:=ht;unfold R6;refine s0 (N6 (name:=U4 "__next__") hit.typeIs Q7 (P3 Q7 hit.typeIs F.entry_tuple_iterator_next ?_ (F.args_tuple_iterator_next_1 _)));show J4 _ _ (field (.ref it) 0 >>= _) _ _ s;refine s0 (O4 ho hd (x:=.ref t) rfl ?_);show J4 _ _ (if(P8 t==V3)=true then _ else _) _ _ s;rw[if_neg (show ¬ ((P8 t==V3)=true)from L4)];show J4 _ _ (field (.ref it) 1 >>= _) _ _ s;refine s0 (O4 ho hd (x:=.int i 0) rfl ?_);show J4 _ _ (seqItems? (.ref t) >>= _) _ _ s;refine s0 (wpAny_seqItems hol hdl ?_);simp only[Int.toNat_natCast,hx];refine s0 (V8 ho hd (by simp) (F4 ⟨x,rfl,F4 (hQ _ ?_ (S7 ..))⟩));exact⟨_,T2 _ ho (Obj.isFreed_of_fields (R1 hd _)),(Obj.cls_mapFields ..).trans hc,by rw[R1 hd];simp[Z3]⟩
theorem lw{it t:F9}{i:Nat}{its}{Q:u8->F1->Prop}(hh:A.handled=none) (hit:s.heap.IsTupleIter it t i) (ht:s.heap.IsTuple t its) (hx:its[i]?=none)
  (hE:∀h' e,K4.ExtBut it s.heap h'->(∃o,h'.get? e=some o/\o.cls=.type "StopIteration")->E (.ref e) { s with heap:=h' }):J4 (K3 prog w) A (R6 (.ref it)) Q E s:=by
 obtain⟨o,ho,hc,hd⟩:=id hit;obtain⟨ol,hol,_,nl,hdl⟩:=ht;unfold R6;refine s0 (N6 (name:=U4 "__next__") hit.typeIs Q7 (P3 Q7 hit.typeIs F.entry_tuple_iterator_next ?_ (F.args_tuple_iterator_next_1 _)));show J4 _ _ (field (.ref it) 0 >>= _) _ _ s;refine s0 (O4 ho hd (x:=.ref t) rfl ?_);show J4 _ _ (if(P8 t==V3)=true then _ else _) _ _ s;rw[if_neg (show ¬ ((P8 t==V3)=true)from L4)];show J4 _ _ (field (.ref it) 1 >>= _) _ _ s;refine s0 (O4 ho hd (x:=.int i 0) rfl ?_);show J4 _ _ (seqItems? (.ref t) >>= _) _ _ s;refine s0 (wpAny_seqItems hol hdl ?_);simp only[Int.toNat_natCast,hx];refine s0 (wpAny_rule (s0 (V8 ho hd (by simp) ?_)));show J4 _ _ (newExc (.type "StopIteration") [] >>= _) _ _ _;refine s0 ?_;simp only[newExc,newTuple];refine s0 (K0 ?_ (by size_fits));refine s0 (m:=Z1 _ _) (T5 (a:=V3) (by first|rfl|(simp only[Z1];rfl)) ?_);refine K0 ?_ (by size_fits);simp only[raiseNew];refine s0 (wpAny_handled ?_)
 first|rw[show A.in1.handled=none from hh]|rw[hh]
 refine s0 (F4 (wpAny_throw ?_));exact hE _ _ (((S7 ..).extBut.push _).push _) ⟨_,F7 _ rfl,rfl⟩
theorem vR{prog:L5}{w:P6}{A:N3}(hh:A.handled=none) (it l:F9) (hne:l≠it) (its:Array u8) :
  Draws prog w A it [it,l] its.size (fun i v=>its[i]?=some v) (fun i h=>h.IsTupleIter it l i/\h.IsTuple l its) where
 live:=fun _ _ st=>let⟨o,ho,_⟩:=st.1;⟨o,ho⟩
 frame:=fun _ _ _ st hk=>⟨let⟨o,ho,r⟩:=st.1;⟨o,hk it (by simp) o ho,r⟩,let⟨o,ho,r⟩:=st.2;⟨o,hk l (by simp) o ho,r⟩⟩
 item:=fun i s Q E hi st hQ=>kC st.1 st.2 (x:=its[i]) (by simp[hi]) fun h' hit' hs'=>hQ _ h' s.toks (by simp[hi]) ⟨hit',st.2.extBut hs'.extBut hne⟩ hs'
 done:=fun s Q E st hE=>lw hh st.1 st.2 (by simp) hE
end
section
variable{X:Cx}{ag:List (F9×Obj)}{σ:St}{H:Hp}{s:F1}{h':K4}
theorem Inv.turned2{t':Nat}{e it:F9}(I:Inv X ag σ H s) (k:∀b o,b≠e->b≠it->s.heap.get? b=some o->h'.get? b=some o) (f1:cV X ag H e) (f2:cV X ag H it):Inv X ag σ H { s with heap:=h',toks:=t' }:=by
 obtain⟨a0,a1,a2,a3,a4,a5⟩:=f1;obtain⟨b0,b1,b2,b3,b4,b5⟩:=f2;have nit:∀b u,H b=some u->b≠e/\b≠it:=fun b u q=>⟨fun z=>(by rw[z,a0]at q;cases q),fun z=>(by rw[z,b0]at q;cases q)⟩;have kk:∀b o,b∉[e,it]->s.heap.get? b=some o->h'.get? b=some o:=fun b o hc q=>k b o (fun z=>hc (by simp[z])) (fun z=>hc (by simp[z])) q;refine I.step (g':=s.gens) (d':=s.drawn) (ch:=[e,it]) (fun b hb=>?_) (fun b o _ _ hc q _=>kk b o hc q) (fun b o _ _ hc q _=>⟨o.slots,kk b o hc q⟩) (fun _ _ _ _ n=>n)
  (fun b o hc q=>⟨o,kk b o hc q⟩) (fun _ _ q=>q) (fun _ _ _ q=>q) (fun b ps q=>⟨#[],by rw[q];simp⟩) (fun m hm=>?_) (fun b u q=>?_) I.bare
 ·rcases N5.mp hb with z|z
  ·subst z;exact⟨a3,a1,a4,a5⟩
  ·have z:=N1.mp z;subst z;exact⟨b3,b1,b4,b5⟩
 ·obtain⟨o,es,ep,ho,r⟩:=hm;exact⟨o,es,ep,k _ o (W6 a1) (W6 b1) ho,r⟩
 ·refine(I.hok b u q).stay (fun c v hc q'=>?_) (fun _ q=>q) fun _ _ q=>q;rcases hc with z|z
  ·rw[z]at q' ⊢;exact k _ _ (nit b u q).1 (nit b u q).2 q'
  ·exact k c v (nit c _ z).1 (nit c _ z).2 q'
end
def m7(b:Bool) (K:o0) (H:Hp) (a:F9) (xs:List V):Prop:=match b with|true=>SqT K H a xs|false=>SqL K H a xs
def qb(b:Bool) (h:K4) (it a:F9) (i:Nat):Prop:=match b with|true=>h.IsTupleIter it a i|false=>h.IsListIter it a i
def Ef(b:Bool):String:=match b with|true=>"tuple_iterator" |false=>"list_iterator"
theorem qb.obj{b:Bool}{h:K4}{it a:F9}{i:Nat}(st:qb b h it a i):∃o,h.get? it=some o/\o.cls=.type (Ef b)/\o.data=.fields #[.ref a,.int i 0]:=by
 cases b<;>exact st
theorem qb.of{b:Bool}{h:K4}{it a:F9}{i:Nat}(st:∃o,h.get? it=some o/\o.cls=.type (Ef b)/\o.data=.fields #[.ref a,.int i 0]):qb b h it a i:=by
 cases b<;>exact st
theorem pK{X:Cx}{ag:List (F9×Obj)}{σ:St}{H:Hp}{s:F1}{b:Bool}{a it:F9}{i:Nat}{xs:List V}(hc:X.calm=true) (I:Inv X ag σ H s) (hq:m7 b X.K H a xs) (hit:qb b s.heap it a i) :
  ∃(its:List u8) (St:Nat->K4->Prop),aB xs its/\Draws X.prog X.w X.A.in1 it [it,a] its.toArray.size (fun i v=>its.toArray[i]?=some v) St/\St i s.heap/\(∀j h,St j h->qb b h it a j)/\∃o,s.heap.get? a=some o/\o.cls≠.type "enumerate":=by
 cases b with
 |true =>
  obtain⟨its,rv,p,hz⟩:=I.tuple hq;have hT:s.heap.IsTuple a its.toArray:=p;have hal:a≠it:=fun z=>by
   obtain⟨o,q,c,_⟩:=hT;obtain⟨o',q',c',_⟩:=hit;rw[z,q']at q;cases q;rw[c']at c;exact absurd c (by decide)
  obtain⟨o,q,c,_⟩:=id hT;exact⟨its,_,rv,vR (A:=X.A.in1) (I.ok.hd hc) it a hal its.toArray,⟨hit,hT⟩,fun j h st=>st.1,o,q,by rw[c];decide⟩
 |false =>
  obtain⟨its,rv,p,hz⟩:=I.list hq;have hT:s.heap.IsList a its.toArray:=p.isList;have hal:a≠it:=fun z=>by
   obtain⟨o,q,c,_⟩:=hT;obtain⟨o',q',c',_⟩:=hit;rw[z,q']at q;cases q;rw[c']at c;exact absurd c (by decide)
  obtain⟨o,q,c,_⟩:=id hT;exact⟨its,_,rv,Draws.list (A:=X.A.in1) (I.ok.hd hc) it a hal its.toArray,⟨hit,hT⟩,fun j h st=>st.1,o,q,by rw[c];decide⟩
theorem m7.inj{X:Cx}{ag:List (F9×Obj)}{σ:St}{H:Hp}{s:F1}{b:Bool}{a:F9}{xs ys:List V}(I:Inv X ag σ H s) (h:m7 b X.K H a xs) (h':m7 b X.K H a ys):xs=ys:=by
 cases b with
 |true=>exact I.tuple_inj h h'
 |false=>exact I.list_inj h h'
def Ite(b:Bool) (K:o0) (a:F9) (n:Nat):It :=
 ⟨fun i H=>(∃xs,m7 b K H a xs/\xs.length=n)/\i<n,fun i H x H'=>∃T y,x=.ref T/\H T=none/\H'=upd H T (.tup [.int i,y])/\∀xs,m7 b K H a xs->xs[i]?=some y,fun i H=>(∃xs,m7 b K H a xs/\xs.length=n)/\n<=i⟩
theorem cV.upd{X:Cx}{ag:List (F9×Obj)}{H:Hp}{b T:F9}{o:HO}(f:cV X ag H b) (h:b≠T):cV X ag (upd H T o) b:=by
 obtain⟨f0,r⟩:=f;exact⟨by rw[aA h];exact f0,r⟩
theorem vq{P:L5}{w:P6}{K:o0}{elts:List J5}{x1:Nat}{pt:Pos}(b:Bool) (a e it:F9) (n:Nat):iD P w K (.Tuple elts x1 pt) (Ite b K a n) [e,it] e (fun i h=>(∃old,IsEnum h e it i old)/\qb b h it a i/\e≠it/\i<=n) where
 mem:=by simp
 obj:=fun i h st c hb=>by
  rcases N5.mp hb with z|z
  ·subst z;obtain⟨⟨old,q⟩,_⟩:=st;exact⟨_,q,fun v z=>by cases z⟩
  ·have z:=N1.mp z;subst z;obtain⟨_,st,_⟩:=st;obtain⟨o,q,_,d⟩:=st.obj;exact⟨o,q,fun v z=>by rw[d]at z;cases z⟩
 keep:=fun i h h' st k=>by
  obtain⟨⟨old,q⟩,st,ne,le⟩:=st;obtain⟨o,q2,r⟩:=st.obj;exact⟨⟨old,k e (by simp) _ q⟩,.of ⟨o,k it (by simp) o q2,r⟩,ne,le⟩
 item:=by
  intro X hP hw hK hc i ag s σ H E I hf st hg;subst hP hw hK;obtain⟨⟨xs,hq,hxl⟩,hin⟩:=hg;have hx:xs[i]?=some (xs[i]'(by lia)):=by simp[hxl,hin]
  generalize xs[i]'(by lia)=x at hx;obtain⟨⟨old,he⟩,hit,hne,hle⟩:=st;obtain⟨its,St,rv,dr,hst0,hback,ob,hob,hcl⟩:=pK hc I hq hit;obtain⟨u,hu,ru⟩:=rv.get hx;have hea:e≠a:=fun z=>by
   rw[<-z,he]at hob;cases hob;exact hcl rfl
  have fe:=hf e (by simp);have fi:=hf it (by simp);have hlt:i<its.toArray.size:=by
   have h1:=(L3.mp hu).1;simpa using h1
  have eT:e<s.heap.objs.size:=F5 he;have iT:it<s.heap.objs.size:=by obtain⟨o,q,_⟩:=hit.obj;exact F5 q
  refine wpAny_pyNext_enum_itemD dr he hst0 hlt hne (by simp[hne,hea]) fun y h1 tk hy hout hst hTn hsz hk=>?_;have ey:y=u:=by
   have h2:its[i]?=some y:=by simpa using hy
   rw[hu]at h2;cases h2;rfl
  subst ey;refine⟨_,rfl,?_⟩;have In:H s.heap.objs.size=none:=I.hok.fresh (F6 _);have I1:Inv X ag σ (upd H s.heap.objs.size (.tup [.int i,x])) { s with heap:=s.heap.push { cls:=.type "tuple",data:=.seq #[.int i tk,y] },toks:=tk+1 } :=
   I.laid (fun b o q=>F0 _ q) (F6 _) ⟨by simp only[S8,W8];rw[sizeLine_eq];decide,[.int i tk,y],.cons ⟨_,rfl⟩ (.cons ru .nil),⟨_,F7 s.heap rfl,rfl,⟨0,rfl⟩,rfl⟩⟩
  have fe1:cV X ag (upd H s.heap.objs.size (.tup [.int i,x])) e:=fe.upd (H0 eT);have fi1:cV X ag (upd H s.heap.objs.size (.tup [.int i,x])) it:=fi.upd (H0 iT);have I2:Inv X ag σ (upd H s.heap.objs.size (.tup [.int i,x])) { s with heap:=h1,toks:=tk+1 }:=I1.turned2 (t':=tk+1) (fun b o hb1 hb2 q=>by
   by_cases hbs:b=s.heap.objs.size
   ·subst hbs;rw[F7 s.heap rfl]at q;cases q;exact hTn
   ·refine hk b o hb1 hb2 ?_;rcases K4.get?_push_cases q with z|z
    ·exact absurd z.1 hbs
    ·exact z) fe1 fi1
  refine wpAny_letOwnedTupleGo_enum hout fun h2 he2 hs2=>?_;obtain⟨g0,g1,g2,g3,g4,g5⟩:=fe1;have I3:=I2.turned (t':=tk+1) (h':=h2) (it:=e) (fun b o hb q=>(hs2.2 b hb).trans q) g0 g1 g3 g4 g5;refine⟨.ref s.heap.objs.size,_,I3,rfl,⟨_,x,rfl,In,rfl,fun ys hys=>by rw[m7.inj I hys hq];exact hx⟩,⟨⟨y,by simpa using he2⟩,?_,hne,hin⟩,fun b hb=>?_⟩
  ·obtain⟨o,q,r⟩:=(hback _ _ hst).obj;exact .of ⟨o,(hs2.2 it (W6 hne)).trans q,r⟩
  ·rcases N5.mp hb with z|z
   ·subst z;exact g0
   ·rw[N1.mp z];exact fi1.1
 done:=by
  intro X hP hw hK hc i ag s σ H E I hf st hg;subst hP hw hK;obtain⟨⟨xs,hq,hxl⟩,hx⟩:=hg;obtain⟨⟨old,he⟩,hit,hne,hle⟩:=st;obtain⟨its,St,rv,dr,hst0,_⟩:=pK hc I hq hit;obtain⟨f0,f1,f2,f3,f4,f5⟩:=hf it (by simp);have hl:=rv.length;have hi:i=its.toArray.size:=by simp;lia
  rw[hi]at hst0;exact wpAny_pyNext_enum_endD dr he hst0 fun h' eb=>⟨rfl,I.turned (t':=s.toks) (fun b o hb q=>eb b o hb q) f0 f1 f3 f4 f5⟩
 self:=fun _ _ _ _ _ st h=>by
  obtain⟨⟨old,he⟩,_⟩:=st;exact wpAny_pyIter_enum he h
section
variable{X:Cx}{a:J5}{t:TAd}{pos:Pos}
def lK(n:Nat):List D->List D
 |[]=>[]
 |d::r=>.tup [.int n,d]::lK (n+1) r
theorem mS:∀(ds:List D) (n i:Nat),(lK n ds)[i]?=(ds[i]?).map fun d=>.tup [.int ((n+i:Nat):Int),d]
 |[],n,i=>by simp[lK]
 |d::r,n,0=>by simp[lK]
 |d::r,n,i+1=>by
  simp only[lK,List.getElem?_cons_succ];rw[mS r (n+1) i];have:n+1+i=n+(i+1):=by lia
  rw[this]
theorem jm:∀(ds:List D) (n:Nat),(lK n ds).length=ds.length
 |[],_=>rfl
 |d::r,n=>by simp[lK,jm r (n+1)]
def sqD(b:Bool) (es:List D):D:=match b with|true=>.tup es|false=>.lst es
def zq(b:Bool) (ta:TAd):TId:=fun Δ M R=>ta Δ M fun ds M1=>∃es,ds=[sqD b es]/\(es.length<=F2->R (lK 0 es) M1)
def uJ(ta:TAd):TId:=fun Δ M R=>ta Δ M fun ds M1=>∃es,ds=[.lst es]/\(es.length<=F2->R (lK 0 es) M1)
theorem B7{K:o0}{M:DH}{H:Hp}{b:Bool}{es:List D}{v:V}(h:Rep K M H (sqD b es) v):∃a vs,v=.ref a/\ar K M H es vs/\∀M2 H2,Ext M H M2 H2->m7 b K H2 a vs:=by
 cases b with
 |true =>
  simp only[sqD,Rep]at h;obtain⟨a,vs,e,ta,rl⟩:=h;exact⟨a,vs,e,rl,fun M2 H2 x=>(ta.ext x).sq⟩
 |false =>
  simp only[sqD,Rep]at h;obtain⟨a,vs,e,ta,rl⟩:=h;exact⟨a,vs,e,rl,fun M2 H2 x=>SqL.of (x _ _ ta.1 ta.2).1⟩
theorem rQ{prog:L5}{w:P6}{A:N3}{E:u8->F1->Prop}{X:Cx}{ag:List (F9×Obj)}{σ:St}{H:Hp}{s:F1}{b:Bool}{l:F9}{xs:List V}{Q:u8->F1->Prop}(I:Inv X ag σ H s) (hq:m7 b X.K H l xs)
  (h:∀ h',IsEnum h' (s.heap.objs.size + 1) s.heap.objs.size 0 .none → qb b h' s.heap.objs.size l 0 → h'.objs.size = s.heap.objs.size + 2 →
   (∀b o,s.heap.get? b=some o->h'.get? b=some o)->Q (.ref (s.heap.objs.size+1)) { s with heap:=h' }):J4 (K3 prog w) A (call (.type "enumerate") [.ref l]) Q E s:=by
 cases b with
 |true =>
  obtain⟨its,rv,p,hz⟩:=I.tuple hq;exact kK (show s.heap.IsTuple l its.toArray from p) h
 |false =>
  obtain⟨its,rv,p,hz⟩:=I.list hq;exact call_enumerate_list p.isList h
theorem lN:Q9 "enumerate"=some (.type "enumerate"):=by kernel_rfl
theorem Am{b:Bool}{elts:List J5}{x1:Nat}{pt p:Pos}(hg:Gl X "enumerate") (hm:X.mg "enumerate"=none) (ha:PAd X [a] t) (hs:J1 [a] X.env=[(false,T8 a X.env)]:=by rfl):PId X (.Tuple elts x1 pt) (.Call (.Name "enumerate" p) [a] [] pos) (zq b t):=by
 intro ag s σ H R I hh;obtain⟨Δ,M,R',sr,hr,q,k⟩:=hh;refine Call_ (dI I hg hm lN (N2 (thn (ha pos ag s σ H (fun vs H1=>∃es M1,ar X.K M1 H1 [sqD b es] vs/\(es.length<=F2->R' (lK 0 es) M1)/\Ext M H M1 H1/\HR X.K M1 H1) I ⟨Δ,M,_,sr,hr,q,fun ds M1 vs H1 ⟨es,ed,q1⟩ e1 hr1 rv=>⟨es,M1,by rw[<-ed];exact rv,q1,e1,hr1⟩⟩) fun us s1 ⟨vs,H1,I1,r1,es,M1,rv,q1,e1,hr1⟩=>?_) hs rfl));obtain⟨v,rfl,rt⟩:=rv.one;cases r1 with
 |cons r rr =>
  cases rr;obtain⟨ad,vs,rfl,rl,ta⟩:=B7 rt;cases r;have lo:es.length<=F2:=by
   have hq:=ta _ _ (Ext.refl _ _);rw[rl.length];cases b with
   |true=>exact(I1.tuple hq).choose_spec.2.2
   |false=>exact(I1.list hq).choose_spec.2.2
  have hl2:=rl.length;refine rQ I1 (ta _ _ (Ext.refl _ _)) fun h' he hit hsz hk=>?_;refine wpAny_pyIter_enum he ?_;refine⟨s1.heap.objs.size+1,[s1.heap.objs.size+1,s1.heap.objs.size],_,_,H1,rfl,I1.kept (t':=s1.toks) hk,vq b ad _ _ es.length,⟨⟨_,he⟩,hit,Nat.succ_ne_self _,R4 _⟩,fun b' hb=>?_,?_⟩
  ·rcases N5.mp hb with z|z
   ·subst z;exact I1.fpOk (by lia) (I1.hok.fresh (by lia))
   ·rw[N1.mp z];exact I1.fpOk (F6 _) (I1.hok.fresh (F6 _))
  ·refine k _ M1 _ H1 (q1 lo) e1 hr1 fun M2 H2 e2 hr2 i=>⟨fun d hd=>?_,fun hl=>⟨⟨vs,(ta _ _ e2),by lia⟩,by rw[jm]at hl;exact hl⟩⟩;rw[mS]at hd;cases hdi:es[i]? with
   |none=>rw[hdi]at hd;cases hd
   |some d0 =>
    rw[hdi]at hd;have hd':D.tup [.int ((0+i:Nat):Int),d0]=d:=by simpa using hd
    subst hd';have hi:i<es.length:=(L3.mp hdi).1;obtain⟨v0,gv,r0⟩:=rl.get hdi;refine⟨⟨⟨vs,(ta _ _ e2),by lia⟩,hi⟩,fun x H' ⟨T,y,ex,hT,eH,hy⟩=>?_⟩;subst ex;subst eH;have hh:=hy vs (ta _ _ e2);rw[gv]at hh;cases hh;refine⟨Ext.new hr2 hT,hr2.new hT,?_⟩;simp only[Rep];refine⟨T,[.int i,v0],rfl,.inl ⟨.inl aG,hr2.fresh hT⟩,?_⟩;exact ar.cons (by simp[Rep]) (ar.cons ((r0.ext e2).ext (Ext.new hr2 hT)) ar.nil)
theorem xG{elts:List J5}{x1:Nat}{pt p:Pos}(hg:Gl X "enumerate") (hm:X.mg "enumerate"=none) (ha:QAd X [a] t) (hs:J1 [a] X.env=[(false,T8 a X.env)]:=by rfl):QId X (.Tuple elts x1 pt) (.Call (.Name "enumerate" p) [a] [] pos) (uJ t):=by
 simp only[QAd.eq,QId.eq]at *
 exact Am (b:=false) hg hm ha hs
end
section
variable{X:Cx}{pos:Pos}
theorem Dc{i j:Int}:dmD [.int i,.int j]=if o3 i j then some (.tup [.int (i / j),.int (i % j)])else none:=rfl
theorem zF{i j:Int}:C2 [.int i,.int j]=some (.int (if j > i then j else i)):=rfl
theorem xA:pS 10 60=True:=by simp[pS]
theorem rV{x:Int}(h0:-(10 ^ 60)<x) (h1:x<10 ^ 60):Few x:=by
 unfold Few;rw[intBits_le_iff];have h2:x.natAbs<10 ^ 60:=by lia
 exact F8 h2 (L7 (by decide:10 ^ 60<=2 ^ 200) (Nat.pow_le_pow_right (by decide) (by decide)))
theorem xc{i j:Int}(h:Few i/\Few j):ik i j=True:=by simp[ik,h]
end
section
variable{X:Cx}{e:J5}{te ts:TEd}{pos:Pos}
end
section
variable{κ:Type} [DecidableEq κ]
noncomputable def cn(kvs:List (κ×D)) (k:κ):Option D:=(kvs.find? fun kv=>decide (kv.1=k)).map (·.2)
noncomputable def kE(kvs:List (κ×D)) (k:κ) (v:D):List (κ×D) :=
 if(kvs.any fun kv=>decide (kv.1=k))=true then kvs.map (fun kv=>if kv.1=k then(kv.1,v)else kv)else kvs++[(k,v)]
theorem bP{p:κ×D}{r:List (κ×D)}{k:κ}(e:p.1=k):cn (p::r) k=some p.2:=by simp[cn,Q0,e]
theorem bQ{p:κ×D}{r:List (κ×D)}{k:κ}(e:¬ p.1=k):cn (p::r) k=cn r k:=by simp[cn,Q0,e]
theorem mz(k:κ):∀kvs:List (κ×D),(kvs.any fun kv=>decide (kv.1=k))=(cn kvs k).isSome
 |[]=>rfl
 |p::r=>by
  rw[O9]
  by_cases e:p.1=k
  ·simp only[bP e,decide_eq_true e,Bool.true_or,Option.isSome_some]
  ·rw[bQ e,decide_eq_false e,Bool.false_or];exact mz k r
theorem qJ(k j:κ) (y:D):∀kvs:List (κ×D),cn (kvs.map fun kv=>if kv.1=k then(kv.1,y)else kv) j=(cn kvs j).map fun x=>if j=k then y else x
 |[]=>rfl
 |p::r=>by
  have ih:=qJ k j y r;rw[N7]
  by_cases h:p.1=k
  ·rw[if_pos h]
   by_cases e:p.1=j
   ·rw[bP (p:=(p.1,y)) e,bP e,R7,if_pos (e.symm.trans h)]
   ·rw[bQ (p:=(p.1,y)) e,bQ e,ih]
  ·rw[if_neg h]
   by_cases e:p.1=j
   ·rw[bP (p:=p) e,bP e,R7,if_neg (fun z=>h (e.trans z))]
   ·rw[bQ (p:=p) e,bQ e,ih]
theorem nv(k j:κ) (y:D):∀kvs:List (κ×D),cn kvs k=none->cn (kvs++[(k,y)]) j=if j=k then some y else cn kvs j
 |[],_=>by
  by_cases e:k=j
  ·rw[if_pos e.symm];exact bP (p:=(k,y)) e
  ·rw[if_neg (fun z=>e z.symm)];exact bQ (p:=(k,y)) e
 |p::r,hn=>by
  rw[List.cons_append];have hk:¬ p.1=k:=fun z=>by rw[bP z]at hn;cases hn
  rw[bQ hk]at hn;have ih:=nv k j y r hn
  by_cases e:p.1=j
  ·rw[bP e,bP e,if_neg (fun z=>hk (e.trans z))]
  ·rw[bQ e,bQ e,ih]
theorem fA(kvs:List (κ×D)) (k j:κ) (y:D):cn (kE kvs k y) j=if j=k then some y else cn kvs j:=by
 unfold kE
 by_cases a:(kvs.any fun kv=>decide (kv.1=k))=true
 ·rw[if_pos a,qJ];rw[mz]at a
  by_cases e:j=k
  ·obtain⟨x,hx⟩:=O2.mp a;rw[if_pos e,e,hx,R7,if_pos rfl]
  ·rw[if_neg e];cases cn kvs j with
   |none=>rfl
   |some x=>rw[R7,if_neg e]
 ·rw[if_neg a];refine nv k j y kvs ?_;rw[mz]at a;cases q:cn kvs k with
  |none=>rfl
  |some x=>rw[q]at a;exact(a rfl).elim
theorem fc(kvs:List (κ×D)) (k:κ) (v:D):(kE kvs k v).length<=kvs.length+1:=by
 unfold kE
 split
 ·rw[X0];lia
 ·rw[L8,S8,W8];lia
variable{K:o0}{M:DH}{H:Hp}
theorem KR.val{kvs:List (κ×D)}{ks:List (κ×V)}(h:KR K M H kvs ks) (k:κ):(∀d,cn kvs k=some d->∃v,iP ks k=some v/\Rep K M H d v)/\(iP ks k).isSome=(cn kvs k).isSome:=by
 unfold KR at h
 induction h with
 |nil=>exact⟨fun d e=>(nomatch e),rfl⟩
 |@cons p q ps qs r t ih =>
  by_cases e:p.1=k
  ·rw[bP e,iZ (r.1.symm.trans e)];exact⟨fun d z=>(by cases z;exact⟨_,rfl,r.2⟩),rfl⟩
  ·rw[bQ e,jb (fun z=>e (r.1.trans z))];exact ih
theorem KR.any{kvs:List (κ×D)}{ks:List (κ×V)}(h:KR K M H kvs ks) (k:κ):(ks.any fun kv=>decide (kv.1=k))=kvs.any fun kv=>decide (kv.1=k):=by
 unfold KR at h
 induction h with
 |nil=>rfl
 |cons r _ ih=>rw[O9,O9,ih,r.1]
theorem KR.length{kvs:List (κ×D)}{ks:List (κ×V)}(h:KR K M H kvs ks):kvs.length=ks.length:=W1 h
theorem KR.put{kvs:List (κ×D)}{ks:List (κ×V)}(h:KR K M H kvs ks) (k:κ) {d:D}{v:V}(r:Rep K M H d v):KR K M H (kE kvs k d) (gq ks k v):=by
 unfold kE gq;rw[h.any k]
 by_cases e:(kvs.any fun kv=>decide (kv.1=k))=true
 ·rw[if_pos e,if_pos e];clear e;unfold KR at h ⊢
  induction h with
  |nil=>exact .nil
  |@cons p q ps qs r1 t ih =>
   rw[N7,N7];refine .cons ?_ ih
   by_cases e:p.1=k
   ·rw[if_pos e,if_pos (r1.1.symm.trans e)];exact⟨r1.1,r⟩
   ·rw[if_neg e,if_neg (fun z=>e (r1.1.trans z))];exact r1
 ·rw[if_neg e,if_neg e];exact P5.snoc h ⟨rfl,r⟩
end
def kD:Key->D
 |.inl i=>.int i
 |.inr x=>.str x
theorem B3{K:o0}{M:DH}{H:Hp}{k:Key}{v:V}(h:Rep K M H (kD k) v):v=kV k:=by
 cases k<;>simpa[kD,Rep,kV]using h
theorem i7{K:o0}{M:DH}{H:Hp}:∀{ks:List Key}{vs:List V},ar K M H (ks.map kD) vs->vs=ks.map kV
 |[],_,h=>by simpa[ar]using h
 |k::ks,_,h=>by
  simp only[N7,ar]at h;obtain⟨v,ws,rfl,h1,h2⟩:=h;rw[B3 h1,i7 h2];rfl
section
variable{X:Cx}{a b c e o i:J5}{es:List J5}{te to ti ta tb:TEd}{t:TAd}{pos:Pos}
def dDT:TEd:=fun _ M Q=>∀p,M p=none->Q (.ref p) (aw M p (.dT []))
def Be(to:TEd) (t:TAd):TEd:=fun Δ M Q=>to Δ M fun x M1=>t Δ M1 fun ds M2=>∃a kvs ks d,x=.ref a/\M2 a=some (.dT kvs)/\ds=ks.map kD/\ds.length<=F2/\cn kvs ks=some d/\Q d M2
theorem FA{K:o0}{te:TEd}{tv:TE}(h:∀ σ H Q,up K te σ H Q->tv σ H Q):∀ σ H Q,upT K (lO te) σ H Q->tB tv σ H Q:=fun σ H Q hup=>hup.el fun Δ M R sr hr q k =>
 h σ H _ ⟨Δ,M,_,sr,hr,q,fun d M1 v H1 ⟨b,e,q1⟩ e1 hr1 rv=>⟨b,by subst e;simpa only[Rep]using rv,k b M1 H1 q1 e1 hr1⟩⟩
def A2(to:TEd) (t:TAd) (te:TEd):TSd:=fun E Δ M=>te Δ M fun d M1=>to Δ M1 fun x M2=>t Δ M2 fun ds M3=>ds.length<=F2/\∃a kvs ks,x=.ref a/\M3 a=some (.dT kvs)/\ds=ks.map kD/\kvs.length<F2/\E.nx Δ (aw M3 a (.dT (kE kvs ks d)))
def yG(to:TEd) (t:TAd) (te:TEd):TEd:=fun Δ M Q=>to Δ M fun x M1=>∃a kvs0,x=.ref a/\M1 a=some (.dT kvs0)/\t Δ M1 fun ds M2=>ds.length<=F2/\te Δ M2 fun z M3=>∃kvs ks,M3 a=some (.dT kvs)/\ds=ks.map kD/\Q ((cn kvs ks).getD z) M3
end
section
variable{X:Cx}{a b c e o:J5}{es:List J5}{te to:TEd}{t:TAd}{pos:Pos}{tg:J5}
noncomputable def E9:List D->Option D
 |[.int i,.int j]=>some (.int (if j<i then j else i))
 |_=>none
noncomputable def bW:List D->Option (List Int)
 |[]=>some []
 |.int i::ds=>(bW ds).map (i::·)
 |_=>none
theorem iB:∀{ns:List Int},bW (ns.map D.int)=some ns
 |[]=>rfl
 |n::ns=>by simp[bW,iB (ns:=ns)]
def xg:D->Option D
 |.lst ds=>(bW ds).map fun ns=>.int ns.sum
 |_=>none
theorem oE{ns:List Int}:xg (.lst (ns.map D.int))=some (.int ns.sum):=by simp[xg,iB]
theorem nR{K:o0}{M:DH}{H:Hp}:∀{ds:List D}{ns:List Int}{vs:List V}{us:List u8},bW ds=some ns->ar K M H ds vs->aB vs us->∃xs:Array (Int×Tok),us.toArray=intItems xs/\xs.toList.map (·.1)=ns
 |[],_,_,_,e,h,r=>by
  simp only[bW,K9.injEq]at e;subst e;simp only[ar]at h;subst h;cases r;exact⟨#[],by simp[intItems],rfl⟩
 |.int i::ds,ns,vs,us,e,h,r=>by
  simp only[bW]at e;cases q:bW ds with
  |none=>rw[q]at e;cases e
  |some ms =>
   rw[q]at e;cases e;simp only[ar]at h;obtain⟨v,ws,rfl,h1,h2⟩:=h;simp only[Rep]at h1;subst h1;cases r with
   |@cons x u xs' us' r1 r2 =>
    obtain⟨t,rfl⟩:=r1;obtain⟨ys,e1,e2⟩:=nR q h2 r2;refine⟨(((i,t)::ys.toList)).toArray,?_,by simp[e2]⟩;have:us'=(intItems ys).toList:=by rw[<-e1]
    rw[this];simp[intItems]
 |.non::_,_,_,_,e,_,_=>by cases e
 |.bl _::_,_,_,_,e,_,_=>by cases e
 |.str _::_,_,_,_,e,_,_=>by cases e
 |.tup _::_,_,_,_,e,_,_=>by cases e
 |.lst _::_,_,_,_,e,_,_=>by cases e
 |.scr _::_,_,_,_,e,_,_=>by cases e
 |.emp::_,_,_,_,e,_,_=>by cases e
 |.box _ _::_,_,_,_,e,_,_=>by cases e
 |.ref _::_,_,_,_,e,_,_=>by cases e
theorem uF(hc:X.calm=true):bK X (.builtin "sum") (qA xg):=by
 intro ag s σ H M xs us ds dz Q I hr rv rp e k;obtain⟨d,rfl,e0⟩:=dX e;clear e;have e:=e0;clear e0;obtain⟨v,rfl,r⟩:=nK rp;obtain⟨u,rfl,ru⟩:=aB.one rv;cases d with
 |lst ds =>
  simp only[xg]at e;cases q:bW ds with
  |none=>rw[q]at e;cases e
  |some ns =>
   rw[q]at e;cases e;obtain⟨l,vs,rfl,sq,rl⟩:=r;cases ru;obtain⟨its,rv,pl,hz⟩:=I.list (SqL.of sq);obtain⟨ys,e1,e2⟩:=nR q rl rv;refine sum_intListG (xs:=ys) (I.ok.hd hc) (by rw[<-e1];exact pl.isList) fun h' tk t' kk=>?_;have I1:Inv X ag σ H { s with heap:=h',toks:=tk }:=I.kept (t':=tk) kk;refine⟨.int _,H,I1,⟨_,rfl⟩,k _ H (Ext.refl _ _) hr ?_⟩;have e3:preSum (numAt ys) ys.size=ns.sum:=by
    rw[preSum_eq,List.take_of_length_le (by simp),e2]
   rw[e3];simp[Rep]
 |_=>cases e
def EG(to:TEd):TEd:=fun Δ M Q=>to Δ M fun o M1=>∃a ds d,o=.ref a/\M1 a=some (.lst (ds++[d]))/\Q d (aw M1 a (.lst ds))
def D4(to te:TEd):TEd:=fun Δ M Q=>to Δ M fun o M1=>∃a l,o=.ref a/\M1 a=some (.lst l)/\te Δ M1 fun d M2=>∃ds ys,d=.lst ys/\M2 a=some (.lst ds)/\ds.length+ys.length<=F2/\Q .non (aw M2 a (.lst (ds++ys)))
def BZ(lo c:Int) (n:Nat):It:=⟨fun i _=>i<n,fun i H x H'=>H'=H/\x=.int (lo+i*c),fun i _=>n<=i⟩
theorem qH{P:L5}{w:P6}{K:o0}{tg:J5}(it:F9) (lo c:Int) (n:Nat):iD P w K tg (BZ lo c n) [it] it (fun i h=>ab3 h it (lo+(i:Nat)*c) ((n:Int)-(i:Nat)) c) where
 mem:=by simp
 obj:=fun i h st b hb=>by
  have e:b=it:=by simpa using hb
  subst e;exact⟨_,st,fun v z=>by
   have z':Data.fields _=Data.cell v:=z;cases z'⟩
 keep:=fun i h h' st k=>k it (by simp) _ st
 item:=by
  intro X hP hw hK hc i ag s σ H E I hf st hg;subst hP hw hK;obtain⟨f0,f1,f2,f3,f4,f5⟩:=hf it (by simp);have W:=Walks.range (prog:=X.prog) (w:=X.w) (I.ok.hd hc) it lo c n;refine W.item i s _ _ hg st fun v h' tk hv st' kk=>?_;obtain⟨t,rfl⟩:=hv;have I1:Inv X ag σ H { s with heap:=h',toks:=tk }:=I.turned (fun b o hb e=>kk b o (by simpa using hb) e) f0 f1 f3 f4 f5;exact⟨_,rfl,lH (s:={ s with heap:=h',toks:=tk }) (n:="range_iterator") st' rfl rfl (by decide) ⟨.int (lo+i*c),H,I1,⟨t,rfl⟩,⟨rfl,rfl⟩,st',fun b hb=>(hf b hb).1⟩⟩
 done:=by
  intro X hP hw hK hc i ag s σ H E I hf st hg;subst hP hw hK;obtain⟨f0,f1,f2,f3,f4,f5⟩:=hf it (by simp);exact wpAny_pyNext_range_end (I.ok.hd hc) st (by have:n<=i:=hg;omega) fun h' eb=>⟨rfl,I.turned (t':=s.toks) (fun b o hb e=>eb b o hb e) f0 f1 f3 f4 f5⟩
 self:=fun _ _ _ _ _ st h=>wpAny_pyIter_rangeiter st h
def szR(a b c:Int):Nat:=(O3 a b c).toNat
def Ee(ta:TA):TI:=fun σ H R=>ta σ H fun vs H1=>∃i j c:Int,vs=[.int i,.int j,.int c]/\c≠0/\(-(2 ^ 20)<=i/\i<2 ^ 20/\-(2 ^ 20)<=j/\j<2 ^ 20/\-(2 ^ 20)<=c/\c<2 ^ 20)/\J3.Range.small i j c=true/\R (BZ i c (szR i j c)) H1
theorem zC{a b c:Int}(hc:c≠0):0<=O3 a b c:=by
 unfold O3
 split
 ·split
  ·have:=Int.ediv_nonneg (a:=b-a-1) (b:=c) (by omega) (by omega);omega
  ·omega
 ·split
  ·have:=Int.ediv_nonneg (a:=a-b-1) (b:=-c) (by omega) (by omega);omega
  ·omega
theorem vD{ta:TA}{p:Pos}(hg:Gl X "range") (hm:X.mg "range"=none) (ha:PA X [a,b,c] ta) (hs:J1 [a,b,c] X.env=[(false,T8 a X.env),(false,T8 b X.env),(false,T8 c X.env)]:=by rfl)
  (hs2:J1 [b,c] X.env=[(false,T8 b X.env),(false,T8 c X.env)]:=by rfl):PI X tg (.Call (.Name "range" p) [a,b,c] [] pos) (Ee ta):=by
 intro ag s σ H R I h;refine Call_ (dI I hg hm boot_range (N2 (thn (ha pos ag s σ H _ I h) fun us s1 hup=>hup.el fun vs H1 I1 r1 q1=>?_) (by rw[hs,hs2]) (by rw[hs2];rfl)));obtain⟨i,j,st,e,hc,⟨b1,b2,b3,b4,b5,b6⟩,hsm,q⟩:=q1;subst e;cases r1 with
 |cons r rr =>
  cases rr with
  |cons r' rr =>
   cases rr with
   |cons r'' rr =>
    cases rr;obtain⟨t,rfl⟩:=r;obtain⟨t',rfl⟩:=r';obtain⟨t'',rfl⟩:=r'';refine call_range_3 hc ?_ (Or.inl (PyProof.noPylong_small (by omega)));refine wpAny_pyIter_range (IsRange.new ..) hsm ?_;have I2:Inv X ag σ H1 { s1 with heap:=s1.heap.push { cls:=.type "range",data:=.fields #[.int i t,.int j t',.int st t''] },toks:=s1.toks }:=I1.kept fun b o e=>F0 _ e;refine⟨(s1.heap.push { cls:=.type "range",data:=.fields #[.int i t,.int j t',.int st t''] }).objs.size,[(s1.heap.push { cls:=.type "range",data:=.fields #[.int i t,.int j t',.int st t''] }).objs.size],_,_,H1,rfl,
     I2.kept (t':=s1.toks) fun b o e=>F0 _ e,qH _ i st (szR i j st),?_,fun b hb=>?_,q⟩
    ·have e1:i+((0:Nat):Int)*st=i:=by simp
     have e2:((szR i j st:Nat):Int)-((0:Nat):Int)=O3 i j st:=by
      unfold szR;have:=zC (a:=i) (b:=j) hc;omega
     show ab3 _ _ (i+((0:Nat):Int)*st) (((szR i j st:Nat):Int)-((0:Nat):Int)) st;rw[e1,e2];exact F7 _ rfl
    ·have e:b=(s1.heap.push { cls:=.type "range",data:=.fields #[.int i t,.int j t',.int st t''] }).objs.size:=by simpa using hb
     subst e;exact I2.fpOk (F6 _) (I2.hok.fresh (F6 _))
def oR(lo c:Int) (n:Nat):List D:=(T7 n).map fun(k:Nat)=>.int (lo+(k:Int)*c)
theorem pQ{lo c:Int}{n i:Nat}{d:D}(h:(oR lo c n)[i]?=some d):i<n/\d=.int (lo+i*c):=by
 unfold oR at h;rw[P7]at h
 by_cases hi:i<n
 ·rw[List.getElem?_range hi]at h;cases h;exact⟨hi,rfl⟩
 ·rw[List.getElem?_eq_none (by simp;omega)]at h;cases h
theorem yW{K:o0}{lo c:Int}{n:Nat}{M1:DH}{H1:Hp}:ItD K (BZ lo c n) (oR lo c n) M1 H1:=fun M2 H2 e2 hr2 i=>⟨fun d hd=>by
  obtain⟨h1,rfl⟩:=pQ hd;refine⟨h1,fun x H' ⟨eH,y⟩=>?_⟩;subst eH;subst y;exact⟨Ext.refl _ _,hr2,by simp[Rep]⟩,fun hl=>by
  show n<=i;simpa[oR]using hl⟩
def yD(ta:TAd):TId:=fun Δ M R=>ta Δ M fun ds M1=>∃i j c:Int,ds=[.int i,.int j,.int c]/\(c=2∨c=-1)/\(-(2 ^ 20)<=i/\i<2 ^ 20/\-(2 ^ 20)<=j/\j<2 ^ 20)/\R (oR i c (szR i j c)) M1
theorem vw{a b c:Int}(hc:c=2∨c=-1) (ha:-(2 ^ 20)<=a) (ha':a<2 ^ 20) (hb:-(2 ^ 20)<=b) (hb':b<2 ^ 20):J3.Range.small a b c=true:=by
 unfold J3.Range.small O3;rcases hc with rfl|rfl
 ·simp only[J3.Range.rangeFitsLong,K1,Bool.or_eq_true,decide_eq_true_eq,beq_iff_eq,show(2:Int) > 0 by decide,if_true]
  split<;>omega
 ·simp only[J3.Range.rangeFitsLong,K1,Bool.or_eq_true,decide_eq_true_eq,beq_iff_eq,show ¬ (-1:Int) > 0 by decide,if_false,show(- (-1:Int))=1 from rfl,Int.ediv_one]
  split<;>omega
theorem ar.three{K:o0}{M:DH}{H:Hp}{d e f:D}{vs:List V}(h:ar K M H [d,e,f] vs):∃v w z,vs=[v,w,z]/\Rep K M H d v/\Rep K M H e w/\Rep K M H f z:=by
 simp only[ar]at h;obtain⟨v,us,rfl,h1,w,ws,rfl,h2,z,zs,rfl,h3,rfl⟩:=h;exact⟨v,w,z,rfl,h1,h2,h3⟩
end
theorem fY{x:Str}{c:F9}:∀{names:List (Str×J9)}{n:Nat}{acc:List (Str×F9)},(O6 n names acc).lookup x=some c->acc.lookup x=some c∨((x,P0)∈names/\n<=c)
 |[],_,_,h=>.inl h
 |(y,k)::r,n,acc,h=>by
  unfold O6 at h
  split at h
  ·rename_i hk;rcases fY h with z|z
   ·rw[J8]at z;cases q:x==y with
    |true =>
     rw[q]at z;have e1:n=c:=J6 z;have e2:x=y:=by simpa using q
     have e3:k=.cell:=by simpa using hk
     subst e1;subst e2;subst e3;exact .inr ⟨M0,F6 _⟩
    |false=>rw[q]at z;exact .inl z
   ·exact .inr ⟨K8 _ z.1,V5 z.2⟩
  ·rcases fY h with z|z
   ·exact .inl z
   ·exact .inr ⟨K8 _ z.1,z.2⟩
theorem sU:∀{names:List (Str×J9)}{n:Nat}{acc:List (Str×F9)},(∀x y c,acc.lookup x=some c->acc.lookup y=some c->x=y)->(∀x c,acc.lookup x=some c->c<n) ->
  ∀x y c,(O6 n names acc).lookup x=some c->(O6 n names acc).lookup y=some c->x=y
 |[],_,_,hi,_=>hi
 |(z,k)::r,n,acc,hi,hl=>by
  unfold O6
  split
  ·refine sU (fun x y c hx hy=>?_) (fun x c hx=>?_)
   ·rw[J8]at hx hy;cases q1:x==z with
    |true =>
     rw[q1]at hx;have e1:n=c:=J6 hx;subst e1;cases q2:y==z with
     |true=>exact(beq_iff_eq.mp q1).trans (beq_iff_eq.mp q2).symm
     |false=>rw[q2]at hy;exact absurd (hl y _ hy) (O0 _)
    |false =>
     rw[q1]at hx;cases q2:y==z with
     |true =>
      rw[q2]at hy;have e1:n=c:=J6 hy;subst e1;exact absurd (hl x _ hx) (O0 _)
     |false=>rw[q2]at hy;exact hi x y c hx hy
   ·rw[J8]at hx;cases q1:x==z with
    |true=>rw[q1]at hx;have e1:n=c:=J6 hx;exact e1▸P4 _
    |false=>rw[q1]at hx;exact K6 (hl x c hx)
  ·exact sU hi hl
theorem oD{x:Str}{c:F9}:∀{names:List (Str×J9)}{h:K4}{acc:List (Str×F9)},(O6 h.objs.size names acc).lookup x=some c->acc.lookup x=some c∨(pushCells h names).IsCell c none
 |[],_,_,e=>.inl e
 |(y,k)::r,h,acc,e=>by
  unfold O6 at e;unfold pushCells
  split at e
  ·rename_i hk;rw[if_pos hk];have e':(O6 (h.push { cls:=.type "cell",data:=.cell none }).objs.size r ((y,h.objs.size)::acc)).lookup x=some c:=by rw[R5];exact e
   rcases oD e' with z|z
   ·rw[J8]at z;cases q:x==y with
    |true =>
     rw[q]at z;have e1:h.objs.size=c:=J6 z;subst e1;exact .inr ⟨_,pushCells_keeps _ _ _ _ (F7 _ rfl),rfl⟩
    |false=>rw[q]at z;exact .inl z
   ·exact .inr z
  ·rename_i hk;rw[if_neg hk];exact oD e
theorem pk{M:Model}{A:N3}{E:u8->F1->Prop}{s:F1}{scope:R0}{globals:F9}{cl:List (Str×F9)}{qual:Str}{outer:Env}{builtins:F9}{Q:Env->F1->Prop}
  (hQ:∀ h',(∀ b o,s.heap.get? b = some o → h'.get? b = some o) → h'.Ns s.heap.objs.size (fun _ => none) →
   (∀x c,(O6 (s.heap.objs.size+1) scope.names cl).lookup x=some c->cl.lookup x=some c∨h'.IsCell c none) ->
   Q (newEnv scope s.heap.objs.size globals (O6 (s.heap.objs.size+1) scope.names cl) qual none .none (some outer) builtins) { s with heap:=h' }) :
  J4 M A (V6 scope globals cl [] qual none .none (some outer) builtins) Q E s:=by
 simp only[V6,Option.isSome_some,if_true];refine s0 (wpAny_alloc ?_);refine s0 (wpAny_layCells _ (fun name kind cells=>by cases hkc:kind==P0<;>simp[hkc]) _ _ _ _ ?_);have hsz:({ s with heap:=s.heap.push { cls:=.type "dict",data:=.dict #[] } }:F1).heap.objs.size=s.heap.objs.size+1:=R5 ..;rw[hsz];refine s0 ?_;rw[List.forIn_nil];refine F4 (F4 ?_);refine hQ _ (fun b o e=>pushCells_keeps _ _ b o (F0 _ e)) ((K4.Ns.new s.heap (.type "dict")).keeps (pushCells_keeps _ _)) fun x c e=>?_;refine oD (h:=s.heap.push { cls:=.type "dict",data:=.dict #[] }) ?_;rw[R5];exact e
def cxC(X:Cx) (scope:R0) (cl:List (Str×F9)) (N:List Str) (C:F9) (s:F1) (H:Hp) (ex:List F9):Cx :=
 { aK X scope (O6 (C+1) scope.names cl) N C s H ex with fn:=fun x=>scope.names.lookup x==some .cell }
theorem eU{env:Env}{x:Str}:∀{names:List (Str×J9)},(names.map fun(n,k)=>if(k==K7&&env.scope.kind==.function&&env.kindOf n==some .cell)then(n,P0)else(n,k)).lookup x =
  (names.lookup x).map fun k=>if(k==K7&&env.scope.kind==.function&&env.kindOf x==some .cell)=true then P0 else k
 |[]=>rfl
 |(n,k0)::r=>by
  have ih:=@eU env x r;show ab7 x ((if(k0==K7&&env.scope.kind==.function&&env.kindOf n==some .cell)=true then(n,P0)else(n,k0))::_)=_;cases hx:x==n with
  |true =>
   have e:x=n:=by simpa using hx
   subst e
   by_cases hq:(k0==K7&&env.scope.kind==.function&&env.kindOf x==some .cell)=true
   ·rw[if_pos hq];simp only[J8,hx,R7,hq,if_true]
   ·rw[if_neg hq];simp only[J8,hx,R7,hq,if_false,M7]
  |false =>
   by_cases hq:(k0==K7&&env.scope.kind==.function&&env.kindOf n==some .cell)=true
   ·rw[if_pos hq];simp only[J8,hx];exact ih
   ·rw[if_neg hq];simp only[J8,hx];exact ih
structure cA(X:Cx) (scope:R0) (cl:List (Str×F9)) (ms:List Bool) (am:List Str):Prop where
 kind:scope.kind=.function
 names:∀y∈scope.names,y.2=.local->scope.names.lookup y.1=some .local
 cellN:∀y∈scope.names,y.2=.cell->scope.names.lookup y.1=some .cell
 clos:closureFor scope X.env=V2 cl
 sub:∀x c,cl.lookup x=some c->X.env.cells.lookup x=some c
 fre:∀x c,cl.lookup x=some c->scope.names.lookup x=some .free
 has:∀x,scope.names.lookup x=some .free->∃c,cl.lookup x=some c
 fr:∀x,scope.names.lookup x=some .free->X.env.scope.names.lookup x=some .cell∨X.env.scope.names.lookup x=some .free
 mask:∀(i:Nat) (x:Str),ms[i]?=some true->X.N[i]?=some x->scope.names.lookup x=some .free
 mlen:ms.length<=X.N.length
theorem zp{X:Cx}{scope:R0}{cl:List (Str×F9)}{ms:List Bool}{am:List Str}(S:cA X scope cl ms am) {n:Nat}{x:Str}{c:F9}(hf:scope.names.lookup x=some .free) (hc:cl.lookup x=some c):(O6 n scope.names cl).lookup x=some c:=by
 have h:=N9 (x:=x) scope.names n cl (.inr (by rw[hc];rfl));obtain⟨c',e⟩:=O2.mp h;rcases fY e with z|z
 ·rw[hc]at z;cases z;exact e
 ·have:=S.cellN _ z.1 rfl;rw[hf]at this;cases this
section
variable{X:Cx}{ag:List (F9×Obj)}{σ:St}{H H2:Hp}{s s2:F1}{scope:R0}{cl:List (Str×F9)}{ms:List Bool}{am:List Str}
theorem pH(I:Inv X ag σ H s) (S:cA X scope cl ms am) {fp:List F9}(hfp:∀b∈fp,cV X ag H b) (hlt:∀b∈fp,b<s.heap.objs.size) {C:F9}(hC:s.heap.objs.size<=C) :
  (cxC X scope cl (X.N++am) C s H fp).Ok where
 mod:=I.ok.mod
 kind:=S.kind
 glob:=I.ok.glob
 blt:=I.ok.blt
 above:=hC
 inj:=sU (fun x y c h1 h2=>I.ok.inj x y c (S.sub x c h1) (S.sub y c h2)) fun x c h=>by
  obtain⟨v,o,ho,_⟩:=I.cell x c (S.sub x c h);exact K6 (F8 (F5 ho) hC)
 has:=fun x hx=>by
  have hx':(X5 scope X.env).names.lookup x=some .cell∨(X5 scope X.env).names.lookup x=some .free:=hx;have e:(X5 scope X.env).names.lookup x=_:=eU (env:=X.env) (x:=x) (names:=scope.names);rw[e]at hx';refine O2.mp (N9 _ _ _ ?_);cases q:scope.names.lookup x with
  |none=>rw[q]at hx';simp at hx'
  |some k =>
   rw[q]at hx';cases k with
   |cell=>exact .inl rfl
   |free=>obtain⟨c,hc⟩:=S.has x q;exact .inr (by rw[hc];rfl)
   |_=>simp at hx'
 cab:=fun x c h e=>by
  have hq:scope.names.lookup x=some .cell:=by simpa[cxC]using h
  rcases fY e with z|z
  ·rw[S.fre x c z]at hq;cases hq
  ·exact L7 hC (V5 z.2)
 hd:=I.ok.hd
 frames:=I.ok.frames
 stk:=.inl rfl
 exf:=fun b hb=>⟨H0 (F8 (hlt b hb) hC),fun x c e=>by
  rcases fY e with z|z
  ·exact(hfp b hb).2.2.2.2.1 x c (S.sub x c z)
  ·exact T0 (F8 (F8 (hlt b hb) hC) (V5 z.2))⟩
 bs:=I.bs
 bsz:=L7 I.ok.bsz I.sz
 noex:=fun b o e hb=>by
  rcases(hfp b hb).2.2.2.1 with z|z
  ·exact I.ok.noex b o e z
  ·exact absurd (F8 (F5 e) (L7 I.ok.bsz z)) (O0 _)
 exfs:=fun b hb z=>by
  rcases N5.mp (I.stkSub b z)with e|e
  ·exact(hfp b hb).2.1 e
  ·exact(hfp b hb).2.2.1 e
 funs:=I.stack
 frf:=I.stkFree
theorem yt(I:Inv X ag σ H s) (S:cA X scope cl ms am) {fp:List F9}(hfp:∀b∈fp,cV X ag H b) (hlt:∀b∈fp,b<s.heap.objs.size) {C:F9}(hC:s.heap.objs.size<=C)
  (os:s2.os=s.os) (bare:aa1 s2.gens) (keep:∀b o,s.heap.get? b=some o->s2.heap.get? b=some o) {m:Str->Option u8} (hn:s2.heap.Ns C m)
  (hce:∀x c,(O6 (C+1) scope.names cl).lookup x=some c->cl.lookup x=some c∨s2.heap.IsCell c none) :
  Inv (cxC X scope cl (X.N++am) C s H fp) [] (dw ms am.length σ) H s2 where
 ok:=pH I S hfp hlt hC
 os:=os
 bare:=bare
 base:=Un.kept keep
 loc:=⟨m,hn,fun i x v h1 h2 h3=>by
  obtain⟨hi,hm,hv⟩:=nz h2;have hiN:i<X.N.length:=by rw[<-I.len];exact hi
  have hx:X.N[i]?=some x:=by
   have h1':(X.N++am)[i]?=some x:=h1
   rwa [L9 hiN]at h1'
  have hf:=S.mask i x hm hx;obtain⟨m0,hn0,hl⟩:=I.loc;obtain⟨u,r,l⟩:=hl i x v hx hv (by rcases S.fr x hf with z|z<;>simp[Vis,z]);refine⟨u,r,.inr ⟨?_,?_⟩⟩
  ·exact fN (env:=X.env) hf
  ·obtain⟨c,hc⟩:=S.has x hf;have hc':=S.sub x c hc;rcases l with⟨k,_⟩|⟨_,c',e,z⟩
   ·rcases S.fr x hf with z|z<;>(have k':X.env.scope.names.lookup x=some .local:=k;rw[z]at k';cases k')
   ·rw[hc']at e;cases e;obtain⟨o,ho,hd⟩:=z;exact⟨c,zp S hf hc,o,keep _ _ ho,hd⟩⟩
 cell:=fun x c e=>by
  rcases hce x c e with z|z
  ·obtain⟨v,o,ho,hd⟩:=I.cell x c (S.sub x c z);exact⟨v,o,keep _ _ ho,hd⟩
  ·exact⟨none,z⟩
 free:=I.hok.fresh hC
 freeC:=fun x c e=>by
  rcases fY e with z|z
  ·exact I.freeC x c (S.sub x c z)
  ·exact I.hok.fresh (L7 hC (V5 z.2))
 pin:=fun p hp=>absurd (show p∈([]:List (F9×Obj))from hp) (by simp)
 hok:=I.hok.kept keep
 len:=by
  unfold dw;rw[L8,bD,List.length_replicate,I.len];show _=(X.N++am).length;rw[L8]
end
section
variable{X:Cx}{ag:List (F9×Obj)}{σ σ':St}{H2 H':Hp}{s2 s':F1}{scope:R0}{cl:List (Str×F9)}{ms:List Bool}{am:List Str}{tg iter elt:J5}{ifs:List J5}{g:TG}{tc:TT}{te:TE}{pos:Pos}
theorem sH(S:cA X scope cl ms am) (bA:X.calm=true)
  (hg:∀C s H ex,PG (cxC X scope cl (X.N++am) C s H ex) tg g) (hif:∀C s H ex,PIf (cxC X scope cl (X.N++am) C s H ex) ifs tc) (he:∀C s H ex,PE (cxC X scope cl (X.N++am) C s H ex) elt te)
  (I2:Inv X ag σ H2 s2) {it:F9} {fp:List F9} {tn:Nat->K4->Prop} {J:It} (T:iD X.prog X.w X.K tg J fp it tn) (st2:tn 0 s2.heap) (f2:∀b∈fp,cV X ag H2 b)
  {W:Nat->Nat->List V->St->Hp->Prop} {Z:List V->St->Hp->Prop} {m0:Nat} (w0:W 0 m0 [] (dw ms am.length σ) H2) (turn:mw J g tc (oa te) W Z)
  {RR:u8->F9->ad2->F1->Prop} {E:u8->F1->Prop}
  (hRR:∀ (s':F1) (ys:List V) (its:List u8) (n:Nat) (σ':St) (H':Hp),Inv (cxC X scope cl (X.N ++ am) (s2.heap.objs.size + 1) s2 H2 fp) [(s2.heap.objs.size,dG its n)] σ' H' s' → aB ys its → ys.length ≤ F2 → Z ys σ' H' →
   RR (.ref s2.heap.objs.size) (s2.heap.objs.size+1) (.ok .next) s') :
  J4 (K3 X.prog X.w) X.A (newList []) (fun acc s₃=>J4 (K3 X.prog X.w) X.A (V6 scope X.env.globals cl [] X.env.qual none .none (some X.env)) (fun cenv s₄ =>
   X9 (K3 X.prog X.w) X.A (.compStart (.ListComp elt [⟨tg,iter,ifs,0⟩] scope pos) 0 (.ref it) acc { cenv with scope:=X5 scope X.env }) (RR acc cenv.locals) s₄) E s₃) E s2:=by
 refine K0 (pk fun h₁ kp₁ hns₁ hce₁=>?_);dsimp only at hns₁ kp₁ hce₁ ⊢;have hsz:(s2.heap.push { cls:=.type "list",dict:=none,data:=.seq ([]:List u8).toArray }).objs.size=s2.heap.objs.size+1:=by rw[R5]
 rw[hsz]at hns₁ hce₁ ⊢;have hlt:∀b∈fp,b<s2.heap.objs.size:=fun b hb=>by
  obtain⟨o,e,_⟩:=T.obj _ _ st2 b hb;exact F5 e
 have old:∀b o,s2.heap.get? b=some o->h₁.get? b=some o:=fun b o e=>kp₁ b o (F0 _ e);have hacc:h₁.get? s2.heap.objs.size=some (dG [] 0):=kp₁ _ _ (F7 _ rfl);have hDn:H2 s2.heap.objs.size=none:=I2.hok.fresh (F6 _);have hDfs:∀b,s2.heap.objs.size<=b->b∉(cxC X scope cl (X.N++am) (s2.heap.objs.size+1) s2 H2 fp).fs:=fun b hb z=>by
  rcases N5.mp (I2.stkSub b z)with e|e
  ·subst e;exact absurd (F8 I2.lt hb) (O0 _)
  ·exact I2.nofs hb e
 have loop:∀s₃:F1,s₃={ s2 with heap:=h₁ } ->
   X9 (K3 X.prog X.w) X.A (.compLoop (.ListComp elt [⟨tg,iter,ifs,0⟩] scope pos) 0 (.ref it) (.ref s2.heap.objs.size) (ac8 scope (O6 (s2.heap.objs.size+1+1) scope.names cl) (s2.heap.objs.size+1) X.env)) (RR (.ref s2.heap.objs.size) (s2.heap.objs.size+1)) s₃:=by
  rintro s₃ rfl;have I3:Inv (cxC X scope cl (X.N++am) (s2.heap.objs.size+1) s2 H2 fp) [] (dw ms am.length σ) H2 { s2 with heap:=h₁ } :=
   yt I2 S f2 hlt (Z8 _) rfl I2.bare old hns₁ hce₁
  have hne:∀x c,(cxC X scope cl (X.N++am) (s2.heap.objs.size+1) s2 H2 fp).env.cells.lookup x=some c->c≠s2.heap.objs.size:=fun x c e=>by
   rcases fY e with z|z
   ·obtain⟨v,o,ho,_⟩:=I2.cell x c (S.sub x c z);exact H0 (F5 ho)
   ·exact T0 (F8 (K6 (P4 _)) z.2)
  have c:lP (cxC X scope cl (X.N++am) (s2.heap.objs.size+1) s2 H2 fp) s2.heap.objs.size:=⟨rfl,bA,rfl,.inr (F6 _),hne⟩;refine nk c (ux c (he _ _ _ _) fun _ _ _=>rfl) (hg _ _ _ _) (hif _ _ _ _) (P:=[]) (p:=iter.pos) (fun p hp=>nomatch hp) (its0:=[]) (nn0:=0) (I3.pins_of fun p hp=>?_) .nil T (T.keep _ _ _ st2 fun b _ o e=>old b o e) (fun b hb=>?_) w0 turn ?_
  ·have e:p=(s2.heap.objs.size,dG [] 0):=N1.mp hp;subst e;exact⟨hacc,hDn,H0 (P4 _),hDfs _ (F6 _),fun v z=>by cases z⟩
  ·exact⟨(f2 b hb).1,H0 (K6 (hlt b hb)),(pH I2 S f2 hlt (Z8 _)).exfs b hb,.inl hb,fun x c e=>(pH I2 S f2 hlt (Z8 _)).exf b hb |>.2 x c e,fun p hp=>by
    have:p=(s2.heap.objs.size,_):=N1.mp (show p∈[(s2.heap.objs.size,_)]from hp);subst this;exact T0 (hlt b hb)⟩
  ·exact fun s' ys its n σ' H' I' rv hz hZ=>hRR s' ys its n σ' H' I' rv hz hZ
 exact codeAny_compStart_list (loop _ rfl) (T.self _ 0 _ _ _ (T.keep _ _ _ st2 fun b _ o e=>old b o e) (loop _ rfl))
theorem sM(I2:Inv X ag σ H2 s2) {fp:List F9}(f2:∀b∈fp,cV X ag H2 b) {its:List u8}{n:Nat}{ys:List V}
  (I':Inv (cxC X scope cl (X.N++am) (s2.heap.objs.size+1) s2 H2 fp) [(s2.heap.objs.size,dG its n)] σ' H' s') (rv:aB ys its) (hz:ys.length<=F2) {h':K4} (hs:N8 (s2.heap.objs.size+1) s'.heap h') :
  Inv X ag σ (upd H' s2.heap.objs.size (.lst ys)) { s' with heap:=h' }/\H' s2.heap.objs.size=none:=by
 have pacc:=I'.pin (s2.heap.objs.size,dG its n) (I0 _ M0);have hC:H' (s2.heap.objs.size+1)=none:=I'.free;have hD:H' s2.heap.objs.size=none:=pacc.2.1;have up:∀b o,b≠s2.heap.objs.size+1->s'.heap.get? b=some o->h'.get? b=some o:=fun b o hb e=>(hs.2 b hb).trans e;have nD:∀b u,H' b=some u->b≠s2.heap.objs.size:=fun b u e z=>by rw[z,hD]at e;cases e
 have nC:∀b u,H' b=some u->b≠s2.heap.objs.size+1:=fun b u e z=>by rw[z,hC]at e;cases e
 have hacc:h'.get? s2.heap.objs.size=some (dG its n):=up _ _ (H0 (P4 _)) pacc.1;have hok:HOk X.prog X.w (upd H' s2.heap.objs.size (.lst ys)) h':=fun b u e=>by
  by_cases hb:b=s2.heap.objs.size
  ·subst hb;rw[aG]at e;cases e;exact⟨hz,its,n,rv,hacc⟩
  ·rw[aA hb]at e;refine(I'.hok b u e).stay (fun c v hc q=>up c v ?_ q) (fun c q=>by rw[aA (nD c _ q)];exact q) fun c xs q=>by rw[aA (nD c _ q)];exact q
   rcases hc with rfl|hc
   ·exact nC _ _ e
   ·exact nC _ _ hc
 have un:Un (frs X.stack) fp H2 (upd H' s2.heap.objs.size (.lst ys)) s2.heap h':=by
  have U:=I'.base;have ltD:∀b o,s2.heap.get? b=some o->b≠s2.heap.objs.size:=fun b o e=>H0 (F5 e);have ltC:∀b o,s2.heap.get? b=some o->b≠s2.heap.objs.size+1:=fun b o e=>H0 (K6 (F5 e));refine⟨fun b o e nb hb hx=>up b o (ltC b o e) (U.keep b o e nb hb hx),fun b o e nb hb hx=>?_,fun b o e nb hx=>by rw[aA (ltD b o e)];exact U.free b o e nb hx,fun b o e hx=>?_,
   fun b xs e=>by have q:=U.tups b xs e;rw[aA (nD b _ q)];exact q,fun b o u e=>by have q:=U.frzs b o u e;rw[aA (nD b _ q)];exact q,fun b ps e=>?_⟩
  ·obtain⟨sl,q⟩:=U.slot b o e nb hb hx;exact⟨sl,up b _ (ltC b o e) q⟩
  ·obtain⟨o',q⟩:=U.there b o e hx;exact⟨o',up b _ (ltC b o e) q⟩
  ·obtain⟨more,q⟩:=U.tbls b ps e;exact⟨more,by rw[aA (nD b _ q)];exact q⟩
 exact⟨I2.call' (s':={ s' with heap:=h' }) (ch:=fp) I'.os un hok I'.bare fun b hb=>⟨(f2 b hb).2.2.2.1,(f2 b hb).2.1,(f2 b hb).2.2.2.2.1,(f2 b hb).2.2.2.2.2⟩,hD⟩
theorem CN(S:cA X scope cl ms am) (bA:X.calm=true) {wi:TI}(hi:PI X tg iter wi)
  (hg:∀C s H ex,PG (cxC X scope cl (X.N++am) C s H ex) tg g) (hif:∀C s H ex,PIf (cxC X scope cl (X.N++am) C s H ex) ifs tc) (he:∀C s H ex,PE (cxC X scope cl (X.N++am) C s H ex) elt te)
  (hs:∀x,O1 iter X.env x=V2 x:=by intro _;rfl):PE X (.ListComp elt [⟨tg,iter,ifs,0⟩] scope pos) (tLc ms am.length wi g tc te):=by
 intro ag s σ H Q I h;rw[eval_ListComp];refine S1 (use:=none) rfl hs S.clos S.kind S.names (thn (hi ag s σ H _ I h) fun v s1 h1=>thn h1 fun itv s2 h2=>?_);obtain⟨it,fp,tn,J,H2,e,I2,T,st2,f2,W,Z,⟨m0,w0⟩,turn,q⟩:=h2;subst e;refine sH S bA hg hif he I2 T st2 f2 w0 turn (RR:=fun acc C=>compPost (K3 X.prog X.w) X.A X.xe none (EP X ag σ Q) acc C) ?_;intro s' ys its n σ' H' I' rv hz hZ;obtain⟨m,hm,_⟩:=I'.loc;refine⟨m,hm,fun h' hs'=>?_⟩;obtain⟨I3,hD⟩:=sM I2 f2 I' rv hz hs';exact⟨.ref s2.heap.objs.size,_,I3,rfl,q ys _ H' _ hZ hD⟩
end
section
variable{X:Cx}{tg iter elt:J5}{pos:Pos}{scope:R0}{cl:List (Str×F9)}{ms:List Bool}{am:List Str}{ifs:List J5}
def Ec(X:Cx) (scope:R0) (cl:List (Str×F9)) (am:List Str) (tg:J5) (g:GD):Prop:=∃gv:TG,(∀C s H ex,PG (cxC X scope cl (X.N++am) C s H ex) tg gv)/\∀(d:D) (v:V) (σ:St) (Δ Δ':DE) (M:DH) (H:Hp) (Q:St->Hp->Prop),SR X.K M H σ Δ->HR X.K M H->Rep X.K M H d v->g d Δ=some Δ'->(∀ σ',SR X.K M H σ' Δ'->Q σ' H)->gv v σ H Q
theorem wz{i:Nat}{x:Str}{pos:Pos}(hN:(X.N++am).Nodup) (hi:(X.N++am)[i]?=some x) (hx:(X5 scope X.env).names.lookup x=some .cell) (hf:(scope.names.lookup x==some .cell)=true):Ec X scope cl am (.Name x pos) (bL i) :=
 ⟨mC i,fun C s H ex=>kZ hN hi (.inr hx) (.inl hf),fun d v σ Δ Δ' M H Q sr hr rv e k=>by cases e;exact k _ (sr.set i rv)⟩
def lr(scope fs:R0):R0:={ scope with names:=scope.names.map fun(n,k)=>if(k==.free&&fs.kind==.function&&fs.names.lookup n==some .cell)then(n,.cell)else(n,k) }
theorem u6{env:Env}:X5 scope env=lr scope env.scope:=rfl
noncomputable def gA(fs:R0) (N:List Str) (scope:R0) (ms:List Bool):Bool :=
 scope.kind==.function&&scope.names.all (fun y=>y.2 != .cell || scope.names.lookup y.1==some .cell)&&scope.names.all (fun y=>y.2 != .local || scope.names.lookup y.1==some .local) &&
 scope.names.all (fun y=>y.2 != .free || fs.names.lookup y.1==some .cell)&&(ms.zip N).all (fun y=>!y.1 || scope.names.lookup y.2==some .free)&&decide (ms.length<=N.length)&&scope.names.all (fun y=>y.2 != .free || scope.names.lookup y.1==some .free)
theorem xT{cells:List (Str×F9)}{names:List (Str×J9)}{x:Str}{c:F9}(h:(bO names cells).lookup x=some c):(x,K7)∈names:=by
 have hm:=K5 h;unfold bO at hm;rw[List.mem_reverse,P1]at hm;obtain⟨y,hy,e⟩:=hm
 split at e
 ·rename_i hk;cases q:cells.lookup y.1 with
  |none=>rw[q]at e;cases e
  |some c' =>
   rw[q]at e;have e1:y.1=x:=(Prod.mk.inj (J6 e)).1;have e2:y.2=.free:=by simpa using hk
   obtain⟨a,b⟩:=y;simp only at e1 e2;subst e1;subst e2;exact hy
 ·cases e
theorem sI(cs:∀x,(x,K7)∈scope.names->(X.env.cells.lookup x).isSome=true) (c:gA X.env.scope X.N scope ms=true):cA X scope (bO scope.names X.env.cells) ms am:=by
 unfold gA at c;simp only[K1,Q8,decide_eq_true_eq]at c;obtain⟨⟨⟨⟨⟨⟨c1,c2⟩,c3⟩,c4⟩,c5⟩,c6⟩,c7⟩:=c;have fr:∀x,(x,K7)∈scope.names->X.env.scope.names.lookup x=some .cell:=fun x hx=>by
  have:=c4 _ hx;simpa using this
 refine⟨by simpa using c1,fun y hy e=>?_,fun y hy e=>?_,pA fun y hy e=>?_,fun x c h=>mK h,fun x c h=>?_,fun x h=>mI h (cs x (K5 h)),fun x h=>.inl (fr x (K5 h)),fun i x h1 h2=>?_,c6⟩
 ·have:=c3 y hy;simpa[e]using this
 ·have:=c2 y hy;simpa[e]using this
 ·obtain⟨a,b⟩:=y;cases e;exact cs a hy
 ·have:=c7 _ (xT h);simpa using this
 ·have:=c5 (true,x) (by
   rw[List.mem_iff_getElem?];exact⟨i,by rw[List.getElem?_zip_eq_some];exact⟨h1,h2⟩⟩)
  simpa using this
theorem rM{n0:Nat}(hX:X.env.cells=O6 n0 X.env.scope.names []) (c:gA X.env.scope X.N scope ms=true):cA X scope (bO scope.names X.env.cells) ms am:=by
 refine sI (fun x hx=>?_) c;unfold gA at c;simp only[K1,Q8]at c;have:=c.1.1.1.2 _ hx;rw[hX];exact N9 _ _ _ (.inl (by simpa using this))
theorem uU{C:F9}{s:F1}{H:Hp}{ex:List F9}{N:List Str}(S:cA X scope cl ms am) {x:Str}(h:(X5 scope X.env).names.lookup x=some .cell):((cxC X scope cl N C s H ex).env.cells.lookup x).isSome=true:=by
 have e:(X5 scope X.env).names.lookup x=_:=eU (env:=X.env) (x:=x) (names:=scope.names);rw[e]at h;refine N9 _ _ _ ?_;cases q:scope.names.lookup x with
 |none=>rw[q]at h;simp at h
 |some k =>
  rw[q]at h;cases k with
  |cell=>exact .inl rfl
  |free=>obtain⟨c,hc⟩:=S.has x q;exact .inr (by rw[hc];rfl)
  |_=>simp at h
theorem va{C:F9}{s:F1}{H:Hp}{ex:List F9}{N:List Str}{scope2:R0}{ms2:List Bool}{extra2:List Str}(S:cA X scope cl ms am) (c:aR (lr scope X.env.scope) N scope2 ms2=true) :
  cT (cxC X scope cl N C s H ex) scope2 (bO scope2.names (cxC X scope cl N C s H ex).env.cells) ms2 extra2:=by
 unfold aR at c;simp only[K1,Q8,decide_eq_true_eq]at c;obtain⟨⟨⟨⟨⟨c1,c2⟩,c3⟩,c4⟩,c5⟩,c6⟩:=c;have fr:∀x,(x,K7)∈scope2.names->(X5 scope X.env).names.lookup x=some .cell:=fun x hx=>by
  have:=c4 _ hx;rw[u6];simpa using this
 have cs:∀x,(x,K7)∈scope2.names->((cxC X scope cl N C s H ex).env.cells.lookup x).isSome=true:=fun x hx=>uU S (fr x hx);refine⟨by simpa using c1,fun y hy e=>?_,fun y hy e=>?_,pA fun y hy e=>?_,fun x c h=>mK h,fun x h=>mI h (cs x (K5 h)),fun x h=>.inl (fr x (K5 h)),fun i x h1 h2=>?_,c6⟩
 ·have:=c2 y hy;rw[e]at this;simp at this
 ·have:=c3 y hy;simpa[e]using this
 ·obtain⟨a,b⟩:=y;cases e;exact cs a hy
 ·have:=c5 (true,x) (by
   rw[List.mem_iff_getElem?];exact⟨i,by rw[List.getElem?_zip_eq_some];exact⟨h1,h2⟩⟩)
  simpa using this
end
section
variable{X:Cx}{tg l:J5}{tl:TE}{te:TEd}
theorem sX{K:o0}{M:DH}{H:Hp}{k:Key}:Rep K M H (kD k) (kV k):=by cases k<;>simp[kD,kV,Rep]
end
theorem gx{prog:L5}{w:P6}{A:N3}{R:ad2->F1->Prop}{s:F1}{kx vx target iter:J5}{scope:R0}{pos:Pos}{it:u8}{D:F9}{env:Env}(I:Nat->F1->Prop)
  (turn:∀ n s,I n s → J4 (K3 prog w) A (ac6 it) (fun r s₁ => match r with
   |none=>R (.ok .next) s₁
   | some v => J4 (K3 prog w) A (T1 target it v) (fun _ s₁ => J4 (K3 prog w) A (U0 target env v) (fun _ s₂ =>
     J4 (K3 prog w) A (T8 kx env) (fun kv s₄=>J4 (K3 prog w) A (T8 vx env) (fun vv s₅ =>
       J4 (K3 prog w) A (dictSet D kv vv) (fun _ s₆=>∃m,m<n/\I m s₆) (fun _ _=>False) s₅) (fun _ _=>False) s₄) (fun _ _=>False) s₂) (fun _ _=>False) s₁) (fun _ _=>False) s₁) (fun _ _=>False) s)
  (n:Nat) (h:I n s) :
  X9 (K3 prog w) A (.compLoop (.DictComp kx vx [⟨target,iter,[],0⟩] scope pos) 0 it (.ref D) env) R s:=by
 refine codeAny_loop rfl I (fun n s hI=>?_) n h;show J4 _ A ((compTurn (.DictComp kx vx [⟨target,iter,[],0⟩] scope pos) 0 it (.ref D) env).onRaise (fun x=>do noteFrame x env;theTreesLotGoes x)) _ _ s;refine wpAny_noted ?_;rw[compTurn_dict];refine s0 (U7 (s0 (M8 (turn n s hI) (fun r s₁ h₁=>?_) fun _ _ h'=>h'.elim)));cases r with
 |none=>exact F4 h₁
 |some v =>
  refine s0 (M8 h₁ (fun _ s1 h₁=>?_) fun _ _ h'=>h'.elim);refine s0 (M8 h₁ (fun _ s₂ h₂=>s0 (wpAny_tests_nil ?_)) fun _ _ h'=>h'.elim);exact s0 (s0 (M8 h₂ (fun kv s₄ h₄=>s0 (S3 (M8 h₄ (fun vv s₅ h₅=>s0 (U7 (S3 (M8 h₅ (fun _ s₆ h₆=>F4 ⟨rfl,h₆⟩) fun _ _ h'=>h'.elim)))) fun _ _ h'=>h'.elim))) fun _ _ h'=>h'.elim))
section
variable{X:Cx}{ag:List (F9×Obj)}{σ σ':St}{H2 H':Hp}{s2 s':F1}{scope:R0}{cl:List (Str×F9)}{ms:List Bool}{am:List Str}{tg iter kx vx:J5}{g:TG}{tk tv:TE}{pos:Pos}
def pY(D:F9) (J:It) (g:TG) (tk tv:TE) (W:Nat->Nat->St->Hp->Prop) (Z:Hp->Prop):Prop :=
 ∀i m σ H,W i m σ H->(J.stop i H/\Z H) ∨
  (J.go i H/\∀x H',J.yld i H x H'->g x σ H' fun σ2 H2=>tk σ2 H2 fun y H3=>tv σ2 H3 fun v H4=>∃H5,(∃kvs k b,H4 D=some (.dT kvs)/\y=.ref b/\H4 b=some (.tup (k.map kV))/\kvs.length<F2/\H5=upd H4 D (.dT (gq kvs k v)))/\∃m',m'<m/\W (i+1) m' σ2 H5)
theorem yf{E:u8->F1->Prop}{X:Cx}{A:N3}{ag:List (F9×Obj)}{σ:St}{H:Hp}{s:F1}{D b:F9}{kvs:List (List Key×V)}{k:List Key}{v:V}{r:u8}{Q:Unit->F1->Prop}(hu:A.units<Z9) (I:Inv X ag σ H s) (e:H D=some (.dT kvs)) (eb:H b=some (.tup (k.map kV))) (l:kvs.length<F2)
  (rv:aL v r) (h:∀s',Inv X ag σ (upd H D (.dT (gq kvs k v))) s'->Q () s'):J4 (K3 X.prog X.w) A (dictSet D (.ref b) r) Q E s:=by
 obtain⟨z,hd,xs,rel,dd⟩:=A8 I.hok e;have hz:xs.length<=F2:=by rw[<-W1 rel];exact z
 have hl:(gq kvs k v).length<=F2:=by have:=gL kvs k v;lia
 refine wpAny_dictSet_heap (hsz:=hz) hu (mx I.hok eb) dd fun h' dd' hs=>h _ ?_;obtain⟨q,es,ep,hq,h2,h3,h4,_,h5⟩:=dd';refine gQ I (by rw[e];exact aa8) hs ⟨q,hq⟩ ⟨hl,hd,_,(rel.put k eb rv).keeps fun c ys ec=>?_,q,es,ep,hq,h2,h3,h4,h5⟩;rw[aA (Bb ec e (fun z=>nomatch z))];exact ec
theorem sQ(hu:X.A.units<Z9) (S:cT X scope cl ms am) (bA:X.calm=true)
  (hg:∀C s H ex,PG (aK X scope cl (X.N++am) C s H ex) tg g) (hk:∀C s H ex,PE (aK X scope cl (X.N++am) C s H ex) kx tk) (hv:∀C s H ex,PE (aK X scope cl (X.N++am) C s H ex) vx tv)
  (I2:Inv X ag σ H2 s2) {it:F9} {fp:List F9} {tn:Nat->K4->Prop} {J:It} (T:iD X.prog X.w X.K tg J fp it tn) (st2:tn 0 s2.heap) (f2:∀b∈fp,cV X ag H2 b)
  {D:F9} {W:Nat->Nat->St->Hp->Prop} {Z:Hp->Prop} {m0:Nat} (w0:W 0 m0 (dw ms am.length σ) H2) (turn:pY D J g tk tv W Z)
  {RR:F9->ad2->F1->Prop} {E:u8->F1->Prop}
  (hRR:∀(s':F1) (σ':St) (H':Hp),Inv (aK X scope cl (X.N++am) s2.heap.objs.size s2 H2 fp) [] σ' H' s'->Z H'->RR s2.heap.objs.size (.ok .next) s') :
  J4 (K3 X.prog X.w) X.A (V6 scope X.env.globals cl [] X.env.qual none .none (some X.env)) (fun cenv s₄ =>
   X9 (K3 X.prog X.w) X.A (.compStart (.DictComp kx vx [⟨tg,iter,[],0⟩] scope pos) 0 (.ref it) (.ref D) { cenv with scope:=X5 scope X.env }) (RR cenv.locals) s₄) E s2:=by
 refine wpAny_newFunctionEnv S.ncell (by intro y hy;simp at hy) (fun h₁ hns₁ hsb₁=>?_) S.kind
 try dsimp only at hns₁ hsb₁ ⊢
 have hlt:∀b∈fp,b<s2.heap.objs.size:=fun b hb=>by
  obtain⟨o,e,_⟩:=T.obj _ _ st2 b hb;exact F5 e
 have old:∀b o,s2.heap.get? b=some o->h₁.get? b=some o:=fun b o e=>hsb₁.extBut b o (H0 (F5 e)) (F0 _ e);have loop:∀s₃:F1,s₃={ s2 with heap:=h₁,toks:=s2.toks+([]:List (Str×u8)).length } ->
   X9 (K3 X.prog X.w) X.A (.compLoop (.DictComp kx vx [⟨tg,iter,[],0⟩] scope pos) 0 (.ref it) (.ref D) (ac8 scope cl s2.heap.objs.size X.env)) (RR s2.heap.objs.size) s₃:=by
  rintro s₃ rfl;have I3:Inv (aK X scope cl (X.N++am) s2.heap.objs.size s2 H2 fp) [] (dw ms am.length σ) H2 { s2 with heap:=h₁,toks:=s2.toks+([]:List (Str×u8)).length } :=
   tP I2 S f2 hlt (F6 _) rfl I2.bare old hns₁
  have fpc:∀{H:Hp},(∀b∈fp,H b=none)->∀b∈fp,cV (aK X scope cl (X.N++am) s2.heap.objs.size s2 H2 fp) [] H b:=fun hn b hb =>
   ⟨hn b hb,H0 (hlt b hb),(sP I2 S f2 hlt (F6 _)).exfs b hb,.inl hb,fun x c e=>(f2 b hb).2.2.2.2.1 x c (S.sub x c e),fun p hp=>absurd (show p∈([]:List (F9×Obj))from hp) (by simp)⟩
  refine gx (env:=ac8 scope cl s2.heap.objs.size X.env)
   (fun n s'=>∃i σ' H',Inv (aK X scope cl (X.N++am) s2.heap.objs.size s2 H2 fp) [] σ' H' s'/\tn i s'.heap/\(∀b∈fp,H' b=none)/\W i n σ' H') ?_ m0
   ⟨0,_,H2,I3,T.keep _ _ _ st2 fun b _ o e=>old b o e,fun b hb=>(f2 b hb).1,w0⟩
  rintro n s' ⟨i,σ',H',I4,st4,fr4,w4⟩;rcases turn i n σ' H' w4 with⟨stop,hZ⟩|⟨go,step⟩
  ·refine thn (T.done (aK X scope cl (X.N++am) s2.heap.objs.size s2 H2 fp) rfl rfl rfl bA i _ s' _ H' (fun _ _=>False) I4 (fpc fr4) st4 stop) fun r s4 ⟨hr,I5⟩=>?_;subst hr;exact hRR s4 σ' H' I5 hZ
  ·refine thn (T.item (aK X scope cl (X.N++am) s2.heap.objs.size s2 H2 fp) rfl rfl rfl bA i _ s' _ H' (fun _ _=>False) I4 (fpc fr4) st4 go) fun r s5 ⟨u,hr,h5⟩=>?_;subst hr;refine thn h5 fun _ s6 ⟨x,H6,I6,r6,y6,st6,fr6⟩=>?_;have I6':=I6.pinned (fpc fr6) (T.obj _ _ st6);refine thn (hg _ _ _ _ _ s6 _ H6 x u _ I6' r6 (step x H6 y6)) fun _ s7 ⟨σ7,H7,I7,q7⟩=>?_;refine thn (hk _ _ _ _ _ s7 σ7 H7 _ I7 q7) fun kv s8 hup=>hup.el fun y H8 I8 r8 q8=>?_;refine thn (hv _ _ _ _ _ s8 σ7 H8 _ I8 q8) fun vv s9 hup=>hup.el fun v H9 I9 r9 q9=>?_;obtain⟨H10,⟨kvs,k,b,eD,ey,eb,hl,eH⟩,m',hm,w9⟩:=q9;subst ey;cases(show kv=P8 b from r8);refine yf (A:=X.A) (X:=aK X scope cl (X.N++am) s2.heap.objs.size s2 H2 fp) hu I9 eD eb hl r9 fun s10 I10=>?_;rw[<-eH]at I10;have keepfp:tn (i+1) s10.heap/\∀b∈fp,H10 b=none :=
    ⟨T.keep _ _ _ st6 fun b hb o e=>(I10.pin (b,o) (I0 _ (I0 _ (da hb e)))).1,fun b hb=>by
     obtain⟨o,e,d⟩:=T.obj _ _ st6 b hb;exact(I10.pin (b,o) (I0 _ (I0 _ (da hb e)))).2.1⟩
   exact⟨m',hm,i+1,σ7,H10,I10.unpinned,keepfp.1,keepfp.2,w9⟩
 exact codeAny_compStart_dict (loop _ rfl) (T.self _ 0 _ _ _ (T.keep _ _ _ st2 fun b _ o e=>old b o e) (loop _ rfl))
theorem sZ(I2:Inv X ag σ H2 s2) {fp:List F9}(f2:∀b∈fp,cV X ag H2 b)
  (I':Inv (aK X scope cl (X.N++am) s2.heap.objs.size s2 H2 fp) [] σ' H' s') {h':K4} (hs:N8 s2.heap.objs.size s'.heap h') :
  Inv X ag σ H' { s' with heap:=h' }:=by
 have hC:H' s2.heap.objs.size=none:=I'.free;have up:∀b o,b≠s2.heap.objs.size->s'.heap.get? b=some o->h'.get? b=some o:=fun b o hb e=>(hs.2 b hb).trans e;have nC:∀b u,H' b=some u->b≠s2.heap.objs.size:=fun b u e z=>by rw[z,hC]at e;cases e
 have hok:HOk X.prog X.w H' h':=fun b u e=>(I'.hok b u e).stay (fun c v hc q=>up c v (by
   rcases hc with rfl|hc
   ·exact nC _ _ e
   ·exact nC _ _ hc) q) (fun c q=>q) fun c xs q=>q
 have un:Un (frs X.stack) fp H2 H' s2.heap h':=by
  have U:=I'.base;have ltC:∀b o,s2.heap.get? b=some o->b≠s2.heap.objs.size:=fun b o e=>H0 (F5 e);refine⟨fun b o e nb hb hx=>up b o (ltC b o e) (U.keep b o e nb hb hx),fun b o e nb hb hx=>?_,U.free,fun b o e hx=>?_,U.tups,U.frzs,U.tbls⟩
  ·obtain⟨sl,q⟩:=U.slot b o e nb hb hx;exact⟨sl,up b _ (ltC b o e) q⟩
  ·obtain⟨o',q⟩:=U.there b o e hx;exact⟨o',up b _ (ltC b o e) q⟩
 exact I2.call' (s':={ s' with heap:=h' }) (ch:=fp) I'.os un hok I'.bare fun b hb=>⟨(f2 b hb).2.2.2.1,(f2 b hb).2.1,(f2 b hb).2.2.2.2.1,(f2 b hb).2.2.2.2.2⟩
def tDc(ms:List Bool) (k:Nat) (wi:TI) (g:TG) (tk tv:TE):TE:=fun σ H Q=>wi σ H fun J H1=>∀p,H1 p=none->∃(W:Nat->Nat->St->Hp->Prop) (Z:Hp->Prop),(∃m,W 0 m (dw ms k σ) (upd H1 p (.dT [])))/\pY p J g tk tv W Z/\∀H,Z H->Q (.ref p) H
theorem xk{i:Nat}{x:Str}{spos pos':Pos}(hu:X.A.units<Z9) (hN:X.N.Nodup) (hix:X.N[i]?=some x) (hx:X.env.scope.names.lookup x=some .local)
  (hsw:V9 (.DictComp kx vx [⟨tg,iter,[],0⟩] scope pos) (some (.Name x pos')) spos.line X.env=V2 true)
  (S:cT X scope cl ms am) (bA:X.calm=true) {wi:TI} (hi:PI X tg iter wi)
  (hg:∀C s H ex,PG (aK X scope cl (X.N++am) C s H ex) tg g) (hk:∀C s H ex,PE (aK X scope cl (X.N++am) C s H ex) kx tk) (hv:∀C s H ex,PE (aK X scope cl (X.N++am) C s H ex) vx tv)
  (hs:∀x,O1 iter X.env x=V2 x:=by intro _;rfl):PS X (.Assign [.Name x pos'] (.DictComp kx vx [⟨tg,iter,[],0⟩] scope pos) spos) (zO (tDc ms am.length wi g tk tv) (mC i)):=by
 intro ag s σ H D I h;rw[exec_Assign_Name_used _ _ _ _ hsw];refine s0 (U7 (s0 ?_));show J4 _ _ (do let _ <-comprehension (.DictComp kx vx [⟨tg,iter,[],0⟩] scope pos) scope X.env _ newDict false (T8 iter X.env) (some (U0 (.Name x pos') X.env))) _ _ s;refine s0 (M8 (S1 (use:=some (U0 (.Name x pos') X.env)) (Q:=fun _ s'=>SP X ag D .next s') rfl hs S.clos S.kind S.names
  (thn (hi ag s σ H _ I h) fun v s1 h1=>thn h1 fun itv s2 h2=>?_)) (fun _ s' hq=>F4 (F4 hq)) fun _ _ e=>e)
 obtain⟨it,fp,tn,J,H2,e,I2,T,st2,f2,q⟩:=h2;subst e;have hp:=I2.hok.fresh (F6 s2.heap.objs.size);obtain⟨W,Z,⟨m0,w0⟩,turn,q⟩:=q _ hp;refine K0 ?_;have I3:=I2.laid (a:=s2.heap.objs.size) (o:=.dT []) (h':=s2.heap.push { cls:=.type "dict",data:=.dict #[] }) (t':=s2.toks) (fun _ _ q=>F0 _ q) (F6 _) (l9 s2.heap I2.big);have f3:∀b∈fp,cV X ag (upd H2 s2.heap.objs.size (.dT [])) b:=fun b hb=>by
  obtain⟨o,e,_⟩:=T.obj _ _ st2 b hb;have hne:b≠s2.heap.objs.size:=H0 (F5 e);obtain⟨a1,a2⟩:=f2 b hb;exact⟨by rw[aA hne];exact a1,a2⟩
 refine sQ (s2:={ s2 with heap:=s2.heap.push { cls:=.type "dict",data:=.dict #[] } }) hu S bA hg hk hv I3 T (T.keep _ _ _ st2 fun b _ o e=>F0 _ e) f3 w0 turn
  (RR:=fun C=>compPost (K3 X.prog X.w) X.A X.xe (some (U0 (.Name x pos') X.env)) (fun _ s'=>SP X ag D .next s') (.ref s2.heap.objs.size) C) ?_
 intro s' σ' H' I' hZ;obtain⟨m,hm,_⟩:=I'.loc;have I4:=sZ I3 f3 I' (N8.refl _ s'.heap);have hq:=q H' hZ;show J4 _ _ (U0 (.Name x pos') X.env (.ref s2.heap.objs.size)) _ _ _;refine wpAny_assign_Name (jB I4 hN hix (.inl hx) (v:=.ref s2.heap.objs.size) rfl (fun s4 I5 hsame=>?_) (.inr hx));obtain⟨a,hsb,ha⟩:=hsame;have hsz:(s2.heap.push { cls:=.type "dict",data:=.dict #[] }).objs.size=s2.heap.objs.size+1:=R5 ..;have hLC:(s2.heap.push { cls:=.type "dict",data:=.dict #[] }).objs.size≠X.env.locals:=by rw[hsz];exact T0 (K6 I2.lt)
 have haC:(s2.heap.push { cls:=.type "dict",data:=.dict #[] }).objs.size≠a:=by
  rcases ha with rfl|ha
  ·exact hLC
  ·intro z;obtain⟨v,o,ho,_⟩:=I2.cell x a ha;rw[hsz]at z;exact absurd (K6 (F5 ho)) (by rw[<-z];exact O0 _)
 refine⟨m,hm.sameBut hsb haC,fun h' hs'=>?_⟩;refine⟨_,_,?_,hq⟩;exact Inv.turned (t':=s4.toks) (h':=h') (it:=(s2.heap.push { cls:=.type "dict",data:=.dict #[] }).objs.size) I5 (fun b o hb e=>(hs'.2 b hb).trans e) I'.free hLC (.inr (by rw[hsz];exact Nat.le_succ_of_le I2.sz)) (fun y c e=>by
  obtain⟨v,o,ho,_⟩:=I2.cell y c e;rw[hsz];exact H0 (K6 (F5 ho))) (fun p hp=>by
  rw[hsz];exact H0 (K6 (F5 (I2.pin p hp).1)))
end
section
variable{X:Cx}{tg iter vx:J5}{es:List J5}{pos:Pos}{scope:R0}{cl:List (Str×F9)}{ms:List Bool}{am:List Str}
def mN(g:GD) (ta:TAd) (tv:TEd) (p:F9):List D->DE->DH->(DH->Prop)->Prop
 |[],_,M,Q=>Q M
 |d::ds,Δ,M,Q=>∃ Δ',g d Δ=some Δ'/\ta Δ' M fun kds M1=>kds.length<=F2/\tv Δ' M1 fun v M2=>∃kvs ks,M2 p=some (.dT kvs)/\kds=ks.map kD/\kvs.length<F2/\mN g ta tv p ds Δ' (aw M2 p (.dT (kE kvs ks v))) Q
def dDc(ms:List Bool) (k:Nat) (wi:TId) (g:GD) (ta:TAd) (tv:TEd):TEd:=fun Δ M Q=>wi Δ M fun ds M1=>∀p,M1 p=none->mN g ta tv p ds (mH ms k Δ) (aw M1 p (.dT [])) fun M2=>Q (.ref p) M2
theorem Aj{K:o0}{wi:TId}{g:GD}{ta:TAd}{tv:TEd}{gv:TG}{ms:List Bool}{kk:Nat}
  (kg:∀(d:D) (v:V) (σ:St) (Δ Δ':DE) (M:DH) (H:Hp) (Q:St->Hp->Prop),SR K M H σ Δ->HR K M H->Rep K M H d v->g d Δ=some Δ'->(∀ σ',SR K M H σ' Δ'->Q σ' H)->gv v σ H Q) :
  ∀ σ H Q,up K (dDc ms kk wi g ta tv) σ H Q->tDc ms kk (upI K wi) gv (Cp (upA K ta)) (up K tv) σ H Q:=by
 rintro σ H Q ⟨Δ,M,R,sr,hr,q,k⟩;refine⟨Δ,M,_,sr,hr,q,fun ds M1 J H1 q1 e1 hr1 it=>fun p hp=>?_⟩;have e0:Ext M1 H1 (aw M1 p (.dT [])) (upd H1 p (.dT [])):=Ext.own hp;refine⟨fun i m σ' H'=>∃ Δ' M',m=ds.length-i/\i<=ds.length/\Ext M1 H1 M' H'/\HR K M' H'/\SR K M' H' σ' Δ'/\mN g ta tv p (ds.drop i) Δ' M' fun M2=>R (.ref p) M2,
  fun H'=>∃M',Ext M1 H1 M' H'/\HR K M' H'/\R (.ref p) M',⟨ds.length,_,_,by simp,R4 _,e0,hr1.put e0 ⟨[],aG,.nil⟩,((sr.ext e1).ext e0).comp ms kk,q1 p (hr1.fresh hp)⟩,?_,?_⟩
 ·rintro i m σ2 H2 ⟨Δ2,M2,rfl,hi2,e2,hr2,sr2,f2⟩;obtain⟨go,stop⟩:=it M2 H2 e2 hr2 i
  by_cases hlt:i<ds.length
  ·have hd:ds[i]?=some ds[i]:=by simp[hlt]
   obtain⟨g1,y1⟩:=go _ hd;rw[List.drop_eq_getElem_cons hlt]at f2;simp only[mN]at f2;obtain⟨Δ3,eg,f3⟩:=f2;refine .inr ⟨g1,fun x H' hy=>?_⟩;obtain⟨e3,hr3,rx⟩:=y1 x H' hy;refine kg _ x σ2 Δ2 Δ3 M2 H' _ (sr2.ext e3) hr3 rx eg fun σ3 sr3=>?_;refine⟨Δ3,M2,_,sr3,hr3,f3,fun kds M4 kvs' H4 ⟨hz,q4⟩ e4 hr4 rk=>⟨by rw[<-rk.length];exact hz,fun b hb=>?_⟩⟩;have e5:Ext M4 H4 M4 (upd H4 b (.tup kvs')):=Ext.new hr4 hb;refine⟨Δ3,M4,_,(sr3.ext e4).ext e5,hr4.new hb,q4,fun v M6 v6 H6 ⟨kvs,ks,em,ek,hl,q6⟩ e6 hr6 rv6=>?_⟩;subst ek;obtain⟨vs,h6,kr⟩:=hr6 p _ em;have eb:=(e6 b _ aG (hr4.fresh hb)).1;rw[i7 rk]at eb;have ew:Ext M6 H6 (aw M6 p (.dT (kE kvs ks v))) (upd H6 p (.dT (gq vs ks v6))):=Ext.write em;exact⟨_,⟨vs,ks,b,h6,rfl,eb,by rw[<-kr.length];exact hl,rfl⟩,ds.length-(i+1),by omega,Δ3,_,rfl,hlt,((((e2.trans e3).trans e4).trans e5).trans e6).trans ew,hr6.put ew ⟨_,aG,(kr.put ks rv6).ext ew⟩,(((sr3.ext e4).ext e5).ext e6).ext ew,q6⟩
  ·rw[List.drop_eq_nil_of_le (by omega)]at f2;exact .inl ⟨stop (by omega),M2,e2,hr2,f2⟩
 ·rintro H' ⟨M',e',hr',q'⟩;exact k _ M' _ _ q' (e1.trans e') hr' (by simp only[Rep])
end
end L2
namespace L2
open PySem PySem.W PyProof.Rows
section
variable{α β:Type}
def tw(n:Nat) (lt:Nat->Nat->Bool):KasT α->(α->Prop)->Prop
 |.ret a,Q=>Q a
 |.ask i j k,Q=>i<n/\j<n/\tw n lt (k (lt i j)) Q
theorem g7{n:Nat}{lt:Nat->Nat->Bool}{f:α->KasT β}{Q:β->Prop}:∀{t:KasT α},tw n lt t (fun a=>tw n lt (f a) Q)->tw n lt (t.bind f) Q
 |.ret _,h=>h
 |.ask _ _ _,h=>⟨h.1,h.2.1,g7 h.2.2⟩
theorem yl{n:Nat}{lt:Nat->Nat->Bool}{cmp:Nat->Nat->(Bool->Shared->Prop)->Shared->Prop}{J:Shared->Prop}(hc:∀i j C s,i<n->j<n->J s->(∀s',J s'->C (lt i j) s')->cmp i j C s) {Q:α->Prop}{G:α->Shared->Prop}(hG:∀a s,J s->Q a->G a s) :
  ∀{t:KasT α} {s:Shared},tw n lt t Q->J s->t.kasWp cmp G s
 |.ret _,s,h,hj=>hG _ s hj h
 |.ask i j k,s,h,hj=>hc i j _ s h.1 h.2.1 hj fun s' hj'=>yl hc hG h.2.2 hj'
variable{O:KeyOrd}{key:Nat->O.α}{n:Nat}
def dP(O:KeyOrd) (key:Nat->O.α) (i j:Nat):Bool:=O.blt (key i) (key j)
def AU(O:KeyOrd) (key:Nat->O.α):KeyKind:={ O with keyOf:=fun v=>match v with|.int i _=>some (key i.toNat)|_=>none,dflt:=key 0 }
def m5(p:Array Nat):Array Keyed:=p.map fun(i:Nat)=>((Value.int (i:Int) 0,Value.none):Keyed)
noncomputable def kp(O:KeyOrd) (key:Nat->O.α) (p:Array Nat) (i:Nat):O.α:=key (p.getD i 0)
theorem mE{p:Array Nat}{i:Nat}(h:i<p.size):KK (AU O key) (m5 p) i=kp O key p i:=by
 unfold KK kp m5;rw[Array.getElem?_map,Array.getElem?_eq_getElem h];simp[AU,Array.getD,h]
theorem Ah{p:Array Nat}{i j:Nat}:m5 (kas_rev p i j)=mirror (m5 p) i j ((j-i) / 2):=by
 unfold m5 kas_rev mirror;exact(kas_swaps_map _ _ _ _ _).symm
theorem zG{p:Array Nat}{k d:Nat}:m5 (bubble p k d)=bubble (m5 p) k d:=by
 unfold m5 bubble;exact(kas_swaps_map _ _ _ _ _).symm
theorem p8{p:Array Nat}:(m5 p).size=p.size:=by simp[m5]
theorem xH{p:Array Nat}{i j:Nat}:(kas_rev p i j).size=p.size:=mirror_size _ _ _ _
theorem sO{p:Array Nat}{i j k:Nat}(hj:j<=p.size) (hk:k<p.size):kp O key (kas_rev p i j) k=if i<=k/\k<j then kp O key p (i+j-1-k)else kp O key p k:=by
 rw[<-mE (by rw[xH];exact hk),Ah,KK_mirror (by rw[p8];exact hj)]
 by_cases h:i<=k/\k<j
 ·rw[if_pos h,if_pos h,mE (by lia)]
 ·rw[if_neg h,if_neg h,mE hk]
theorem xF{p:Array Nat}{src d k:Nat}(hs:src<p.size) (hd:d<=src) (hk:k<p.size):kp O key (bubble p src d) k=if k=src-d then kp O key p src else if src-d<k/\k<=src then kp O key p (k-1)else kp O key p k:=by
 rw[<-mE (by rw[bubble_size];exact hk),zG,KK_bubble (by rw[p8];exact hs) hd]
 by_cases h1:k=src-d
 ·rw[if_pos h1,if_pos h1,mE hs]
 ·rw[if_neg h1,if_neg h1]
  by_cases h2:src-d<k/\k<=src
  ·rw[if_pos h2,if_pos h2,mE (by lia)]
  ·rw[if_neg h2,if_neg h2,mE hk]
def cy(n:Nat) (p:Array Nat):Prop:=p.toList.Perm (List.range n)
theorem cy.size{p:Array Nat}(h:cy n p):p.size=n:=by
 have:=h.length_eq;simpa using this
theorem cy.lt{p:Array Nat}(h:cy n p) {i:Nat}(hi:i<n):p.getD i 0<n:=by
 have hs:=h.size;have e:p.getD i 0=p.toList[i]'(by simp;lia):=by simp[Array.getD,show i<p.size by lia]
 rw[e];exact List.mem_range.mp (h.mem_iff.mp (List.getElem_mem _))
theorem cy.rev{p:Array Nat}(h:cy n p) (i j:Nat):cy n (kas_rev p i j):=(Array.perm_iff_toList_perm.mp (mirror_perm p i j _)).trans h
theorem cy.bub{p:Array Nat}(h:cy n p) (i j:Nat):cy n (bubble p i j):=(Array.perm_iff_toList_perm.mp (bubble_perm p i j)).trans h
def c9(O:KeyOrd) (key:Nat->O.α) (p:Array Nat) (k:Nat):Prop:=∀i j,i<=j->j<k->O.kle (kp O key p i) (kp O key p j)
def iz(O:KeyOrd) (key:Nat->O.α) (p:Array Nat) (k:Nat):Prop:=∀i j,i<=j->j<k->O.kle (kp O key p j) (kp O key p i)
theorem c9.more{p:Array Nat}{x:Nat}(h:c9 O key p x) (hx:1<=x) (le:O.kle (kp O key p (x-1)) (kp O key p x)):c9 O key p (x+1):=fun i j hij hj=>by
 rcases Nat.lt_or_ge j x with h1|h1
 ·exact h i j hij h1
 ·obtain rfl:j=x:=by lia
  rcases Nat.lt_or_ge i j with h2|h2
  ·exact KeyOrd.kle_trans (h i (j-1) (by lia) (by lia)) le
  ·obtain rfl:i=j:=by lia
   exact KeyOrd.kle_refl _
theorem iz.more{p:Array Nat}{x:Nat}(h:iz O key p x) (hx:1<=x) (le:O.kle (kp O key p x) (kp O key p (x-1))):iz O key p (x+1):=fun i j hij hj=>by
 rcases Nat.lt_or_ge j x with h1|h1
 ·exact h i j hij h1
 ·obtain rfl:j=x:=by lia
  rcases Nat.lt_or_ge i j with h2|h2
  ·exact KeyOrd.kle_trans le (h i (j-1) (by lia) (by lia))
  ·obtain rfl:i=j:=by lia
   exact KeyOrd.kle_refl _
theorem sj{p:Array Nat}(hp:cy n p):∀{f a:Nat}{Q:Nat->Prop},1<=a->a+f<=n->c9 O key p a ->
  (∀m,a<=m->m<=a+f->c9 O key p m->(m=a+f∨O.klt (kp O key p m) (kp O key p (m-1)))->Q m)->tw n (dP O key) (kas_asc p f a) Q
 |0,a,Q,h1,h2,hs,k=>k a (Nat.le_refl _) (Nat.le_refl _) hs (.inl rfl)
 |f+1,a,Q,h1,h2,hs,k=>by
  refine⟨hp.lt (by lia),hp.lt (by lia),?_⟩;cases q:dP O key (p.getD a 0) (p.getD (a-1) 0)with
  |true=>exact k a (Nat.le_refl _) (by lia) hs (.inr q)
  |false=>exact sj hp (by lia) (by lia) (hs.more h1 q) fun m m1 m2 ms mo=>k m (by lia) (by lia) ms (mo.imp (fun e=>by lia) id)
theorem jj{p:Array Nat}{i j:Nat}(hj:j<=p.size) (he:∀k,i<=k->k<j->kp O key p k=kp O key p (j-1)) {k:Nat}(hk:k<p.size):kp O key (kas_rev p i j) k=kp O key p k:=by
 rw[sO hj hk]
 by_cases h:i<=k/\k<j
 ·rw[if_pos h,he _ (by lia) (by lia),he k h.1 h.2]
 ·rw[if_neg h]
theorem kT:∀{f:Nat}{p:Array Nat}{x q:Nat}{Q:Array Nat×Nat×Nat->Prop},cy n p->1<=x->x+f<=n->iz O key p x->q+1<=x->(∀i,x-(q+1)<=i->i<x->kp O key p i=kp O key p (x-1)) ->
  (∀p' m q',cy n p'->1<=m->m<=x+f->iz O key p' m->q'+1<=m->(∀i,m-(q'+1)<=i->i<m->kp O key p' i=kp O key p' (m-1))->Q (p',m,q'))->tw n (dP O key) (kas_desc f p x q) Q
 |0,p,x,q,Q,hp,h1,h2,hs,hq,he,k=>k p x q hp h1 (Nat.le_refl _) hs hq he
 |f+1,p,x,q,Q,hp,h1,h2,hs,hq,he,k=>by
  have hz:=hp.size;refine⟨hp.lt (by lia),hp.lt (by lia),?_⟩;cases c:dP O key (p.getD x 0) (p.getD (x-1) 0)with
  |true =>
   have lt:O.klt (kp O key p x) (kp O key p (x-1)):=c;simp only[if_true]
   by_cases h0:q > 0
   ·rw[if_pos h0];have same:∀{i},i<n->kp O key (kas_rev p (x-(q+1)) x) i=kp O key p i:=fun hi=>jj (by lia) he (by lia);refine kT (hp.rev _ _) (by lia) (by lia) ?_ (by lia) (fun i i1 i2=>by obtain rfl:i=x:=(by lia);rfl) fun p' m q' a b c' d e g=>k p' m q' a b (by lia) d e g;refine iz.more (fun i j hij hj=>?_) h1 ?_
    ·rw[same (by lia),same (by lia)];exact hs i j hij hj
    ·rw[same (by lia),same (by lia)];exact KeyOrd.kle_of_klt lt
   ·rw[if_neg h0];exact kT hp (by lia) (by lia) (hs.more h1 (KeyOrd.kle_of_klt lt)) (by lia) (fun i i1 i2=>by obtain rfl:i=x:=(by lia);rfl) fun p' m q' a b c' d e g=>k p' m q' a b (by lia) d e g
  |false =>
   simp only[Bool.false_eq_true,if_false];refine⟨hp.lt (by lia),hp.lt (by lia),?_⟩;cases c2:dP O key (p.getD (x-1) 0) (p.getD x 0)with
   |true=>exact k p x q hp h1 (by lia) hs hq he
   |false =>
    simp only[Bool.false_eq_true,if_false];have eq:kp O key p x=kp O key p (x-1):=O.total _ _ c c2;refine kT hp (by lia) (by lia) (hs.more h1 c2) (by lia) (fun i i1 i2=>?_) fun p' m q' a b c' d e g=>k p' m q' a b (by lia) d e g;rw[show x+1-1=x by lia];rcases Nat.lt_or_ge i x with h|h
    ·rw[eq];exact he i (by lia) h
    ·obtain rfl:i=x:=by lia
     rfl
theorem uo{p:Array Nat}{m nrem:Nat}{Q:Nat×Array Nat->Prop}(hp:cy n p) (h1:1<=m) (h2:m<=nrem) (h3:nrem<=n) (hs:iz O key p m)
  (k:∀m' p',cy n p'->1<=m'->m'<=nrem->c9 O key p' m'->Q (m',p')):tw n (dP O key) (kas_tail3 m nrem p) Q:=by
 have hz:=hp.size;unfold kas_tail3;refine g7 (sj (hp.rev 0 m) h1 (by lia) (fun i j hij hj=>?_) fun m' a b c _=>k m' _ (hp.rev 0 m) (by lia) (by lia) c);rw[sO (by lia) (by lia),sO (by lia) (by lia),if_pos ⟨by lia,by lia⟩,if_pos ⟨by lia,by lia⟩];exact hs _ _ (by lia) (by lia)
theorem j0{p:Array Nat}{m nrem:Nat}{Q:Nat×Array Nat->Prop}(hp:cy n p) (h2:m+1<=nrem) (h3:nrem<=n) (hs:iz O key p (m+1))
  (k:∀m' p',cy n p'->1<=m'->m'<=nrem->c9 O key p' m'->Q (m',p')):tw n (dP O key) (kas_descPart m nrem p) Q:=by
 unfold kas_descPart;refine g7 (kT hp (by lia) (by lia) hs (by lia) (fun i i1 i2=>by obtain rfl:i=m:=(by lia);rfl) fun p' x q' hp' x1 x2 hs' hq he=>?_);have hz:=hp'.size;dsimp only
 by_cases h0:q' > 0
 ·rw[if_pos h0];refine uo (hp'.rev _ _) x1 (by lia) h3 (fun i j hij hj=>?_) k;rw[jj (by lia) he (by lia),jj (by lia) he (by lia)];exact hs' i j hij hj
 ·rw[if_neg h0];exact uo hp' x1 (by lia) h3 hs' k
theorem yw{p:Array Nat}{nrem:Nat}{Q:Nat×Array Nat->Prop}(hp:cy n p) (h1:1<=nrem) (h3:nrem<=n)
  (k:∀m' p',cy n p'->1<=m'->m'<=nrem->c9 O key p' m'->Q (m',p')):tw n (dP O key) (kas_count nrem p) Q:=by
 have hz:=hp.size;unfold kas_count;refine g7 (sj hp (Nat.le_refl 1) (by lia) (fun i j hij hj=>by obtain rfl:i=j:=(by lia);exact KeyOrd.kle_refl _) fun m m1 m2 ms mo=>?_)
 by_cases e:m=nrem
 ·rw[if_pos (by simpa using e)];exact k m p hp m1 (by lia) ms
 ·rw[if_neg (by simpa using e)];have lt:O.klt (kp O key p m) (kp O key p (m-1)):=mo.resolve_left (by lia)
  by_cases g:m > 1
  ·rw[if_pos g];refine⟨hp.lt (by lia),hp.lt (by lia),?_⟩;cases c:dP O key (p.getD 0 0) (p.getD (m-1) 0)with
   |true=>exact k m p hp m1 (by lia) ms
   |false =>
    simp only[Bool.false_eq_true,if_false];have like:∀i,0<=i->i<m->kp O key p i=kp O key p (m-1):=fun i _ hi =>
     KeyOrd.kle_antisymm (ms i (m-1) (by lia) (by lia)) (KeyOrd.kle_trans (show O.kle (kp O key p (m-1)) (kp O key p 0)from c) (ms 0 i (by lia) hi))
    have same:∀{i},i<n->kp O key (kas_rev p 0 m) i=kp O key p i:=fun hi=>jj (by lia) like (by lia);refine j0 (hp.rev _ _) (by lia) h3 (iz.more (fun i j hij hj=>?_) m1 ?_) k
    ·rw[same (by lia),same (by lia),like i (by lia) (by lia),like j (by lia) hj];exact KeyOrd.kle_refl _
    ·rw[same (by lia),same (by lia)];exact KeyOrd.kle_of_klt lt
  ·rw[if_neg g];obtain rfl:m=1:=by lia
   refine j0 hp (by lia) h3 (iz.more (fun i j hij hj=>by obtain rfl:i=j:=(by lia);exact KeyOrd.kle_refl _) (Nat.le_refl 1) (KeyOrd.kle_of_klt lt)) k
theorem mi{p:Array Nat}(hp:cy n p) {x:Nat}(hx:x<n) (hs:c9 O key p x):∀{f l r:Nat}{Q:Nat->Prop},l<=r->r<=x->r-l<=f ->
  (∀i,i<l->O.kle (kp O key p i) (kp O key p x))->(∀i,r<=i->i<x->O.klt (kp O key p x) (kp O key p i)) ->
  (∀l',l'<=x->(∀i,i<l'->O.kle (kp O key p i) (kp O key p x))->(∀i,l'<=i->i<x->O.klt (kp O key p x) (kp O key p i))->Q l')->tw n (dP O key) (kas_place p x f l r) Q
 |0,l,r,Q,h1,h2,h3,a,b,k=>by
  obtain rfl:l=r:=by lia
  exact k l h2 a b
 |f+1,l,r,Q,h1,h2,h3,a,b,k=>by
  unfold kas_place
  by_cases g:l>=r
  ·rw[if_pos g];obtain rfl:l=r:=by lia
   exact k l h2 a b
  ·rw[if_neg g];refine⟨hp.lt hx,hp.lt (by lia),?_⟩;cases c:dP O key (p.getD x 0) (p.getD ((l+r) / 2) 0)with
   |true =>
    simp only[if_true];exact mi hp hx hs (by lia) (by lia) (by lia) a (fun i i1 i2=>KeyOrd.klt_of_klt_of_kle (show O.klt (kp O key p x) (kp O key p ((l+r) / 2))from c) (hs _ _ i1 i2)) k
   |false =>
    simp only[Bool.false_eq_true,if_false];exact mi hp hx hs (by lia) (by lia) (by lia) (fun i hi=>KeyOrd.kle_trans (hs i ((l+r) / 2) (by lia) (by lia)) (show O.kle (kp O key p ((l+r) / 2)) (kp O key p x)from c)) b k
theorem yv:∀{f:Nat}{p:Array Nat}{x:Nat}{Q:Array Nat->Prop},cy n p->1<=x->x+f<=n->c9 O key p x->(∀p',cy n p'->c9 O key p' (x+f)->Q p')->tw n (dP O key) (kas_bin f p x) Q
 |0,p,x,Q,hp,_,_,hs,k=>k p hp hs
 |f+1,p,x,Q,hp,h1,h2,hs,k=>by
  have hz:=hp.size;refine g7 (mi hp (by lia) hs (Nat.zero_le _) (Nat.le_refl _) (by lia) (fun i hi=>by lia) (fun i a b=>by lia) fun l hl lo hi=>?_);refine yv (hp.bub _ _) (by lia) (by lia) (fun i j hij hj=>?_) fun p' a b=>k p' a (by rw[show x+(f+1)=x+1+f by lia];exact b);rw[xF (by lia) (by lia) (by lia),xF (by lia) (by lia) (by lia),show x-(x-l)=l by lia]
  by_cases a1:i=l
  ·rw[if_pos a1]
   by_cases b1:j=l
   ·rw[if_pos b1];exact KeyOrd.kle_refl _
   ·rw[if_neg b1,if_pos (by lia)];exact KeyOrd.kle_of_klt (hi _ (by lia) (by lia))
  ·rw[if_neg a1]
   by_cases a2:l<i/\i<=x
   ·rw[if_pos a2,if_neg (by lia),if_pos (by lia)];exact hs _ _ (by lia) (by lia)
   ·rw[if_neg a2]
    by_cases b1:j=l
    ·rw[if_pos b1];exact lo _ (by lia)
    ·rw[if_neg b1]
     by_cases b2:l<j/\j<=x
     ·rw[if_pos b2];exact hs _ _ (by lia) (by lia)
     ·rw[if_neg b2];exact hs _ _ hij (by lia)
theorem Ac(h:1<=n) {Q:Array Nat->Prop}(k:∀p,cy n p->c9 O key p n->Q p):tw n (dP O key) (kas_sort n) Q:=by
 have h0:cy n (List.toArray (List.range n)):=List.Perm.refl _;unfold kas_sort;refine g7 (yw h0 h (Nat.le_refl _) fun m p hp m1 m2 ms=>?_);dsimp only
 by_cases g:m<n
 ·rw[if_pos g];have e:max m 1=m:=by lia
  rw[e];exact yv hp m1 (by lia) ms fun p' a b=>k p' a (by rwa [show m+(n-m)=n by lia]at b)
 ·rw[if_neg g];obtain rfl:m=n:=by lia
  exact k p hp ms
end
end L2
namespace L2
open PySem PySem.W PySem.Calls PyProof.Rows
section
variable{prog:Program}{w:World}{A:Around}{E:Value->Shared->Prop}{O:KeyOrd}
def gI(vs:List Value) (p:Array Nat):List Value:=p.toList.map fun i=>vs.getD i Value.none
theorem nE{vs:List Value}{p:Array Nat}(h:cy vs.length p):(gI vs p).length=vs.length:=by
 unfold gI;rw[List.length_map,Array.length_toList];exact h.size
def nO(x:Addr) (s t:Shared):Prop:=∀b o,b≠x->s.heap.get? b=some o->t.heap.get? b=some o
theorem xX{s:Shared}{x:Addr}{vs:List Value}{n:Nat}{key:Nat->O.α}{κ:SortKind}{P:PySem.Fin->Shared->Prop}(hx:s.heap.get? x=some (seqObj "list" vs.toArray n)) (hz:vs.length<64)
  (hk:∀s1 Q,2<=vs.length->nO x s s1->Q κ s1->wpAny (model prog w) A (keyKind' vs.toArray) Q (fun _ _=>False) s1)
  (hc:∀i j s1 C,i<vs.length->j<vs.length->nO x s s1->C (dP O key i j) s1->kas_ask prog w A κ vs i j C s1)
  (k:∀p c h',cy vs.length p->c9 O key p vs.length->(∀b o,b≠x->s.heap.get? b=some o->h'.get? b=some o)->h'.get? x=some (seqObj "list" (gI vs p).toArray c)->P (.done (.ret .none)) { s with heap:=h' }) :
  wpAny (model prog w) A (Builtin.«list.sort» ⟨[.ref x],[]⟩) P E s:=by
 have lx:x<s.heap.objs.size:=Heap.lt_size hx;obtain⟨c1,h1⟩:∃c,(s.heap.update x (Obj.mapSeq fun _=>#[])).get? x=some (seqObj "list" #[] c):=⟨_,get?_update_seq hx (fun _=>#[])⟩;rw[list_sort_plain];refine wpAny_bind (listItems_at hx rfl (wpAny_bind (listUpdate_at hx rfl (wpAny_bind (seqEpoch_at h1 rfl (wpAny_bind (wpAny_newTuple (wpAny_bind (wpAny_newList (wpAny_holding ?_) (Nat.zero_le _))) ?_)))) ?_ (Nat.zero_le _))))
 rotate_left
 ·show vs.length<=_;rw[sizeLine_eq];lia
 ·rw[List.size_toArray,sizeLine_eq];lia
 generalize hh:((s.heap.update x (Obj.mapSeq fun _=>#[])).push (seqObj "tuple" vs.toArray 0)).push (seqObj "list" #[] 0)=h2;show wpAny _ A _ P E { s with heap:=h2 };have g2:h2.get? x=some (seqObj "list" #[] c1):=by
  rw[<-hh];exact Heap.get?_push_of_some _ (Heap.get?_push_of_some _ h1)
 have st:nO x s { s with heap:=h2 }:=fun b o ne e=>by
  show h2.get? b=some o;rw[<-hh];exact Heap.get?_push_of_some _ (Heap.get?_push_of_some _ (by rw[Heap.get?_update_ne _ _ _ _ ne];exact e))
 have fin:∀p,cy vs.length p->c9 O key p vs.length->P (.done (.ret .none)) { s with heap:=h2.update x (Obj.mapSeq fun _=>(gI vs p).toArray) }:=fun p hp hr =>
  k p _ _ hp hr (fun b o ne e=>by rw[Heap.get?_update_ne _ _ _ _ ne];exact st b o ne e) (get?_update_seq g2 fun _=>(gI vs p).toArray)
 dsimp only
 by_cases few:vs.toArray.size<2
 ·rw[if_pos few,if_pos few];refine wpAny_bind (wpAny_pure ?_);rw[StateT.run_pure];refine wpAny_bind (wpAny_pure ?_);dsimp only;have few':vs.length<2:=by rw[List.size_toArray]at few;exact few
  have e0:(arrOf (SortSt.mk' general' (vs.toArray.zip vs.toArray) #[] 7 none)).map (·.2)=(gI vs (List.toArray (List.range vs.length))).toArray:=by
   refine kat_snds rfl ?_;have e:=kas_range (vs.toArray.zip vs.toArray);have z0:(vs.toArray.zip vs.toArray).size=vs.length:=by simp
   rw[z0]at e;exact e.symm
  rw[e0];refine wpAny_bind (seqEpoch_at g2 rfl (wpAny_bind (listUpdate_at g2 rfl ?_ (Nat.zero_le _) ?_)))
  ·simp only[failedOf,bne_self_eq_false,Bool.false_eq_true,if_false];exact wpAny_pure (fin _ (List.Perm.refl _) fun i j hij hj=>by
    obtain rfl:i=j:=by lia
    exact KeyOrd.kle_refl _)
  ·rw[List.size_toArray,nE (show cy vs.length (List.toArray (List.range vs.length))from List.Perm.refl _),sizeLine_eq];lia
 ·rw[if_neg few,if_neg few];have two:2<=vs.length:=by rw[List.size_toArray]at few;lia
  refine wpAny_bind (wpAny_mono (hk { s with heap:=h2 } (fun q t=>q=κ/\t=({ s with heap:=h2 }:Shared)) two st ⟨rfl,rfl⟩) ?_ fun _ _ z=>z.elim);rintro κ' _ ⟨ek,rfl⟩;rw[ek];have ask:(kas_sort vs.length).kasWp (kas_ask prog w A κ vs) (fun p t=>t=({ s with heap:=h2 }:Shared)/\cy vs.length p/\c9 O key p vs.length) { s with heap:=h2 } :=
   yl (J:=fun t=>t=({ s with heap:=h2 }:Shared)) (lt:=dP O key) (Q:=fun p=>cy vs.length p/\c9 O key p vs.length) (fun i j C t hi hj ht hC=>by subst ht;exact hc i j _ C hi hj st (hC _ rfl)) (fun p t ht hq=>⟨ht,hq⟩) (Ac (by lia) fun p a b=>⟨a,b⟩) rfl
  refine wpAny_bind (wpAny_mono (kat_run (Q:=fun u t=>∃p:Array Nat,arrOf u=p.map (kas_item (vs.toArray.zip vs.toArray))/\failedOf u=none/\t=({ s with heap:=h2 }:Shared)/\cy vs.length p/\c9 O key p vs.length) rfl two hz (fun p u t _ a2 a3 a4=>⟨p,a2,a3,a4⟩) ask) ?_ fun _ _ z=>z);rintro⟨⟨⟩,u⟩ t ⟨p,ea,ef,rfl,hp,hr⟩;dsimp only;have e0:(arrOf u).map (·.2)=(gI vs p).toArray:=kat_snds rfl ea;rw[e0];refine wpAny_bind (seqEpoch_at g2 rfl (wpAny_bind (listUpdate_at g2 rfl ?_ (Nat.zero_le _) ?_)))
  ·rw[ef];simp only[bne_self_eq_false,Bool.false_eq_true,if_false];exact wpAny_pure (fin p hp hr)
  ·rw[List.size_toArray,nE hp,sizeLine_eq];lia
end
noncomputable def ltP(a b:Int×Int):Bool:=decide (a.1<b.1) || (decide (a.1=b.1)&&decide (a.2<b.2))
def leP(a b:Int×Int):Bool:=! ltP b a
theorem ic{a b:Int×Int}:ltP a b=true↔a.1<b.1∨(a.1=b.1/\a.2<b.2):=by simp[ltP]
theorem k9{a b:Int×Int}:ltP a b=false↔b.1<a.1∨(a.1=b.1/\b.2<=a.2):=by
 rw[Bool.eq_false_iff,Ne,ic];lia
def DJ:KeyOrd where
 α:=Int×Int
 blt:=ltP
 irrefl a:=by rw[k9];lia
 trans a b c h1 h2:=by rw[ic]at *;lia
 negTrans a b c h:=by rw[ic,ic];rw[ic]at h;lia
 total a b h1 h2:=by
  rw[k9]at h1 h2;exact Prod.ext (by lia) (by lia)
theorem wO{a b:Int×Int}(h1:leP a b=true) (h2:leP b a=true):a=b:=by
 simp only[leP,Bool.not_eq_true',k9]at h1 h2;exact Prod.ext (by lia) (by lia)
def gk(ps:List (Int×Int)):List (Int×Int):=ps.mergeSort leP
theorem iL(ps:List (Int×Int)):(gk ps).Perm ps:=List.mergeSort_perm _ _
theorem lX(ps:List (Int×Int)):(gk ps).Pairwise fun a b=>leP a b=true :=
 List.pairwise_mergeSort (fun a b c h1 h2=>by simp only[leP,Bool.not_eq_true',k9]at *;lia) (fun a b=>by
  cases h:leP a b with
  |true=>rfl
  |false =>
   simp only[leP,Bool.not_eq_false',ic]at h;simp only[Bool.false_or,leP,Bool.not_eq_true',k9];lia) ps
theorem lL{ps qs:List (Int×Int)}(h:qs.Perm ps) (hs:qs.Pairwise fun a b=>leP a b=true):qs=gk ps :=
 List.Perm.eq_of_pairwise (le:=fun a b=>leP a b=true) (fun a b _ _ h1 h2=>wO h1 h2) hs (lX ps) (h.trans (iL ps).symm)
def pD(p:Int×Int):D:=.tup [.int p.1,.int p.2]
noncomputable def gB:List D->Option (List (Int×Int))
 |[]=>some []
 |.tup [.int i,.int j]::ds=>(gB ds).map ((i,j)::·)
 |_=>none
theorem om:∀{ps:List (Int×Int)},gB (ps.map pD)=some ps
 |[]=>rfl
 |p::ps=>by simp[gB,pD,om (ps:=ps)]
theorem sA:∀{ds:List D}{ps:List (Int×Int)},gB ds=some ps->ds=ps.map pD:=by
 intro ds
 induction ds using gB.induct with
 |case1=>intro ps e;cases e;rfl
 |case2 i j ds ih =>
  intro ps e;simp only[gB]at e;cases q:gB ds with
  |none=>rw[q]at e;cases e
  |some qs=>rw[q]at e;cases e;rw[ih q];rfl
 |case3 ds h1 h2=>intro ps e;rw[gB]at e<;>simp_all
section
variable{X:Cx}{ag:List (Addr×Obj)}{s:Shared}{σ:St}{H:Hp}{M:DH}
theorem vX(I:Inv X ag σ H s) {ps:List (Int×Int)}{vs:List V}{us:List Value}(rl:ar X.K M H (ps.map pD) vs) (rv:aB vs us) {i:Nat}(hi:i<ps.length) :
  ∃a t u,us[i]?=some (.ref a)/\IsTup s.heap a #[.int ps[i].1 t,.int ps[i].2 u]:=by
 obtain⟨v,g,r⟩:=rl.get (i:=i) (d:=pD ps[i]) (by simp[hi]);obtain⟨u',g',r'⟩:=rv.get g;simp only[pD,Rep]at r;obtain⟨a,ws,rfl,sq,rw_⟩:=r;cases r';obtain⟨its,rv2,tp,hz⟩:=I.tuple sq.sq;simp only[ar,Rep]at rw_;obtain⟨_,_,rfl,rfl,_,_,rfl,rfl,rfl⟩:=rw_;obtain⟨x,y,rfl,⟨t,rfl⟩,⟨u,rfl⟩⟩:=aB.two rv2;exact⟨a,t,u,g',tp⟩
theorem fV{us:List Value}{i:Nat}{v:Value}(h:us[i]?=some v):us.getD i Value.none=v:=by
 rw[List.getD_eq_getElem?_getD,h];rfl
theorem oP{h:Heap}:∀{ps:List (Int×Int)}{us:List Value},us.length=ps.length->(∀i (hi:i<ps.length),∃a t u,us[i]?=some (.ref a)/\IsTup h a #[.int ps[i].1 t,.int ps[i].2 u])->∃fs,KatTups h us fs/\fs.length=ps.length/\∀f∈fs,∃i t,f=Value.int i t
 |[],[],_,_=>⟨[],KatTups.nil,rfl,fun _ h=>(nomatch h)⟩
 |p::ps,u::us,hl,k=>by
  obtain⟨fs,h1,h2,h3⟩:=oP (ps:=ps) (us:=us) (by simpa using hl) fun i hi=>k (i+1) (by simpa using hi);obtain⟨a,t,t',e,o,ho,hc,n,hd⟩:=k 0 (by simp);simp only[List.getElem?_cons_zero,Option.some.injEq]at e;subst e;exact⟨_::fs,KatTups.cons ho hc hd rfl h1,by simp[h2],fun f hf=>by
   rcases List.mem_cons.mp hf with rfl|hf
   ·exact⟨_,_,rfl⟩
   ·exact h3 f hf⟩
 |[],_::_,hl,_=>by simp at hl
 |_::_,[],hl,_=>by simp at hl
theorem qM{prog:Program}{w:World}{A:Around}{E:Value->Shared->Prop}{s:Shared}{x y:Addr}{p q:Int×Int}{t1 t2 t3 t4:Tok}{C:Bool->Shared->Prop}(hx:IsTup s.heap x #[.int p.1 t1,.int p.2 t2]) (hy:IsTup s.heap y #[.int q.1 t3,.int q.2 t4]) (k:C (ltP p q) s) :
  wpAny (model prog w) A (keyLt' (tuples' true) (.ref x) (.ref y)) C E s:=by
 obtain⟨o1,h1,_,n1,d1⟩:=hx;obtain⟨o2,h2,_,n2,d2⟩:=hy;refine kat_lt h1 d1 h2 d2 ?_;refine kat_cons (wpAny_eqBool_int ?_);cases e:(p.1==q.1)with
 |false =>
  refine kat_no (oneLt_int ?_);have:decide (p.1<q.1)=ltP p q:=by
   have e':¬ p.1=q.1:=by simpa using e
   simp[ltP,e']
  rw[this];exact k
 |true =>
  have e':p.1=q.1:=by simpa using e
  refine kat_yes (kat_cons (wpAny_eqBool_int ?_));cases g:(p.2==q.2)with
  |false =>
   refine kat_no (kat_one _ _ ?_);refine wpAny_lt_int ?_;have:decide (p.2<q.2)=ltP p q:=by simp[ltP,e']
   rw[this];exact k
  |true =>
   have g':p.2=q.2:=by simpa using g
   refine kat_yes (kat_nil ?_);have:decide ((#[Value.int p.1 t1,Value.int p.2 t2]:Array Value).size<(#[Value.int q.1 t3,Value.int q.2 t4]:Array Value).size)=ltP p q:=by simp[ltP,e',g']
   rw[this];exact k
def kp_(p:Array Nat) (i:Nat):Nat:=p.getD i 0
theorem dn{h h':Heap}{a:Addr}{its:Array Value}(t:IsTup h a its) (k:∀b o,h.get? b=some o->h'.get? b=some o):IsTup h' a its :=
 let⟨o,ho,hc,hd⟩:=t
 ⟨o,k _ _ ho,hc,hd⟩
theorem hJ{vs:List V}{us:List Value}(rv:aB vs us):∀{l:List Nat},(∀i∈l,i<vs.length)->aB (l.map fun i=>vs.getD i .non) (l.map fun i=>us.getD i Value.none)
 |[],_=>.nil
 |i::l,h=>by
  have hi:=h i (.head _);obtain⟨u,g,r⟩:=rv.get (List.getElem?_eq_getElem hi);rw[List.map_cons,List.map_cons];refine .cons ?_ (hJ rv fun j hj=>h j (.tail _ hj));rw[fV g,List.getD_eq_getElem?_getD,List.getElem?_eq_getElem hi];exact r
theorem jE{K:PySem.W.Frag}{ps:List (Int×Int)}{vs:List V}(rl:ar K M H (ps.map pD) vs):∀{l:List Nat},(∀i∈l,i<ps.length)->ar K M H ((l.map fun i=>ps.getD i (0,0)).map pD) (l.map fun i=>vs.getD i .non)
 |[],_=>rfl
 |i::l,h=>by
  have hi:=h i (.head _);obtain⟨v,g,r⟩:=rl.get (i:=i) (d:=pD ps[i]) (by simp[hi]);simp only[List.map_cons,ar];refine⟨v,_,?_,?_,jE rl fun j hj=>h j (.tail _ hj)⟩
  ·rw[List.getD_eq_getElem?_getD,g];rfl
  ·rw[List.getD_eq_getElem?_getD,List.getElem?_eq_getElem hi];exact r
theorem ou(ps:List (Int×Int)):(List.range ps.length).map (fun i=>ps.getD i (0,0))=ps:=by
 apply List.ext_getElem (by simp);intro i h1 h2;simp[List.getElem?_eq_getElem h2]
end
end L2
namespace L2
open PySem PySem.Spec PyProof.Rows
theorem Ft{X:Cx}{pos:Pos}:QEd X (.Dict [] [] pos) dDT:=by
 simp only[QEd.eq]at *
 exact PE.conv xP fun σ H Q hup=>hup.el fun Δ M R sr hr q k=>fun p hp =>
  k _ _ _ _ (q p (hr.fresh hp)) (Ext.own hp) (hr.put (Ext.own hp) ⟨[],aG,.nil⟩) (by simp only[Rep])
theorem i6{X:Cx}{o:Expr}{es:List Expr}{to:TEd}{t:TAd}{pos:Pos}{x1}{p:Pos}(hu:X.A.units+1<cLine) (ho:QEd X o to) (ht:QAd X es t) (hs:CO (.Tuple es x1 p)):QEd X (.Subscript o (.Tuple es x1 p) pos) (Be to t):=by
 simp only[QEd.eq,QAd.eq]at *
 exact PE.conv (Ae hu ho (lz ht) hs) fun σ H Q hup=>hup.el fun Δ M R sr hr q k=>⟨Δ,M,_,sr,hr,q,fun x M1 v H1 q1 e1 hr1 rv=>⟨Δ,M1,_,sr.ext e1,hr1,q1,fun ds M2 us H2 ⟨a,kvs,ky,d,ex,em,ey,ez,ed,q2⟩ e2 hr2 ru=>by
   subst ex;subst ey;simp only[Rep]at rv;subst rv;refine⟨by rw[<-ru.length];exact ez,fun p hp=>?_⟩;obtain⟨ks,h2,kr⟩:=hr2 a _ em;obtain⟨w,hw,rw_⟩:=(kr.val ky).1 d ed;have hap:a≠p:=bc h2 hp;refine⟨a,w,rfl,?_,k d M2 w _ q2 ((e1.trans e2).trans (Ext.new hr2 hp)) (hr2.new hp) (rw_.ext (Ext.new hr2 hp))⟩;rw[<-hw];refine oT.t (by rw[aA hap];exact h2) ?_;rw[aG,i7 ru]⟩⟩
theorem sW{X:Cx}{e:Expr}{o:Expr}{es:List Expr}{te:TEd}{to:TEd}{t:TAd}{pos:Pos}{x1}{p p2:Pos}(hu:X.A.units+1<cLine) (ho:QEd X o to) (ht:QAd X es t) (he:QEd X e te) (hs:swapsWith e (some (.Subscript o (.Tuple es x1 p2) p)) pos.line X.env=pure false:=by rfl):QSd X (.Assign [.Subscript o (.Tuple es x1 p2) p] e pos) (A2 to t te):=by
 simp only[QEd.eq,QAd.eq,QSd.eq]at *
 exact PS.conv (zz hu ho (lz ht) he hs) fun D σ H hup=>hup.el fun Δ M E sr hr q k=>⟨Δ,M,_,sr,hr,q,fun d M1 v H1 q1 e1 hr1 rv=>⟨Δ,M1,_,sr.ext e1,hr1,q1,fun x M2 u H2 q2 e2 hr2 ru=>⟨Δ,M2,_,(sr.ext e1).ext e2,hr2,q2,fun ds M3 ws H3 ⟨hl,a,kvs,ky,ex,em,ey,hz,q3⟩ e3 hr3 rw_=>by
   subst ex;subst ey;simp only[Rep]at ru;subst ru;refine⟨by rw[<-rw_.length];exact hl,fun p hp=>?_⟩;obtain⟨ks,h3,kr⟩:=hr3 a _ em;have hap:a≠p:=bc h3 hp;have e4:Ext M3 H3 M3 (upd H3 p (.tup ws)):=Ext.new hr3 hp;have hr4:=hr3.new (o:=.tup ws) hp;have ew:Ext M3 (upd H3 p (.tup ws)) (aw M3 a (.dT (kE kvs ky d))) (upd (upd H3 p (.tup ws)) a (.dT (gq ks ky v))):=Ext.write em;have h4:upd H3 p (.tup ws) a=some (.dT ks):=by rw[aA hap];exact h3
   refine⟨a,_,rfl,we.t h4 (by rw[aG,i7 rw_]) (by rw[<-kr.length];exact hz),?_⟩;exact k.nx Δ _ σ _ q3 ((((e1.trans e2).trans e3).trans e4).trans ew) (hr4.put ew ⟨_,aG,((kr.ext e4).put ky (((rv.ext e2).ext e3).ext e4)).ext ew⟩) (((((sr.ext e1).ext e2).ext e3).ext e4).ext ew)⟩⟩⟩
theorem za{X:Cx}{e:Expr}{o:Expr}{es:List Expr}{te:TEd}{to:TEd}{t:TAd}{x1}{p cp bq:Pos}(hu:X.A.units+1<cLine) (ho:QEd X o to) (ht:QAd X es t) (he:QEd X e te) (m:M2 X o "get" cp (.Tuple es x1 p) e bq):QEd X (.Call (.Attribute o "get" cp) [.Tuple es x1 p,e] [] bq) (yG to t te):=by
 simp only[QEd.eq,QAd.eq]at *
 exact PE.conv (wA hu ho (lz ht) he m) fun σ H Q hup=>hup.el fun Δ M R sr hr q k=>⟨Δ,M,_,sr,hr,q,fun x M1 v H1 ⟨a,kvs0,ex,em,q1⟩ e1 hr1 rv=>by
   subst ex;simp only[Rep]at rv;subst rv;obtain⟨ks0,h1,kr0⟩:=hr1 a _ em;refine⟨a,rfl,.inr ⟨ks0,.inl h1⟩,Δ,M1,_,sr.ext e1,hr1,q1,fun ds M2 us H2 ⟨hl,q2⟩ e2 hr2 ru=>⟨by rw[<-ru.length];exact hl,fun p hp=>?_⟩⟩;have e3:Ext M2 H2 M2 (upd H2 p (.tup us)):=Ext.new hr2 hp;refine⟨Δ,M2,_,((sr.ext e1).ext e2).ext e3,hr2.new hp,q2,fun z M3 w H3 ⟨kvs,ky,em3,ey,q3⟩ e4 hr4 rw_=>?_⟩;subst ey;obtain⟨ks,h3,kr⟩:=hr4 a _ em3;have eb:=(e4 p _ aG (hr2.fresh hp)).1;rw[i7 ru]at eb;refine⟨iP ks ky,oT.t h3 eb,?_⟩;cases ed:cn kvs ky with
   |some d =>
    obtain⟨w',hw,rw'⟩:=(kr.val ky).1 d ed;rw[hw];rw[ed]at q3;exact k _ M3 _ H3 q3 (((e1.trans e2).trans e3).trans e4) hr4 rw'
   |none =>
    have:=(kr.val ky).2;rw[ed]at this q3;have hn:iP ks ky=none:=by simpa using this
    rw[hn];exact k _ M3 _ H3 q3 (((e1.trans e2).trans e3).trans e4) hr4 rw_⟩
theorem ED{X:Cx}{o:Expr}{to:TEd}{cp bq:Pos}(ho:QEd X o to) (eC:attributeBase o "pop" X.env (eval o X.env)=eval o X.env:=by rfl) (eR:(cp.endLine==bq.line)=true:=by rfl):QEd X (.Call (.Attribute o "pop" cp) [] [] bq) (EG to):=by
 simp only[QEd.eq]at *
 exact(CM PySem.F.plainAttrs_list PySem.F.slot_list_pop PySem.F.type_list_pop (show MtR X "list.pop" Et from Bt) ho eC eR).conv fun σ H Q hup=>hup.el fun Δ M R sr hr q k=>⟨Δ,M,_,sr,hr,q,fun o M1 ov H1 ⟨a,ds,d,eo,em,q1⟩ e1 hr1 ro=>by
   subst eo;simp only[Rep]at ro;subst ro;obtain⟨vs,hv,rl⟩:=hr1 a _ em;have hl:=rl.length;rw[List.length_append,List.length_cons,List.length_nil]at hl;obtain⟨v,gv,rv⟩:=rl.get (i:=ds.length) (d:=d) (by simp);have hl2:vs.length-1=ds.length:=by lia
   refine⟨.inl ⟨rfl,vs,SqL.of hv⟩,a,vs,v,rfl,rfl,hv,by rw[hl2];exact gv,?_⟩;have ew:Ext M1 H1 (aw M1 a (.lst ds)) (upd H1 a (.lst vs.dropLast)):=Ext.write em;refine k _ _ _ _ q1 (e1.trans ew) (hr1.write em ?_) (rv.ext ew);have:=ar.take ds.length rl;rw[List.take_left]at this;rw[List.dropLast_eq_take,hl2];exact this⟩
theorem Bf{X:Cx}{e:Expr}{o:Expr}{te:TEd}{to:TEd}{cp bq:Pos}(ho:QEd X o to) (he:QEd X e te) (eC:attributeBase o "extend" X.env (eval o X.env)=eval o X.env:=by rfl)
  (hse:starEach [e] X.env=(false,eval e X.env)::starEach [] X.env:=by rfl)
  (lb:((backTo bq (starEach [e] X.env)).all (fun x => !x.1) && (backToKw bq (keywordEach [] X.env)).all (fun x => x.1.isSome)
  &&decide ([e].length+([]:List Keyword).length+(if([]:List Keyword).isEmpty then 0 else 1)<30))=true:=by rfl)
  (eR:(cp.endLine==bq.line)=true:=by rfl) (iC:(backTo bq (starEach [] X.env)).any (·.1)=false:=by rfl):QEd X (.Call (.Attribute o "extend" cp) [e] [] bq) (D4 to te):=by
 simp only[QEd.eq]at *
 exact(xp PySem.F.plainAttrs_list PySem.F.slot_list_extend PySem.F.type_list_extend (show MtR X "list.extend" tI from vS) ho (h8 he mr hse) eC lb eR hse iC).conv fun σ H Q hup=>hup.el fun Δ M R sr hr q k=>⟨Δ,M,_,sr,hr,q,fun o M1 ov H1 ⟨a,l,eo,em,q1⟩ e1 hr1 ro=>by
   subst eo;simp only[Rep]at ro;subst ro;obtain⟨vs,hv,rl⟩:=hr1 a _ em;refine⟨.inl ⟨rfl,vs,SqL.of hv⟩,Δ,M1,_,sr.ext e1,hr1,q1,fun d M2 v H2 ⟨ds,ys,ed,em2,hz,q2⟩ e2 hr2 rv=>?_⟩;subst ed;simp only[Rep]at rv;obtain⟨b,zs,rfl,hb,rz⟩:=rv;obtain⟨ws,hw,rl2⟩:=hr2 a _ em2;refine⟨a,b,ws,zs,rfl,rfl,hw,hb.1,by rw[<-rl2.length,<-rz.length];exact hz,k _ _ _ _ q2 ((e1.trans e2).trans (Ext.write em2)) (hr2.write em2 (rl2.append rz)) (by simp[Rep])⟩⟩
theorem uL{X:Cx}{a:Expr}{b:Expr}{c:Expr}{pos:Pos}{tg:Expr}{ta:TAd}{p:Pos}(hg:Gl X "range") (hm:X.mg "range"=none) (ha:QAd X [a,b,c] ta) (hs:starEach [a,b,c] X.env=[(false,eval a X.env),(false,eval b X.env),(false,eval c X.env)]:=by rfl)
  (hs2:starEach [b,c] X.env=[(false,eval b X.env),(false,eval c X.env)]:=by rfl):QId X tg (.Call (.Name "range" p) [a,b,c] [] pos) (yD ta):=by
 simp only[QAd.eq,QId.eq]at *
 exact(vD hg hm ha hs hs2).conv fun σ H R hup=>hup.el fun Δ M R' sr hr q k=>⟨Δ,M,_,sr,hr,q,fun ds M1 vs H1 ⟨i,j,st,ed,h1,h2,q1⟩ e1 hr1 rv=>by
   subst ed;obtain⟨v,w,z,ev,rv1,rv2,rv3⟩:=rv.three;have ev1:v=.int i:=by simpa only[Rep]using rv1
   have ev2:w=.int j:=by simpa only[Rep]using rv2
   have ev3:z=.int st:=by simpa only[Rep]using rv3
   subst ev1;subst ev2;subst ev3;subst ev;exact⟨i,j,st,rfl,by lia,⟨h2.1,h2.2.1,h2.2.2.1,h2.2.2.2,by lia,by lia⟩,vw h1 h2.1 h2.2.1 h2.2.2.1 h2.2.2.2,k _ M1 _ H1 q1 e1 hr1 yW⟩⟩
theorem D0{X:Cx}{tg:Expr}{iter:Expr}{elt:Expr}{pos:Pos}{scope:Scope}{cl:List (Str×Addr)}{ms:List Bool}{am:List Str}{ifs:List Expr}{wi:TId}{g:GD}{tc:TTd}{te:TEd}(S:cA X scope cl ms am) (bA:X.calm=true) (hi:QId X tg iter wi) (hg:Ec X scope cl am tg g)
  (hif:cA X scope cl ms am->∀C s H ex,QIf (cxC X scope cl (X.N++am) C s H ex) ifs tc) (he:cA X scope cl ms am->∀C s H ex,QEd (cxC X scope cl (X.N++am) C s H ex) elt te)
  (hs:∀x,foldedSetIterable iter X.env x=pure x:=by intro _;rfl):QEd X (.ListComp elt [⟨tg,iter,ifs,0⟩] scope pos) (dLc ms am.length wi g tc te):=by
 simp only[QEd.eq,QId.eq,QIf.eq]at *
 obtain⟨gv,pg,kg⟩:=hg;exact(CN (tc:=upT X.K tc) (te:=up X.K te) S bA hi pg (hif S) (he S) hs).conv (oM kg)
theorem zP{X:Cx}{tg:Expr}{iter:Expr}{vx:Expr}{es:List Expr}{pos:Pos}{scope:Scope}{cl:List (Str×Addr)}{ms:List Bool}{am:List Str}{i:Nat}{x:Str}{spos pos' p2:Pos}{x1}{wi:TId}{g:GD}{ta:TAd}{tv:TEd}(hu:X.A.units<cLine) (hN:X.N.Nodup) (hix:X.N[i]?=some x) (hx:X.env.scope.names.lookup x=some .local)
  (hsw:swapsWith (.DictComp (.Tuple es x1 p2) vx [⟨tg,iter,[],0⟩] scope pos) (some (.Name x pos')) spos.line X.env=pure true) (S:cT X scope cl ms am) (bA:X.calm=true) (hi:QId X tg iter wi) (hg:PGa X scope cl am tg g)
  (hk:∀C s H ex,QAd (aK X scope cl (X.N++am) C s H ex) es ta) (hv:∀C s H ex,QEd (aK X scope cl (X.N++am) C s H ex) vx tv)
  (hs:∀x,foldedSetIterable iter X.env x=pure x:=by intro _;rfl):QSd X (.Assign [.Name x pos'] (.DictComp (.Tuple es x1 p2) vx [⟨tg,iter,[],0⟩] scope pos) spos) (wR i (dDc ms am.length wi g ta tv)):=by
 simp only[QEd.eq,QAd.eq,QSd.eq,QId.eq]at *
 obtain⟨gv,pg,kg⟩:=hg;refine(xk (tk:=Cp (upA X.K ta)) (tv:=up X.K tv) hu hN hix hx hsw S bA hi pg (fun C s H ex=>lz (hk C s H ex)) hv hs).conv fun D σ H hh=>?_;obtain⟨Δ,M,E,sr,hr,q,k⟩:=hh;exact Aj kg σ H _ ⟨Δ,M,_,sr,hr,q,fun d M1 v H1 q1 e1 hr1 rv=>k.nx _ M1 _ H1 q1 e1 hr1 ((sr.ext e1).set i rv)⟩
theorem cZ.units1{k:Nat}{A:Around}(r:cZ k A):A.units+1<cLine:=by have:=r.un;lia
theorem Ej{i:Int}{P:Key->Prop}:(∃k,D.int i=kD k/\P k)↔P (.inl i) :=
 ⟨fun⟨k,e,h⟩=>match k,e with|.inl _,rfl=>h,fun h=>⟨_,rfl,h⟩⟩
theorem Dr{x:Str}{P:Key->Prop}:(∃k,D.str x=kD k/\P k)↔P (.inr x) :=
 ⟨fun⟨k,e,h⟩=>match k,e with|.inr _,rfl=>h,fun h=>⟨_,rfl,h⟩⟩
theorem Cb:∀{a b:Key},kD a=kD b->a=b
 |.inl _,.inl _,h=>by cases h;rfl
 |.inr _,.inr _,h=>by cases h;rfl
 |.inl _,.inr _,h=>by cases h
 |.inr _,.inl _,h=>by cases h
theorem uq:∀{a b:List Key},a.map kD=b.map kD->a=b
 |[],[],_=>rfl
 |[],_::_,h=>by cases h
 |_::_,[],h=>by cases h
 |x::xs,y::ys,h=>by
  simp only[List.map_cons,List.cons.injEq]at h;rw[Cb h.1,uq h.2]
theorem AI{a b:Key}{P:List Key->Prop}:(∃ks:List Key,[kD a,kD b]=ks.map kD/\P ks)↔P [a,b] :=
 ⟨fun⟨ks,e,h⟩=>by rw[uq (a:=[a,b]) (b:=ks) (by simpa using e)];exact h,fun h=>⟨_,rfl,h⟩⟩
theorem BV{i j:Int}{P:List Key->Prop}:(∃ks:List Key,[D.int i,D.int j]=ks.map kD/\P ks)↔P [.inl i,.inl j]:=AI (a:=.inl i) (b:=.inl j)
theorem CI{i j:Str}{P:List Key->Prop}:(∃ks:List Key,[D.str i,D.str j]=ks.map kD/\P ks)↔P [.inr i,.inr j]:=AI (a:=.inr i) (b:=.inr j)
theorem zQ{i j:Int}:E9 [.int i,.int j]=some (.int (if j<i then j else i)):=rfl
section
variable{X:Cx}{a b:Expr}{ta tb:TEd}{pos:Pos}
def AB(ta tb:TEd):TEd:=fun Δ M Q=>ta Δ M fun x M1=>tb Δ M1 fun y M2=>∃xs ys,rdM M2 x=.lst xs/\rdM M2 y=.lst ys/\xs.length+ys.length<=sizeLine/\∀p,M2 p=none->Q (.ref p) (aw M2 p (.lst (xs++ys)))
theorem CZ(ha:QEd X a ta) (hb:QEd X b tb):QEd X (.BinOp a .Add b pos) (AB ta tb):=by
 simp only[QEd.eq]at *
 exact(AL wk ha hb).conv fun σ H Q hup=>hup.el fun Δ M R sr hr q k=>⟨Δ,M,_,sr,hr,q,fun x M1 v H1 q1 e1 hr1 rv=>⟨Δ,M1,_,sr.ext e1,hr1,q1,fun y M2 u H2 ⟨xs,ys,ex,ey,hz,q2⟩ e2 hr2 ru=>by
   have r1:=(rv.ext e2).rd hr2;have r2:=ru.rd hr2;rw[ex]at r1;rw[ey]at r2;obtain⟨l1,vs,rfl,h1,l1r⟩:=r1;obtain⟨l2,ws,rfl,h2,l2r⟩:=r2;exact⟨l1,l2,vs,ws,rfl,rfl,h1,h2,by rw[<-l1r.length,<-l2r.length];exact hz,fun p hp=>k _ _ _ _ (q2 p (hr2.fresh hp)) ((e1.trans e2).trans (Ext.own hp)) (hr2.own hp (l1r.append l2r)) (by simp only[Rep])⟩⟩⟩
end
section
variable{X:Cx}{tg iter elt:Expr}{pos:Pos}{scope:Scope}{cl:List (Str×Addr)}{ms:List Bool}{am:List Str}{o i:Expr}{to ti:TEd}
def sG(g:GD) (te:TEd) (M:DH):List D->DE->List D->(List D->Prop)->Prop
 |[],_,acc,Q=>Q acc
 |d::ds,Δ,acc,Q=>∃ Δ',g d Δ=some Δ'/\te Δ' M fun y M2=>M2=M/\sG g te M ds Δ' (acc++[y]) Q
end
section
variable{X:Cx}{tg iter elt:Expr}{pos:Pos}{scope:Scope}{cl:List (Str×Addr)}{ms:List Bool}{am:List Str}{o i:Expr}{to ti:TEd}
theorem qI{α:Type}{g:GD}{te:TEd}{M:DH}{Q:List D->Prop}(enc:α->D) (y:α->D) (Ok:DE->Prop):∀(xs:List α) (Δ:DE) (acc:List D),
  (∀x∈xs,∀ Δ,Ok Δ->∃ Δ',g (enc x) Δ=some Δ'/\Ok Δ'/\∀Q2:D->DH->Prop,Q2 (y x) M->te Δ' M Q2)->Ok Δ->Q (acc++xs.map y)->sG g te M (xs.map enc) Δ acc Q
 |[],Δ,acc,_,_,q=>by simpa[sG]using q
 |x::xs,Δ,acc,h,hΔ,q=>by
  rw[List.map_cons];simp only[sG];obtain⟨Δ',e,hΔ',h2⟩:=h x (.head _) Δ hΔ;exact⟨Δ',e,h2 _ ⟨rfl,qI enc y Ok xs Δ' _ (fun z hz=>h z (.tail _ hz)) hΔ' (by simpa using q)⟩⟩
end
@[irreducible] def zd(t:TSd):TSd:=t
theorem ur{t:TSd}:zd t=t:=by unfold zd;rfl
theorem ay{t:TSd}{E:gn}{Δ:DE}{M:DH}(h:t E Δ M):zd t E Δ M:=by rw[ur];exact h
theorem bf{X:Cx}{st:List Stmt}{t:TSd}(h:QSs X st t):QSs X st (zd t):=by rw[ur];exact h
theorem yE{K:Params->PySem.W.Frag}{as:List Addr}{n t:Nat}{q:Program}{loose:List Str}{XP:(Str->Option Value)->Heap->Prop}{r:PySem.W.RowW}{d:DefRec}{kwd:List (Str×Expr)}{run:Value->List Value->Sem Value}(hk:∀P,as=(K P).map (·.1))
  (h:PySem.W.WalkO q loose XP (fun w h=>(K w.params).In h) r d kwd run):PySem.W.WalkX q loose XP (PySem.W.X.obsZ as) (PySem.W.X.valZ K n t) r d kwd run:=by
 intro w s₀ s₁ mg mb G y a o pm cd doc dV kV ho hd hcd hD hmg hg args vals as' L hpre hlay hrd hwl hlo;refine h w s₀ s₁ mg mb G (fun b u hu=>L.keeps b u ?_) a o pm cd doc dV kV ho hd hcd hD hmg hg args vals as' hpre hlay hrd hwl hlo;have y1:as.map s₀.heap.get?=(K w.params).map fun p=>some p.2:=congrArg (·.1) y;rw[hk w.params,List.map_map]at y1;have key:∀(l:PySem.W.Frag),(l.map fun p=>s₀.heap.get? p.1)=l.map (fun p=>some p.2)->List.lookup b l=some u->s₀.heap.get? b=some u:=by
  intro l
  induction l with
  |nil=>intro _ z;cases z
  |cons p l ih =>
   intro e z;rw[List.map_cons,List.map_cons,List.cons.injEq]at e;rw[List.lookup_cons]at z
   by_cases c:b=p.1
   ·subst c;rw[beq_self_eq_true]at z;cases z;exact e.1
   ·rw[beq_eq_false_iff_ne.mpr c]at z;exact ih e.2 z
 exact key _ y1 hu
end L2
namespace L2
open PySem PySem.W PySem.Calls PyProof.Rows
section
variable{prog:Program}{w:World}{A:Around}{E:Value->Shared->Prop}{O:KeyOrd}
theorem nr{T:String}{o:Obj}{n:Nat}{s:Shared}{l:Addr}{vs:List Value}{key:Nat->O.α}{κ:SortKind}{Q:Value->Shared->Prop}(hT:T="list"∨T="tuple") (hg:s.heap.get? l=some o) (hcl:o.cls=.type T) (hd:o.data=.seq vs.toArray n) (hz:vs.length<64)
  (hk:∀s1 Q,2<=vs.length->(∀b o,s.heap.get? b=some o->s1.heap.get? b=some o)->Q κ s1->wpAny (model prog w) A.in1.in1 (keyKind' vs.toArray) Q (fun _ _=>False) s1)
  (hc:∀i j s1 C,i<vs.length->j<vs.length->(∀b o,s.heap.get? b=some o->s1.heap.get? b=some o)->C (dP O key i j) s1->kas_ask prog w A.in1.in1 κ vs i j C s1)
  (k:∀(h1:Heap) p x c h',(∀b o,s.heap.get? b=some o->h1.get? b=some o)->cy vs.length p->c9 O key p vs.length->h1.objs.size<=x->(∀b o,h1.get? b=some o->h'.get? b=some o)->h'.get? x=some (seqObj "list" (gI vs p).toArray c)->Q (.ref x) { s with heap:=h' }) :
  wpAny (model prog w) A (call (.builtin "sorted") [.ref l]) Q E s:=by
 refine call_function_entry kind_sorted plain_sorted entry_sorted (args_sorted1 _) ?_;unfold Builtin.«sorted»;refine wpAny_bind (m:=checkCount "sorted" 1 1 _) (wpAny_pure ?_);have hz':vs.length<=sizeLine:=by rw[sizeLine_eq];lia
 refine wpAny_bind (wpAny_collect_seq l hT hg hcl hd (fun h1 kp0=>wpAny_bind (wpAny_newList ?_ hz')) (by simpa using hz'));have kp2:∀b o,h1.get? b=some o->(h1.push (seqObj "list" vs.toArray 0)).get? b=some o:=fun b o e=>by
  rw[Heap.get?_push_ne _ _ _ (Nat.ne_of_lt (Heap.lt_size e))];exact e
 have kp1:∀b o,s.heap.get? b=some o->(h1.push (seqObj "list" vs.toArray 0)).get? b=some o:=fun b o e=>kp2 b o (kp0 b o e);have new:(h1.push (seqObj "list" vs.toArray 0)).get? h1.objs.size=some (seqObj "list" vs.toArray 0):=Heap.get?_push_size _ rfl;have old1:h1.get? h1.objs.size=none:=Heap.get?_none_of_le (Nat.le_refl _);have old:s.heap.get? h1.objs.size=none:=by
  cases e:s.heap.get? h1.objs.size with
  |none=>rfl
  |some u=>rw[kp0 _ _ e]at old1;cases old1
 show wpAny _ _ _ _ _ { s with heap:=h1.push (seqObj "list" vs.toArray 0) };have go:∀(t:Shared),nO h1.objs.size { s with heap:=h1.push (seqObj "list" vs.toArray 0) } t->∀b o,s.heap.get? b=some o->t.heap.get? b=some o:=fun t ht b o e=>ht b o (fun q=>by rw[q,old]at e;cases e) (kp1 b o e);have go1:∀(t:Shared),nO h1.objs.size { s with heap:=h1.push (seqObj "list" vs.toArray 0) } t->∀b o,h1.get? b=some o->t.heap.get? b=some o:=fun t ht b o e=>ht b o (fun q=>by rw[q,old1]at e;cases e) (kp2 b o e);refine wpAny_bind (wpAny_holding (wpAny_call_entry slot_list_sort ⟨_,new,rfl⟩ entry_list_sort ?_ (args_list_sort _)));refine xX (κ:=κ) (key:=key) new hz (fun t Q' two ht q=>hk t Q' two (go t ht) q) (fun i j t C hi hj ht q=>hc i j t C hi hj (go t ht) q) fun p c h' hp hr hs hx=>?_;refine⟨_,rfl,wpAny_pure ⟨_,rfl,?_⟩⟩;exact k h1 p _ c h' kp0 hp hr (Nat.le_refl _) (fun b o e=>go1 { s with heap:=h' } hs b o e) hx
end
def FG:KeyOrd where
 α:=Int
 blt a b:=decide (a<b)
 irrefl a:=by simp
 trans a b c h1 h2:=by simp only[decide_eq_true_eq]at *;lia
 negTrans a b c h:=by simp only[decide_eq_true_eq]at *;lia
 total a b h1 h2:=by simp only[decide_eq_false_iff_not]at *;lia
def iW(ns:List Int):List Int:=ns.mergeSort fun a b=>decide (a<=b)
theorem sY(ns:List Int):(iW ns).Perm ns:=List.mergeSort_perm _ _
theorem xB(ns:List Int):(iW ns).Pairwise fun a b=>a<=b:=by
 have:=List.pairwise_mergeSort (le:=fun a b:Int=>decide (a<=b)) (fun a b c h1 h2=>by simp only[decide_eq_true_eq]at *;lia) (fun a b=>by simp only[Bool.or_eq_true,decide_eq_true_eq];lia) ns;exact this.imp fun h=>by simpa using h
theorem qL{ns ms:List Int}(h:ms.Perm ns) (hs:ms.Pairwise fun a b=>a<=b):ms=iW ns :=
 List.Perm.eq_of_pairwise (le:=fun a b:Int=>a<=b) (fun a b _ _ h1 h2=>by lia) hs (xB ns) (h.trans (sY ns).symm)
section
variable{X:Cx}{ag:List (Addr×Obj)}{s:Shared}{σ:St}{H:Hp}{M:DH}
theorem rF(ns:List Int):(List.range ns.length).map (fun i=>ns.getD i 0)=ns:=by
 apply List.ext_getElem (by simp);intro i h1 h2;simp[List.getElem?_eq_getElem h2]
theorem CH{K:PySem.W.Frag}{ns:List Int}{vs:List V}{us:List Value}(rl:ar K M H (ns.map D.int) vs) (rv:aB vs us) {i:Nat}(hi:i<ns.length):∃t,us[i]?=some (.int ns[i] t):=by
 obtain⟨v,g,r⟩:=rl.get (i:=i) (d:=D.int ns[i]) (by simp[hi]);obtain⟨u',g',r'⟩:=rv.get g;simp only[Rep]at r;subst r;obtain⟨t,rfl⟩:=r';exact⟨t,g'⟩
theorem nB{K:PySem.W.Frag}{ns:List Int}{vs:List V}(rl:ar K M H (ns.map D.int) vs):∀{l:List Nat},(∀i∈l,i<ns.length)->ar K M H ((l.map fun i=>ns.getD i 0).map D.int) (l.map fun i=>vs.getD i .non)
 |[],_=>rfl
 |i::l,h=>by
  have hi:=h i (.head _);obtain⟨v,g,r⟩:=rl.get (i:=i) (d:=D.int ns[i]) (by simp[hi]);simp only[List.map_cons,ar];refine⟨v,_,?_,?_,nB rl fun j hj=>h j (.tail _ hj)⟩
  ·rw[List.getD_eq_getElem?_getD,g];rfl
  ·rw[List.getD_eq_getElem?_getD,List.getElem?_eq_getElem hi];exact r
theorem yn{us:List Value}:∀{ns:List Int},us.length=ns.length->(∀i (hi:i<ns.length),∃t,us[i]?=some (.int ns[i] t))->IntsAre us ns:=by
 induction us with
 |nil=>intro ns h _;cases ns with|nil=>exact .nil|cons n ns=>cases h
 |cons u us ih =>
  intro ns h hh;cases ns with
  |nil=>cases h
  |cons n ns =>
   obtain⟨t,e⟩:=hh 0 (by simp);have e':u=.int n t:=by simpa using e
   subst e';exact .cons _ _ (ih (by simpa using h) fun i hi=>by
    obtain⟨t2,e2⟩:=hh (i+1) (by simpa using hi);exact⟨t2,by rw[List.getElem?_cons_succ]at e2;exact e2⟩)
theorem wK(I:Inv X ag σ H s) (hr:HR X.K M H) {ns:List Int}(h64:ns.length<64) {l:Addr}{T:String}{o:Obj}{n:Nat}{vs:List V}{its:List Value}(rl:ar X.K M H (ns.map D.int) vs) (rv:aB vs its) (hzv:vs.length<=sizeLine)
  (hT:T="list"∨T="tuple") (hg:s.heap.get? l=some o) (hcl:o.cls=.type T) (hd:o.data=.seq its.toArray n) {Q:VK}
  (k:∀w H',Ext M H M H'->HR X.K M H'->Rep X.K M H' (.lst ((iW ns).map D.int)) w->Q w H'):wpAny (model X.prog X.w) X.A (call (.builtin "sorted") [.ref l]) (EP X ag σ Q) X.xe s:=by
 have hn:ns.length=its.length:=by rw[<-rv.length,<-rl.length,List.length_map]
 have at_:=fun i (hi:i<ns.length)=>CH rl rv hi;have key:∀i (hi:i<ns.length),ns.getD i 0=ns[i]:=fun i hi=>by rw[List.getD_eq_getElem?_getD,List.getElem?_eq_getElem hi];rfl
 refine nr (O:=FG) (key:=fun i=>ns.getD i 0) (κ:=oneType') hT hg hcl hd (by lia) (fun s1 Q' two kp q=>?_) (fun i j s1 C hi hj kp q=>?_) fun h1 p x c h' kp0 hp hs hx kp ho=>?_
 ·have ia:=yn hn.symm at_
  match its,two,ia with
  |v1::v2::r,_,ia=>rw[keyKind_ints ia];exact wpAny_pure q
 ·rw[<-hn]at hi hj;obtain⟨t,g⟩:=at_ i hi;obtain⟨u,g'⟩:=at_ j hj;show wpAny _ _ (keyLt' _ _ _) _ _ _;rw[fV g,fV g'];refine kat_lt_int ?_;have q':C (decide (ns.getD i 0<ns.getD j 0)) s1:=q
  rwa [key i hi,key j hj]at q'
 ·have hlt:∀i∈p.toList,i<ns.length:=fun i hi=>by rw[hn];exact List.mem_range.mp (hp.mem_iff.mp hi)
  have hlv:vs.length=its.length:=rv.length;have lo:(p.toList.map fun i=>vs.getD i .non).length=its.length:=by rw[List.length_map,Array.length_toList];exact hp.size
  have I1:Inv X ag σ H { s with heap:=h1,toks:=s.toks }:=I.kept kp0;have I2:=I1.laid (t':=s.toks) (o:=.lst (p.toList.map fun i=>vs.getD i .non)) kp hx (show br X.prog X.w _ h' x (.lst _)from⟨by rw[lo,<-hlv];exact hzv,gI its p,c,hJ rv (fun i hi=>by rw[hlv,<-hn];exact hlt i hi),ho⟩);have es:(p.toList.map fun i=>ns.getD i 0)=iW ns:=by
   have hp':p.toList.Perm (List.range ns.length):=by rw[hn];exact hp
   have hm:=hp'.map fun i=>ns.getD i 0;rw[rF]at hm;refine qL hm ?_;rw[List.pairwise_iff_getElem];intro i j hi hj hij;have sz:p.size=its.length:=hp.size;rw[List.length_map,Array.length_toList]at hi hj;have:=hs i j (Nat.le_of_lt hij) (by lia);have e1:kp_ p i=p.toList[i]'(by simpa using hi):=by simp[kp_,Array.getD,hi]
   have e2:kp_ p j=p.toList[j]'(by simpa using hj):=by simp[kp_,Array.getD,hj]
   have g:ns.getD (kp_ p i) 0<=ns.getD (kp_ p j) 0:=by
    have z:decide (ns.getD (kp_ p j) 0<ns.getD (kp_ p i) 0)=false:=this;simp only[decide_eq_false_iff_not]at z
    lia
   rw[e1,e2]at g;simpa using g
  refine⟨.ref x,_,I2,rfl,fu hr (I1.hok.fresh hx) (nB rl hlt) fun w H' a b c=>?_⟩;rw[es]at c;exact k w H' a b c
theorem uZ(I:Inv X ag σ H s) (hr:HR X.K M H) {ps:List (Int×Int)}(h64:ps.length<64) {l:Addr}{T:String}{o:Obj}{n:Nat}{vs:List V}{its:List Value}(rl:ar X.K M H (ps.map pD) vs) (rv:aB vs its) (hzv:vs.length<=sizeLine)
  (hT:T="list"∨T="tuple") (hg:s.heap.get? l=some o) (hcl:o.cls=.type T) (hd:o.data=.seq its.toArray n) {Q:VK}
  (k:∀w H',Ext M H M H'->HR X.K M H'->Rep X.K M H' (.lst ((gk ps).map pD)) w->Q w H'):wpAny (model X.prog X.w) X.A (call (.builtin "sorted") [.ref l]) (EP X ag σ Q) X.xe s:=by
 have hn:ps.length=its.length:=by rw[<-rv.length,<-rl.length,List.length_map]
 have at_:=fun i (hi:i<ps.length)=>vX I rl rv hi;have key:∀i (hi:i<ps.length),ps.getD i (0,0)=ps[i]:=fun i hi=>by rw[List.getD_eq_getElem?_getD,List.getElem?_eq_getElem hi];rfl
 refine nr (O:=DJ) (key:=fun i=>ps.getD i (0,0)) (κ:=tuples' true) hT hg hcl hd (by lia) (fun s1 Q' two kp q=>?_) (fun i j s1 C hi hj kp q=>?_) fun h1 p x c h' kp0 hp hs hx kp ho=>?_
 ·obtain⟨fs,t1,t2,t3⟩:=oP (h:=s1.heap) hn.symm fun i hi=>let⟨a,t,u,g,z⟩:=at_ i hi;⟨a,t,u,g,dn z kp⟩
  exact kat_kind (T:=.type "int") t1 (by lia) (fun f hf=>by obtain⟨i,t,rfl⟩:=t3 f hf;exact Looks.of_pure rfl) rfl q
 ·rw[<-hn]at hi hj;obtain⟨a,t,u,g,z⟩:=at_ i hi;obtain⟨b,t',u',g',z'⟩:=at_ j hj;show wpAny _ _ (keyLt' _ _ _) _ _ _;rw[fV g,fV g'];refine qM (dn z kp) (dn z' kp) ?_;have q':C (ltP (ps.getD i (0,0)) (ps.getD j (0,0))) s1:=q
  rwa [key i hi,key j hj]at q'
 ·have hlt:∀i∈p.toList,i<ps.length:=fun i hi=>by rw[hn];exact List.mem_range.mp (hp.mem_iff.mp hi)
  have hlv:vs.length=its.length:=rv.length;have lo:(p.toList.map fun i=>vs.getD i .non).length=its.length:=by rw[List.length_map,Array.length_toList];exact hp.size
  have I1:Inv X ag σ H { s with heap:=h1,toks:=s.toks }:=I.kept kp0;have I2:=I1.laid (t':=s.toks) (o:=.lst (p.toList.map fun i=>vs.getD i .non)) kp hx (show br X.prog X.w _ h' x (.lst _)from⟨by rw[lo,<-hlv];exact hzv,gI its p,c,hJ rv (fun i hi=>by rw[hlv,<-hn];exact hlt i hi),ho⟩);have es:(p.toList.map fun i=>ps.getD i (0,0))=gk ps:=by
   have hp':p.toList.Perm (List.range ps.length):=by rw[hn];exact hp
   have hm:=hp'.map fun i=>ps.getD i (0,0);rw[ou]at hm;refine lL hm ?_;rw[List.pairwise_iff_getElem];intro i j hi hj hij;have sz:p.size=its.length:=hp.size;rw[List.length_map,Array.length_toList]at hi hj;have:=hs i j (Nat.le_of_lt hij) (by lia);have e1:kp_ p i=p.toList[i]'(by simpa using hi):=by simp[kp_,Array.getD,hi]
   have e2:kp_ p j=p.toList[j]'(by simpa using hj):=by simp[kp_,Array.getD,hj]
   have g:leP (ps.getD (kp_ p i) (0,0)) (ps.getD (kp_ p j) (0,0))=true:=by
    have z:ltP (ps.getD (kp_ p j) (0,0)) (ps.getD (kp_ p i) (0,0))=false:=this;simp only[leP,z,Bool.not_false]
   rw[e1,e2]at g;simpa using g
  refine⟨.ref x,_,I2,rfl,fu hr (I1.hok.fresh hx) (jE rl hlt) fun w H' a b c=>?_⟩;rw[es]at c;exact k w H' a b c
def ml(ds:List D):Option D:=if ds.length<64 then(match gB ds with|some ps=>some (.lst ((gk ps).map pD))|none=>(bW ds).map fun ns=>.lst ((iW ns).map D.int))else none
def j5:D->Option D
 |.lst ds=>ml ds
 |.tup ds=>ml ds
 |_=>none
theorem qy:∀{ds:List D}{ns:List Int},bW ds=some ns->ds=ns.map D.int:=by
 intro ds
 induction ds using bW.induct with
 |case1=>intro ns e;cases e;rfl
 |case2 i ds ih =>
  intro ns e;simp only[bW]at e;cases q:bW ds with
  |none=>rw[q]at e;cases e
  |some qs=>rw[q]at e;cases e;rw[ih q];rfl
 |case3 ds h1 h2=>intro ns e;rw[bW]at e<;>simp_all
theorem xK(I:Inv X ag σ H s) (hr:HR X.K M H) {ds:List D}{dz:D}(e:ml ds=some dz) {l:Addr}{T:String}{o:Obj}{n:Nat}{vs:List V}{its:List Value}(rl:ar X.K M H ds vs) (rv:aB vs its) (hzv:vs.length<=sizeLine)
  (hT:T="list"∨T="tuple") (hg:s.heap.get? l=some o) (hcl:o.cls=.type T) (hd:o.data=.seq its.toArray n) {Q:VK}
  (k:∀w H',Ext M H M H'->HR X.K M H'->Rep X.K M H' dz w->Q w H'):wpAny (model X.prog X.w) X.A (call (.builtin "sorted") [.ref l]) (EP X ag σ Q) X.xe s:=by
 unfold ml at e
 split at e
 ·rename_i h64
  split at e
  ·rename_i ps q;cases e;have:=sA q;subst this;exact uZ I hr (by simpa using h64) rl rv hzv hT hg hcl hd k
  ·cases q:bW ds with
   |none=>rw[q]at e;cases e
   |some ns =>
    rw[q]at e;cases e;have:=qy q;subst this;exact wK I hr (by simpa using h64) rl rv hzv hT hg hcl hd k
 ·cases e
theorem kS:bK X (.builtin "sorted") (qA j5):=by
 intro ag s σ H M xs us ds dz Q I hr rv rp e k;obtain⟨d,rfl,e0⟩:=dX e;clear e;obtain⟨v,rfl,r⟩:=nK rp;obtain⟨u,rfl,ru⟩:=aB.one rv;cases d with
 |lst ds =>
  obtain⟨l,vs,rfl,sq,rl⟩:=r;cases ru;obtain⟨its,rv,pl,hz⟩:=I.list (SqL.of sq);obtain⟨o,ho,hc,n,hd⟩:=pl.isList;exact xK I hr e0 rl rv hz (.inl rfl) ho hc hd fun w H' a b c=>k w H' a b c
 |tup ds =>
  obtain⟨l,vs,rfl,sq,rl⟩:=r;cases ru;obtain⟨its,rv,tp,hz⟩:=I.tuple sq;obtain⟨o,ho,hc,n,hd⟩:=tp;exact xK I hr e0 rl rv hz (.inr rfl) ho hc hd fun w H' a b c=>k w H' a b c
 |_=>cases e0
theorem ut{ps:List (Int×Int)}(h:ps.length<64):j5 (.lst (ps.map pD))=some (.lst ((gk ps).map pD)):=by simp[j5,ml,om,h]
theorem Af{ns:List Int}(h:ns.length<64):j5 (.lst (ns.map D.int))=some (.lst ((iW ns).map D.int)):=by
 cases ns with
 |nil=>simp[j5,ml,gB,gk,iW]
 |cons n ns=>simp[j5,ml,gB,iB,bW];simp at h;lia
end
end L2
namespace L2
open PySem PySem.Spec PyProof.Rows
def tLR(ta:TA):TE:=fun σ H Q=>ta σ H fun vs H1=>∃j:Int,vs=[.int j]/\0<=j/\j<=1000000/\∀l,H1 l=none->Q (.ref l) (upd H1 l (.lst ((List.range j.toNat).map fun(k:Nat)=>V.int (0+(k:Int)))))
theorem k6:∀{n m:Nat}{us:List Value},us.length=n->(∀(j:Nat) (v:Value),us[j]?=some v->∃t,v=.int (((m+j:Nat):Int)) t)->aB ((List.range' m n).map fun(k:Nat)=>V.int (0+(k:Int))) us
 |0,m,us,h,_=>by
  have:us=[]:=List.eq_nil_of_length_eq_zero h;subst this;exact .nil
 |n+1,m,[],h,_=>by cases h
 |n+1,m,u::us,h,hh=>by
  rw[List.range'_succ,List.map_cons];obtain⟨t,e⟩:=hh 0 u rfl;subst e;refine .cons ⟨t,by rw[Int.zero_add];rfl⟩ (k6 (by simpa using h) fun j v hv=>?_);obtain⟨t,e⟩:=hh (j+1) v (by simpa using hv);exact⟨t,by rw[e,show m+(j+1)=m+1+j by lia]⟩
section
variable{X:Cx}{a:Expr}{ta:TA}{p p2 pos pos2:Pos}
theorem oI(bA:X.calm=true) (hg:Gl X "list") (hm:X.mg "list"=none) (hg2:Gl X "range") (hm2:X.mg "range"=none) (ha:PA X [a] ta) (hs:starEach [a] X.env=[(false,eval a X.env)]:=by rfl)
  (hs2:starEach [.Call (.Name "range" p2) [a] [] pos2] X.env=[(false,eval (.Call (.Name "range" p2) [a] [] pos2) X.env)]:=by rfl):PE X (.Call (.Name "list" p) [.Call (.Name "range" p2) [a] [] pos2] [] pos) (tLR ta):=by
 intro ag s σ H Q I h;refine wpAny_Call_Name_kw (dI I hg hm boot_list ?_);refine PyProof.Rows.callWith_type1 ?_ hs2 rfl;rw[hs2];show wpAny _ _ (spliced [(false,eval (.Call (.Name "range" p2) [a] [] pos2) X.env)]) _ _ s;refine Calls.spliced_cons (Call_ (dI I hg2 hm2 boot_range (PyProof.Rows.callWith_type1 (thn (ha pos2 ag s σ H _ I h) fun us s1 hup=>hup.el fun vs H1 I1 r1 q1=>?_) hs rfl)));obtain⟨j,e,q1,q2,q⟩:=q1;subst e;cases r1 with
 |cons r rr =>
  cases rr;obtain⟨t,rfl⟩:=r;refine call_range_1 (Calls.spliced_nil ?_);refine call_list_range (I.ok.hd bA) (IsRange.new ..) (small_one (by lia) (by lia) (by lia) (by lia)) (n:=j.toNat) (by rw[rangeSize_one];split<;>lia) (by lia) fun h' tk acc' c' kp e items=>?_;have I2:Inv X ag σ H1 { s1 with heap:=s1.heap.push { cls:=.type "range",data:=.fields #[.int 0 s1.toks,.int j t,.int 1 (s1.toks+1)] },toks:=s1.toks+1+1 }:=I1.kept fun b o e=>Heap.get?_push_of_some _ e;have hv:aB ((List.range j.toNat).map fun(k:Nat)=>V.int (0+(k:Int))) acc'.toList:=by
   rw[List.range_eq_range'];refine k6 (by simpa using items.1) fun i v hv=>?_;obtain⟨t,e⟩:=items.2 i v (by simpa using hv);exact⟨t,by rw[e];congr 1;lia⟩
  refine⟨.ref _,_,I2.laid (t':=tk) kp (Nat.le_refl _) (show br X.prog X.w _ h' _ (.lst _)from⟨?_,acc'.toList,c',hv,e⟩),rfl,q _ (I2.hok.fresh (Nat.le_refl _))⟩;rw[List.length_map,List.length_range,sizeLine_eq];lia
theorem qf{K:PySem.W.Frag}{M:DH}{H:Hp}:∀(l:List Nat),ar K M H (l.map fun(k:Nat)=>D.int (0+(k:Int))) (l.map fun(k:Nat)=>V.int (0+(k:Int)))
 |[]=>rfl
 |k::l=>by simp only[List.map_cons,ar];exact⟨_,_,rfl,by simp[Rep],qf l⟩
end
section
variable{X:Cx}{a b c e:Expr}{pos:Pos}
def z4(r r' r'':R2) (ta tb tc te:TE):TE:=fun σ H Q=>ta σ H fun x H1=>tb σ H1 fun y H2=>r x y H2 fun z H3=>∃k,z=.bl k /\
 (if k=true then tc σ H3 fun w' H4=>r' y w' H4 fun z' H5=>∃k',z'=.bl k'/\(if k'=true then te σ H5 fun u' H6=>r'' w' u' H6 Q else Q (.bl false) H5)else Q (.bl false) H3)
theorem vt{ta tb tc te:TE}{op op' op'':CmpOp}{r r' r'':R2}(ho:OpR X (compareOp op) r) (ho':OpR X (compareOp op') r') (ho'':OpR X (compareOp op'') r'') (ha:PE X a ta) (hb:PE X b tb) (hc:PE X c tc) (he:PE X e te)
  (hm:lastMarks [op,op',op''] [b,c,e]=false:=by with_unfolding_all rfl):PE X (.Compare a [op,op',op''] [b,c,e] pos) (z4 r r' r'' ta tb tc te):=by
 intro ag s σ H Q I h;refine Compare_chain (thn (ha ag s σ H _ I h) fun v s1 hup=>hup.el fun x H1 I1 r1 q1=>chain_link (thn (hb ag s1 σ H1 _ I1 q1) fun u s2 hup=>hup.el fun y H2 I2 r2 q2 =>
  thn (ho ag s2 σ H2 x y v u _ I2 r1 r2 q2) fun d s3 ⟨z,H3,I3,r3,k,e,q3⟩=>?_)) hm
 subst e;cases r3;refine wpAny_truthy_bool ?_;cases k with
 |false=>exact ite_ff ⟨.bl false,H3,I3,rfl,q3⟩
 |true =>
  refine ite_tt (chain_link (thn (hc ag s3 σ H3 _ I3 q3) fun w' s4 ⟨z',H4,I4,r4,q4⟩=>thn (ho' ag s4 σ H4 y z' u w' _ I4 r2 r4 q4) fun d' s5 ⟨z5,H5,I5,r5,k5,e5,q5⟩=>?_));subst e5;cases r5;refine wpAny_truthy_bool ?_;cases k5 with
  |false=>exact ite_ff ⟨.bl false,H5,I5,rfl,q5⟩
  |true=>exact ite_tt (chain_last (thn (he ag s5 σ H5 _ I5 q5) fun w6 s6 hup=>hup.el fun z6 H6 I6 r6 q6=>ho'' ag s6 σ H6 z' z6 w' w6 Q I6 r4 r6 q6))
def uu(r r' r'':D->D->Option D) (ta tb tc te:TEd):TEd:=fun Δ M Q=>ta Δ M fun x M1=>tb Δ M1 fun y M2=>∃k,r (rdM M2 x) (rdM M2 y)=some (.bl k)/\if k=true then tc Δ M2 fun z M3=>∃k',r' (rdM M3 y) (rdM M3 z)=some (.bl k')/\(if k'=true then te Δ M3 fun u M4=>∃w,r'' (rdM M4 z) (rdM M4 u)=some w/\Q w M4 else Q (.bl false) M3)else Q (.bl false) M2
theorem vY{ta tb tc te:TEd}{op op' op'':CmpOp}{r r' r'':D->D->Option D}(ho:bM X (compareOp op) r) (ho':bM X (compareOp op') r') (ho'':bM X (compareOp op'') r'') (ha:QEd X a ta) (hb:QEd X b tb) (hc:QEd X c tc) (he:QEd X e te)
  (hm:lastMarks [op,op',op''] [b,c,e]=false:=by with_unfolding_all rfl):QEd X (.Compare a [op,op',op''] [b,c,e] pos) (uu r r' r'' ta tb tc te):=by
 simp only[QEd.eq]at *
 refine(vt ho.v ho'.v ho''.v ha hb hc he hm).conv fun σ H Q h=>?_;obtain⟨Δ,M,R,sr,hr,q,k⟩:=h;refine⟨Δ,M,_,sr,hr,q,fun x M1 v H1 q1 e1 hr1 rv=>⟨Δ,M1,_,sr.ext e1,hr1,q1,fun y M2 u H2 ⟨b,eb,q2⟩ e2 hr2 ru=>⟨_,_,.bl b,M2,hr2,(rv.ext e2).rd hr2,ru.rd hr2,eb,fun w H3 e3 hr3 rw_ =>
  ⟨b,by simpa only[Rep]using rw_,?_⟩⟩⟩⟩
 cases b with
 |true =>
  simp only[if_true]at q2 ⊢;refine⟨Δ,M2,_,(sr.ext (e1.trans e2)).ext e3,hr3,q2,fun z M4 w4 H4 ⟨b4,ed,q4⟩ e4 hr4 r4=>⟨_,_,.bl b4,M4,hr4,((ru.ext e3).ext e4).rd hr4,r4.rd hr4,ed,fun w5 H5 e5 hr5 r5=>⟨b4,by simpa only[Rep]using r5,?_⟩⟩⟩;cases b4 with
  |true =>
   simp only[if_true]at q4 ⊢;exact⟨Δ,M4,_,(((sr.ext (e1.trans e2)).ext e3).ext e4).ext e5,hr5,q4,fun z6 M6 w6 H6 ⟨d6,ed6,q6⟩ e6 hr6 r6=>⟨_,_,d6,M6,hr6,((r4.ext e5).ext e6).rd hr6,r6.rd hr6,ed6,fun w7 H7 e7 hr7 r7=>k d6 M6 w7 H7 q6 ((((((e1.trans e2).trans e3).trans e4).trans e5).trans e6).trans e7) hr7 r7⟩⟩
  |false =>
   simp only[Bool.false_eq_true,if_false]at q4 ⊢;exact k _ M4 _ H5 q4 ((((e1.trans e2).trans e3).trans e4).trans e5) hr5 (by simp[Rep])
 |false =>
  simp only[Bool.false_eq_true,if_false]at q2 ⊢;exact k _ M2 _ H3 q2 ((e1.trans e2).trans e3) hr3 (by simp[Rep])
end
section
variable{X:Cx}
end
theorem rW{prog:Program}{w:World}{A:Around}{E:Value->Shared->Prop}{s:Shared}{it d:Addr}{i ep:Nat}{es:Array DictEntry}{od:Obj}{ok ov:Value}{Q:Option Value->Shared->Prop}
  (hit:IsItemIter s.heap it d i es.size ep ok ov) (hod:s.heap.get? d=some od) (hdd:od.data=.dict es ep) (hlt:i<es.size)
  (hQ:∀ h':Heap,IsItemIterOut h' it d (i + 1) es.size ep es[i].key es[i].val s.heap.objs.size → h'.get? s.heap.objs.size = some { cls:=Value.type "tuple",data:=Data.seq #[es[i].key,es[i].val] } → h'.objs.size = s.heap.objs.size + 1 →
   (∀b o,b≠it->s.heap.get? b=some o->h'.get? b=some o)->Q (some (Value.ref s.heap.objs.size)) { s with heap:=h' }):wpAny (model prog w) A (pyNext (Value.ref it)) Q E s:=by
 obtain⟨hp,g,dr,tk,os⟩:=s;dsimp only at hit hod hQ;have hT:Shared.TypeIs { heap:=hp,gens:=g,drawn:=dr,toks:=tk,os:=os } (Value.ref it) "dict_itemiterator":=⟨_,hit,rfl⟩;refine wpAny_bind (wpAny_attempt (wpAny_callSpecial?_slot hT F.slot_dict_itemiterator_next (wpAny_call_entry F.slot_dict_itemiterator_next hT F.entry_dict_itemiterator_next ?_)));refine wpAny_bind (wpAny_pure (wpAny_bind (wpAny_bind (wpAny_bind (wpAny_typeNameOfWhole_itemiter hT (wpAny_pure (wpAny_bind (wpAny_fieldsOf hit rfl ?_))))))));have hown:Builtin.Dict_items.ownsTuple "dict_itemiterator"=true:=by decide
 simp only[hown,if_true,List.drop_succ_cons,List.drop_zero,List.take_succ_cons,List.take_zero];refine wpAny_ite_false (Eq.refl (decide ((Value.ref d==Value.none)=true))) ?_;refine wpAny_bind (wpAny_pure (wpAny_bind (wpAny_dictEntries hod hdd ?_)));refine wpAny_ite_false (by simp) ?_;refine wpAny_bind (wpAny_pure (wpAny_bind (wpAny_dictEpoch hod hdd ?_)));refine wpAny_ite_false (by simp) (wpAny_pure ?_);have e1:(if((i:Nat):Int)<0 then none else es[((i:Nat):Int).toNat]?)=some es[i]:=by
  rw[if_neg (by lia),Int.toNat_natCast,Array.getElem?_eq_getElem hlt]
 simp only[e1];refine wpAny_bind (wpAny_bind (wpAny_typeNameOfWhole_itemiter hT (wpAny_pure (wpAny_bind (wpAny_isOneOf_itemiter hT ?_)))));refine wpAny_bind ?_;refine wpAny_setField_rec (k:=3) (x:=Value.int ((i:Int)+1) 0) hit (by simp) fun h₁ he₁ hs₁=>?_;have he₁:IsItemIter h₁ it d (i+1) es.size ep ok ov:=by
  show h₁.get? it=_;rw[he₁];simp
 have hT₁:Shared.TypeIs { heap:=h₁,gens:=g,drawn:=dr,toks:=tk,os:=os } (Value.ref it) "dict_itemiterator":=⟨_,he₁,rfl⟩;refine wpAny_bind (wpAny_holding ?_);refine wpAny_bind (wpAny_isOneOf_itemiter hT₁ ?_);refine wpAny_bind (wpAny_isOneOf_itemiter hT₁ ?_);refine wpAny_bind (wpAny_newTuple ?_);dsimp only;have hz₁:h₁.objs.size=hp.objs.size:=hs₁.1;have kp₁:∀b o,b≠it->hp.get? b=some o->h₁.get? b=some o:=fun b o hb e=>hs₁.extBut b o hb e;have he₂:IsItemIter (h₁.push { cls:=Value.type "tuple",data:=Data.seq #[es[i].key,es[i].val] }) it d (i+1) es.size ep ok ov:=Heap.get?_push_of_some _ he₁;have ht₂:(h₁.push { cls:=Value.type "tuple",data:=Data.seq #[es[i].key,es[i].val] }).get? h₁.objs.size=some { cls:=Value.type "tuple",data:=Data.seq #[es[i].key,es[i].val] }:=Heap.get?_push_size _ rfl;have kp₂:∀b o,b≠it->hp.get? b=some o->(h₁.push { cls:=Value.type "tuple",data:=Data.seq #[es[i].key,es[i].val] }).get? b=some o:=fun b o hb e=>Heap.get?_push_of_some _ (kp₁ b o hb e);have hz₂:(h₁.push { cls:=Value.type "tuple",data:=Data.seq #[es[i].key,es[i].val] }).objs.size=hp.objs.size+1:=by rw[Heap.size_push,hz₁]
 rw[hz₁]at ht₂ ⊢;generalize h₁.push { cls:=Value.type "tuple",data:=Data.seq #[es[i].key,es[i].val] }=h₂ at *
 have hne:hp.objs.size≠it:=fun z=>by
  have h0:it<hp.objs.size:=Heap.lt_size hit;rw[z]at h0;exact Nat.lt_irrefl _ h0
 refine wpAny_bind ?_;refine wpAny_bind (wpAny_field he₂ rfl rfl (wpAny_pure ?_));refine wpAny_ite_true (Eq.refl (decide (true=true))) ?_;refine wpAny_bind (wpAny_field he₂ rfl rfl (wpAny_bind (wpAny_field he₂ rfl rfl ?_)));refine wpAny_bind (wpAny_setField_rec he₂ (by simp) fun h₃ he₃ hs₃=>?_);refine wpAny_bind (wpAny_setField_rec he₃ (by simp) fun h₄ he₄ hs₄=>?_);refine wpAny_bind (wpAny_setField_rec he₄ (by simp) fun h₅ he₅ hs₅=>?_);refine wpAny_bind (wpAny_setField_rec he₅ (by simp) fun h₆ he₆ hs₆=>?_);refine wpAny_bind (wpAny_letGo (wpAny_pure (wpAny_pure ⟨_,rfl,wpAny_pure ?_⟩)));refine hQ h₆ ?_ ?_ ?_ fun b o hb e=>?_
 ·show h₆.get? it=_;rw[he₆];simp
 ·exact hs₆.extBut _ _ hne (hs₅.extBut _ _ hne (hs₄.extBut _ _ hne (hs₃.extBut _ _ hne ht₂)))
 ·have e1:=hs₃.1;have e2:=hs₄.1;have e3:=hs₅.1;have e4:=hs₆.1;dsimp only at e1 e2 e3 e4
  lia
 ·exact hs₆.extBut _ _ hb (hs₅.extBut _ _ hb (hs₄.extBut _ _ hb (hs₃.extBut _ _ hb (kp₂ b o hb e))))
theorem mP{prog:Program}{w:World}{A:Around}{E:Value->Shared->Prop}{s:Shared}{it d:Addr}{i ep:Nat}{es:Array DictEntry}{od:Obj}{ok ov:Value}{Q:Option Value->Shared->Prop}
  (hA:A.handled=none) (hit:IsItemIter s.heap it d i es.size ep ok ov) (hod:s.heap.get? d=some od) (hdd:od.data=.dict es ep) (hlt:es.size<=i)
  (hQ:∀h':Heap,Heap.ExtBut it s.heap h'->Q none { s with heap:=h' }):wpAny (model prog w) A (pyNext (Value.ref it)) Q E s:=by
 obtain⟨hp,g,dr,tk,os⟩:=s;dsimp only at hit hod hQ;have hT:Shared.TypeIs { heap:=hp,gens:=g,drawn:=dr,toks:=tk,os:=os } (Value.ref it) "dict_itemiterator":=⟨_,hit,rfl⟩;refine wpAny_bind (wpAny_attempt (wpAny_callSpecial?_slot hT F.slot_dict_itemiterator_next (wpAny_call_entry F.slot_dict_itemiterator_next hT F.entry_dict_itemiterator_next ?_)));refine wpAny_bind (wpAny_pure (wpAny_bind (wpAny_bind (wpAny_bind (wpAny_typeNameOfWhole_itemiter hT (wpAny_pure (wpAny_bind (wpAny_fieldsOf hit rfl ?_))))))));have hown:Builtin.Dict_items.ownsTuple "dict_itemiterator"=true:=by decide
 simp only[hown,if_true,List.drop_succ_cons,List.drop_zero,List.take_succ_cons,List.take_zero];refine wpAny_ite_false (Eq.refl (decide ((Value.ref d==Value.none)=true))) ?_;refine wpAny_bind (wpAny_pure (wpAny_bind (wpAny_dictEntries hod hdd ?_)));refine wpAny_ite_false (by simp) ?_;refine wpAny_bind (wpAny_pure (wpAny_bind (wpAny_dictEpoch hod hdd ?_)));refine wpAny_ite_false (by simp) (wpAny_pure ?_);have e1:(if((i:Nat):Int)<0 then none else es[((i:Nat):Int).toNat]?)=none:=by
  rw[if_neg (by lia),Int.toNat_natCast,Array.getElem?_eq_none hlt]
 simp only[e1];refine wpAny_bind (wpAny_bind (wpAny_typeNameOfWhole_itemiter hT (wpAny_pure ?_)));refine wpAny_bind (wpAny_setField hit rfl (by simp[hown]) ?_);dsimp only;have kp:Heap.ExtBut it hp (hp.update it (Obj.mapFields fun x=>x.setIfInBounds (if Builtin.Dict_items.ownsTuple "dict_itemiterator"=true then 2 else 0) Value.none)):=(Heap.SameBut.update hp it _).extBut;generalize hp.update it (Obj.mapFields fun x=>x.setIfInBounds (if Builtin.Dict_items.ownsTuple "dict_itemiterator"=true then 2 else 0) Value.none)=h1 at kp;refine wpAny_bind ?_;unfold newExc;refine wpAny_bind (wpAny_newObj_type ?_ (show(#[]:Array Value).size<=_ by simp));refine wpAny_bind (wpAny_of_eq (Eq.refl (firstArgMember (Value.type "StopIteration") [])) ?_);refine wpAny_newObj_type ?_ (sizeOk_excFields _ _ _ _ _ _ _ _);refine wpAny_raiseNew_none hA ?_;refine wpAny_bind (wpAny_isInstance (T:="StopIteration") (b:=true) ⟨_,Heap.get?_push_size _ rfl,rfl⟩ rfl ?_);refine wpAny_ite_true (Eq.refl (decide (true=true))) (wpAny_pure ?_);exact hQ _ ((kp.push _).push _)
theorem se{prog:Program}{w:World}{A:Around}{E:Value->Shared->Prop}{s:Shared}{d:Addr}{od:Obj}{es:Array DictEntry}{ep:Nat}{Q:Value->Shared->Prop}
  (hs:(d==sysModules)=false) (hod:s.heap.get? d=some od) (hx:od.ExactDict) (hdd:od.data=.dict es ep) 
  (hQ:Q (.ref s.heap.objs.size) { s with heap:=s.heap.push { cls:=.type "dict_items",data:=.fields #[.ref d] } }):wpAny (model prog w) A (call (.builtin "dict.items") [.ref d]) Q E s:=by
 have hT:s.TypeIs (.ref d) "dict":=⟨_,hod,hx.1⟩;refine wpAny_call_entry F.slot_dict_items hT F.entry_dict_items ?_ (F.args_dict_items_1 _);refine wpAny_bind ?_;show wpAny _ _ (Bind.bind _ _) _ _ _;refine wpAny_bind (wpAny_notOrdered_dict hT ?_);refine wpAny_pure ?_;show wpAny _ _ (do Builtin.Dict.showsAll d;let __do_lift <-newFields "dict_items" [Value.ref d];ret __do_lift) _ _ _;refine wpAny_bind (wpAny_ite_false (by simp[hs]) (wpAny_pure ?_));exact wpAny_bind (wpAny_newObj_type (wpAny_pure ⟨_,rfl,hQ⟩) (show(#[Value.ref d]:Array Value).size<=_ by simp))
theorem sS{prog:Program}{w:World}{A:Around}{E:Value->Shared->Prop}{s:Shared}{v d:Addr}{od:Obj}{es:Array DictEntry}{ep:Nat}{Q:Value->Shared->Prop}
  (hv:s.heap.IsItemsView v d) (hod:s.heap.get? d=some od) (hdd:od.data=.dict es ep)
  (hQ:∀h',IsItemIter h' s.heap.objs.size d 0 es.size ep .none .none->(∀b o,s.heap.get? b=some o->h'.get? b=some o)->Q (.ref s.heap.objs.size) { s with heap:=h' }):wpAny (model prog w) A (pyIter (.ref v)) Q E s:=by
 obtain⟨ov,hov,hcv,hdv⟩:=id hv;refine wpAny_pyIter_slot hv.typeIs F.slot_dict_items_iter (wpAny_call_entry F.slot_dict_items_iter hv.typeIs F.entry_dict_items_iter ?_ (F.args_dict_items_iter_1 _));refine wpAny_bind (wpAny_pure (wpAny_bind ?_));show wpAny _ _ (Bind.bind _ _) _ _ _;refine wpAny_bind (wpAny_field hov hdv rfl (wpAny_pure (wpAny_bind ?_)));show wpAny _ _ (Bind.bind _ _) _ _ _;refine wpAny_bind (wpAny_dictEntries hod hdd (wpAny_bind (wpAny_dictEpoch hod hdd ?_)));have hown:Builtin.Dict_items.ownsTuple "dict_itemiterator"=true:=by decide
 simp only[hown,if_true];refine wpAny_newObj_type (wpAny_pure ⟨_,rfl,"dict_itemiterator",_,⟨_,Heap.get?_push_size _ rfl,rfl⟩,F.slot_dict_itemiterator_next.lookup,?_⟩) (show Array.size _<=_ by simp[Builtin.Dict_items.ownedTupleFields];exact Nat.le_of_lt (vB (by decide)));exact hQ _ (Heap.get?_push_size _ rfl) fun b o e=>Heap.get?_push_of_some _ e
def ET(a:Addr) (o:Obj) (ks:List (List Key×V)):It :=
 ⟨fun i H=>H a=some (.frz o (.dT ks))/\i<ks.length,fun i H x H'=>∃T q k v,x=.ref T/\H T=none/\ks[i]?=some (k,v)/\H q=some (.tup (k.map kV))/\H'=upd H T (.tup [.ref q,v]),fun i H=>H a=some (.frz o (.dT ks))/\ks.length<=i⟩
section
variable{X:Cx}{ag:List (Addr×Obj)}{σ:St}{H:Hp}{s:Shared}{a:Addr}{o:Obj}{ks:List (List Key×V)}
theorem Inv.freezeT(I:Inv X ag σ H s) (e:H a=some (.dT ks)):∃o,s.heap.get? a=some o/\Inv X ag σ (upd H a (.frz o (.dT ks))) s:=by
 have q:=I.hok a _ e;obtain⟨_,_,_,_,o,_,_,he,_⟩:=id q;refine⟨o,he,?_⟩;have ne:∀{b},H b≠some (.dT ks)->b≠a:=fun {b} z w=>z (by rw[w];exact e);have:=I.write (x:=a) (e:=a) (o:=.frz o (.dT ks)) (h':=s.heap) (t':=s.toks) (by rw[e];exact True.intro) (.inl rfl) (fun b u _ q=>q) ⟨o,he⟩ ⟨he,q.stay (fun c v _ r=>r) (fun c r=>by rw[aA (ne (by rw[r];intro z;cases z))];exact r) fun c xs r=>by rw[aA (ne (by rw[r];intro z;cases z))];exact r⟩;exact this
theorem p9{ep:Nat}{es:Array DictEntry}(I:Inv X ag σ H s) (e:H a=some (.frz o (.dT ks))) (hd:o.data=.dict es ep):s.heap.get? a=some o/\∃xs:List (List Key×Addr×Value),Paired (fun(p:List Key×V) (q:List Key×Addr×Value)=>p.1=q.1/\H q.2.1=some (.tup (p.1.map kV))/\aL p.2 q.2.2) ks xs/\es.toList=xs.map (entryOfKey (tupleKind (bE X.prog X.w))):=by
 obtain⟨q,hz,hs,xs,rel,o',es',ep',q',c,d',r,_⟩:=I.hok a _ e;rw[q]at q';cases q';rw[hd]at d';cases d';exact⟨q,xs,rel,r⟩
theorem jD{α β:Type}{F:α->β->Prop}:∀{l₁:List α}{l₂:List β},Paired F l₁ l₂->∀(i:Nat) (x:α),l₁[i]?=some x->∃y,l₂[i]?=some y/\F x y
 |_,_,.cons r _,0,x,h=>by cases h;exact⟨_,rfl,r⟩
 |_,_,.cons _ t,i+1,x,h=>jD t i x h
theorem ll:entryFor table "dict_itemiterator.__iter__"=some Builtin.«dict_keyiterator.__iter__»:=by kernel_rfl
theorem uT{prog:Program}{w:World}{A:Around}{E:Value->Shared->Prop}{s:Shared}{it d:Addr}{i n ep:Nat}{ok ov:Value}{Q:Value->Shared->Prop}(q:IsItemIter s.heap it d i n ep ok ov) (h:Q (.ref it) s):wpAny (model prog w) A (pyIter (.ref it)) Q E s :=
 wpAny_pyIter_slot (T:="dict_itemiterator") ⟨_,q,rfl⟩ PySem.F.slot_dict_itemiterator_iter (wpAny_call_entry PySem.F.slot_dict_itemiterator_iter ⟨_,q,rfl⟩ ll (show wpAny _ _ (pure _) _ _ _ from wpAny_pure ⟨_,rfl,"dict_itemiterator",_,⟨_,q,rfl⟩,PySem.F.slot_dict_itemiterator_next.lookup,h⟩) (PySem.F.args_dict_itemiterator_iter_1 _))
theorem sR{P:Program}{w:World}{K:PySem.W.Frag}{elts:List Expr}{x1:Nat}{pt:Pos}(it:Addr) {ep:Nat}{es:Array DictEntry}(hd:o.data=.dict es ep) (hl:es.size=ks.length):iD P w K (.Tuple elts x1 pt) (ET a o ks) [it] it (fun i h=>∃ok ov,IsItemIter h it a i es.size ep ok ov) where
 mem:=by simp
 obj:=fun i h st b hb=>by
  have e:b=it:=by simpa using hb
  subst e;obtain⟨ok,ov,q⟩:=st;exact⟨_,q,fun v z=>by cases z⟩
 keep:=fun i h h' ⟨ok,ov,q⟩ k=>⟨ok,ov,k it (by simp) _ q⟩
 item:=by
  intro X hP hw hK hc i ag s σ H E I hf st hg;subst hP hw hK;obtain⟨e,hi⟩:=hg;obtain⟨hget,xs,rel,hes⟩:=p9 I e hd;obtain⟨ok,ov,hit⟩:=st;obtain⟨⟨k,v⟩,hkv⟩:∃p,ks[i]?=some p:=⟨ks[i],by simp[hi]⟩;obtain⟨⟨k',q,u⟩,hx,rk,hq,ru⟩:=jD rel i _ hkv;have hlt:i<es.size:=by lia
  have hei:es[i]=entryOfKey (tupleKind (bE X.prog X.w)) (k',q,u):=by
   have h1:es.toList[i]?=some es[i]:=by simp[hlt]
   rw[hes,List.getElem?_map,hx]at h1;exact(Option.some.inj h1).symm
  have hek:es[i].key=.ref q:=by rw[hei];rfl
  have hev:es[i].val=u:=by rw[hei];rfl
  refine rW hit hget hd hlt fun h1 hout hT hsz keep=>⟨_,rfl,?_⟩;rw[hek,hev]at hout hT;have fe:=hf it (by simp);have In:H s.heap.objs.size=none:=I.hok.fresh (Nat.le_refl _);have eT:it<s.heap.objs.size:=Heap.lt_size hit;have I1:Inv X ag σ (upd H s.heap.objs.size (.tup [.ref q,v])) { s with heap:=s.heap.push { cls:=.type "tuple",data:=.seq #[.ref q,u] } } :=
   I.laid (t':=s.toks) (fun b o q=>Heap.get?_push_of_some _ q) (Nat.le_refl _) ⟨by simp only[List.length_cons,List.length_nil];rw[sizeLine_eq];decide,[.ref q,u],.cons rfl (.cons ru .nil),⟨_,Heap.get?_push_size s.heap rfl,rfl,⟨0,rfl⟩,rfl⟩⟩
  have fe1:cV X ag (upd H s.heap.objs.size (.tup [.ref q,v])) it:=fe.upd (Nat.ne_of_lt eT);obtain⟨g0,g1,g2,g3,g4,g5⟩:=fe1;have I2:=I1.turned (t':=s.toks) (h':=h1) (it:=it) (fun b o hb q=>by
   rcases Heap.get?_push_cases q with z|z
   ·rw[z.1,z.2];exact hT
   ·exact keep b o hb z) g0 g1 g3 g4 g5
  refine wpAny_letOwnedTupleGo_items hout fun h2 he2 hs2=>?_;have I3:=I2.turned (t':=s.toks) (h':=h2) (it:=it) (fun b o hb q=>(hs2.2 b hb).trans q) g0 g1 g3 g4 g5;refine⟨.ref s.heap.objs.size,_,I3,rfl,⟨_,q,k,v,rfl,In,hkv,hq,rfl⟩,⟨_,_,he2⟩,fun b hb=>?_⟩;rw[show b=it by simpa using hb];exact g0
 done:=by
  intro X hP hw hK hc i ag s σ H E I hf st hg;subst hP hw hK;obtain⟨e,hi⟩:=hg;obtain⟨hget,xs,rel,hes⟩:=p9 I e hd;obtain⟨ok,ov,hit⟩:=st;obtain⟨f0,f1,f2,f3,f4,f5⟩:=hf it (by simp);exact mP (I.ok.hd hc) hit hget hd (by lia) fun h' eb=>⟨rfl,I.turned (t':=s.toks) (fun b o hb q=>eb b o hb q) f0 f1 f3 f4 f5⟩
 self:=fun A i s Q E ⟨ok,ov,q⟩ h=>uT q h
end
section
variable{X:Cx}{l:Expr}{tl:TE}{te:TEd}{elts:List Expr}{x1:Nat}{pt cp bq:Pos}
def iDi(tl:TE):TI:=fun σ H R=>tl σ H fun x H1=>∃a ks,x=.ref a/\H1 a=some (.dT ks)/\∀o,R (ET a o ks) (upd H1 a (.frz o (.dT ks)))
theorem yx(hl:PE X l tl) (eC:attributeBase l "items" X.env (eval l X.env)=eval l X.env:=by rfl) (eR:(cp.endLine==bq.line)=true:=by rfl):PI X (.Tuple elts x1 pt) (.Call (.Attribute l "items" cp) [] [] bq) (iDi tl):=by
 intro ag s σ H R I h;refine wpAny_Call_method0_late eC eR (thn (hl ag s σ H _ I h) fun v s1 hup=>hup.el fun x H1 I1 r1 q1=>?_);obtain⟨a,ks,e,ea,q⟩:=q1;subst e;cases r1;obtain⟨t1,t2,_⟩:=xR I1 (.inr ⟨ks,.inl ea⟩);obtain⟨o,ho,I2⟩:=I1.freezeT ea;have hk:=I1.hok a _ ea;obtain⟨_,hs,xs,rel,o',es,ep,q',c,hd,r,_⟩:=hk;rw[ho]at q';cases q';refine⟨"dict","dict.items",PySem.F.plainAttrs_dict,PySem.F.slot_dict_items,PySem.F.type_dict_items,t1,t2,Calls.callWith_builtin rfl (PySem.evalArgs_none ?_)⟩;refine se hs ho c hd ?_;have I3:=I2.kept (t':=s1.toks) (h':=s1.heap.push { cls:=.type "dict_items",data:=.fields #[.ref a] }) fun b o e=>Heap.get?_push_of_some _ e;refine sS (d:=a) (od:=o) (es:=es) (ep:=ep) ⟨_,Heap.get?_push_size _ rfl,rfl,rfl⟩ (Heap.get?_push_of_some _ ho) hd fun h' hit keep=>?_;have I4:=I3.kept (t':=s1.toks) (h':=h') keep;have bG:es.size=ks.length:=by
  have h1:=congrArg List.length r;rw[Array.length_toList,List.length_map]at h1;rw[h1];exact(Paired.length rel).symm
 refine⟨_,[_],_,_,_,rfl,I4,sR _ hd bG,⟨_,_,hit⟩,fun b hb=>?_,q o⟩;have e:=List.mem_singleton.mp hb;rw[e];exact I3.fpOk (Nat.le_refl _) (I3.hok.fresh (Nat.le_refl _))
def Eg(te:TEd):TId:=fun Δ M R=>te Δ M fun d M1=>∃a kvs,d=.ref a/\M1 a=some (.dT kvs)/\R (kvs.map fun p=>.tup [.tup (p.1.map kD),p.2]) (jd M1 a)
theorem tO{K:PySem.W.Frag}{M:DH}{H:Hp}:∀ks:List Key,ar K M H (ks.map kD) (ks.map kV)
 |[]=>ar.nil
 |k::ks=>ar.cons sX (tO ks)
theorem xO(he:QEd X l te) (eC:attributeBase l "items" X.env (eval l X.env)=eval l X.env:=by rfl) (eR:(cp.endLine==bq.line)=true:=by rfl):QId X (.Tuple elts x1 pt) (.Call (.Attribute l "items" cp) [] [] bq) (Eg te):=by
 simp only[QEd.eq,QId.eq]at *
 exact fun ag s σ H R I h =>
  PI.conv (yx he eC eR) (fun σ H R hup=>hup.el fun Δ M R' sr hr q k=>⟨Δ,M,_,sr,hr,q,fun d M1 v H1 ⟨a,kvs,ed,em,q1⟩ e1 hr1 rv=>by
   subst ed;simp only[Rep]at rv;subst rv;obtain⟨ks,h1,kr⟩:=hr1 a _ em;refine⟨a,ks,rfl,h1,fun o=>?_⟩;have e2:Ext M1 H1 (jd M1 a) (upd H1 a (.frz o (.dT ks))):=fun b u z n=>by
    have hb:b≠a:=fun w=>by rw[w,em]at n;cases n
    rw[aA hb,iR hb];exact⟨z,n⟩
   have hr2:HR X.K (jd M1 a) (upd H1 a (.frz o (.dT ks))):=fun b u z=>by
    have hb:b≠a:=fun w=>by rw[w,gY]at z;cases z
    rw[iR hb]at z;exact(hr1 b u z).keep e2 (aA hb)
   refine k _ _ _ _ q1 (e1.trans e2) hr2 ?_
   ·intro M2 H2 e3 hr3 i;have ea:=(e3 a _ aG gY).1;refine⟨fun d hd=>?_,fun hl=>⟨ea,?_⟩⟩
    ·rw[List.getElem?_map]at hd;cases q:kvs[i]? with
     |none=>rw[q]at hd;cases hd
     |some p =>
      rw[q]at hd;cases hd;have hi:i<kvs.length:=(List.getElem?_eq_some_iff.mp q).1;refine⟨⟨ea,by rw[<-kr.length];exact hi⟩,fun x H' hy=>?_⟩;obtain⟨T,q',k',v',ex,hT,hk,hq,eH⟩:=hy;subst eH;subst ex;obtain⟨y,hy,ek,rv⟩:=jD ((kr.ext e2).ext e3) i p q;rw[hk]at hy;cases hy;have en:Ext M2 H2 M2 (upd H2 T (.tup [.ref q',v'])):=Ext.new hr3 hT;have hn:=hr3.new (o:=.tup [.ref q',v']) hT;refine⟨en,hn,?_⟩;have mq:M2 q'=none:=by
       cases hm:M2 q' with
       |none=>rfl
       |some u =>
        obtain⟨w,z,nw⟩:=(hr3 q' u hm).some;rw[hq]at z;cases z;exact absurd rfl (nw _).1
      have rk:Rep X.K M2 H2 (.tup (p.1.map kD)) (.ref q'):=by
       simp only[Rep];refine⟨q',_,rfl,.inl ⟨.inl hq,mq⟩,?_⟩;have:p.1=k':=ek;rw[this];exact tO _
      have rT:Rep X.K M2 (upd H2 T (.tup [.ref q',v'])) (.tup [.tup (p.1.map kD),p.2]) (.ref T):=by
       rw[Rep];exact⟨T,_,rfl,.inl ⟨.inl aG,hr3.fresh hT⟩,ar.cons (rk.ext en) (ar.cons (Rep.ext rv en) ar.nil)⟩
      exact rT
    ·rw[<-kr.length];simpa using hl⟩) ag s σ H R I h
end
section
variable{X:Cx}
def inF(x y:D):Option D:=match y with
 |.lst ds=>if dLe x 59=true/\cK ds 59=true then some (.bl (ds.any fun d=>eqD d x))else none
 |_=>none
theorem EB{x:D}{ds:List D}:inF x (.lst ds)=if dLe x 59=true/\cK ds 59=true then some (.bl (ds.any fun d=>eqD d x))else none:=rfl
end
section
variable{X:Cx}{a b e:Expr}{ta tb te:TEd}{pos:Pos}
def qC(ds:List D) (x:D):Option Nat:=if dLe x 59=true/\cK ds 59=true/\ds.length<2 ^ 62 then ds.findIdx? (fun d=>eqD d x)else none
theorem wJ{ds:List D}{x:D}{j:Nat}(h:qC ds x=some j):dLe x 59=true/\cK ds 59=true/\ds.length<2 ^ 62/\∃hj:j<ds.length,eqD ds[j] x=true/\∀m (hm:m<ds.length),m<j->eqD ds[m] x=false:=by
 unfold qC at h
 by_cases hc:dLe x 59=true/\cK ds 59=true/\ds.length<2 ^ 62
 ·rw[if_pos hc]at h;obtain⟨hj,h1,h2⟩:=List.findIdx?_eq_some_iff_getElem.mp h;exact⟨hc.1,hc.2.1,hc.2.2,hj,h1,fun m hm hl=>by have:=h2 m hl;simpa using this⟩
 ·rw[if_neg hc]at h;cases h
section
open PySem.SeqAt PySem.MeetsSeq AutoSeq1
theorem pW(l:Addr) (xs:Array Value) (n:Nat) (od:Option Addr) (os:Array (Option Value)) (y:Value) (hit:Nat->Bool) (top:Int) (j:Nat) (lj:j<xs.size) (ltop:(j:Int)<top) (yes:hit j=true) :
  ∀(k i:Nat),j-i=k->i<=j->(∀m,i<=m->m<j->hit m=false)->Meets (Builtin.«list.index.loop» ⟨[.ref l,y,rawInt i,rawInt top],[]⟩)
   (fun B R t=>t.heap.get? l=some { cls:=.type "list",dict:=od,data:=.seq xs n,slots:=os }/\(∀m (h:m<xs.size),EqAt B.in1 t xs[m] y (hit m))/\R (.ok (.ret (.int j t.toks))) { t with toks:=t.toks+1 })
 |0,i,ek,hi,no,prog,w,B,R,t,q=>by
  obtain⟨th,tg,td,tt,to⟩:=t;obtain⟨ql,qe,qr⟩:=q;obtain rfl:i=j:=by lia
  wp_walk using wpAny_loadPart' ql
  rw[show(if(i:Int)<top then xs[((i:Nat):Int).toNat]? else none)=some xs[i]by simp[ltop,lj]];refine wpAny_bind (qe i lj prog w _ _ ?_);rw[yes]
  wp_walk
  exact qr
 |k+1,i,ek,hi,no,prog,w,B,R,t,q=>by
  obtain⟨th,tg,td,tt,to⟩:=t;obtain⟨ql,qe,qr⟩:=q;have li:i<xs.size:=by lia
  have lt:(i:Int)<top:=by lia
  wp_walk using wpAny_loadPart' ql
  rw[show(if(i:Int)<top then xs[((i:Nat):Int).toNat]? else none)=some xs[i]by simp[lt,li]];refine wpAny_bind (qe i li prog w _ _ ?_);rw[no i (Nat.le_refl _) (by lia)]
  wp_walk
  rw[show((i:Int)+1)=((i+1:Nat):Int)by lia];refine⟨plainId_quiet plain_index_loop _,codeAny_builtin entry_index_loop ?_⟩;rw[Around.under_plainId plain_index_loop _];exact pW l xs n od os y hit top j lj ltop yes k (i+1) (by lia) (by lia) (fun m a b=>no m (by lia) b) prog w B R _ ⟨ql,qe,qr⟩
theorem xE(l:Addr) (xs:Array Value) (n:Nat) (od:Option Addr) (os:Array (Option Value)) (y:Value) (hit:Nat->Bool) (j:Nat) (lj:j<xs.size) (ls:(j:Int)<2 ^ 63-1) (yes:hit j=true) (no:∀m,m<j->hit m=false) :
  Meets (Builtin.«list.index» ⟨[.ref l,y],[]⟩)
   (fun B R t=>t.heap.get? l=some { cls:=.type "list",dict:=od,data:=.seq xs n,slots:=os }/\(∀m (h:m<xs.size),EqAt B.in1 t xs[m] y (hit m))/\R (.ok (.ret (.int j t.toks))) { t with toks:=t.toks+1 }):=by
 intro prog w B R t q;obtain⟨th,tg,td,tt,to⟩:=t;obtain⟨ql,qe,qr⟩:=q
 wp_walk using wpAny_loadPart' ql
 rw[show((fun i:Int=>if i<0 then max 0 (i+(xs.size:Int))else i) ((none:Option Int).getD 0))=((0:Nat):Int)by simp,show((fun i:Int=>if i<0 then max 0 (i+(xs.size:Int))else i) ((none:Option Int).getD (2 ^ 63-1)))=2 ^ 63-1 by simp];refine⟨plainId_quiet plain_index_loop _,codeAny_builtin entry_index_loop ?_⟩;rw[Around.under_plainId plain_index_loop _];exact pW l xs n od os y hit (2 ^ 63-1) j lj ls yes _ 0 rfl (Nat.zero_le _) (fun m _ b=>no m b) prog w B R _ ⟨ql,qe,qr⟩
end
end
section
variable{X:Cx}{o e:Expr}{to te:TEd}{cp bq:Pos}
def qm(ds:List D) (d:D) (m:Nat):Bool:=match ds[m]? with|some x=>eqD x d|none=>false
theorem zR{ag:List (Addr×Obj)}{σ:St}{H:Hp}{s:Shared}{M:DH}{ds:List D}{d:D}{vs:List V}{its:List Value}{y:V}{u:Value}(I:Inv X ag σ H s) (hu:X.A.units+64<cLine) (rl:ar X.K M H ds vs) (r:aB vs its) (r1:aX X.K M H d y) (ry:aL y u) (h1:dLe d 59=true) (h2:cK ds 59=true) :
  ∀m (h:m<its.toArray.size),PySem.SeqAt.EqAt X.A.in1 s its.toArray[m] u (qm ds d m):=fun m h=>by
 have hl:ds.length=its.length:=rl.length.trans r.length;have h':m<its.length:=by simpa using h
 have h3:m<ds.length:=by lia
 obtain⟨v1,g1,p1⟩:=rl.get (i:=m) (d:=ds[m]) (by simp[h3]);obtain⟨u1,k1,m1⟩:=r.get g1;have e1:its.toArray[m]=u1:=by simpa[List.getElem?_eq_getElem h']using k1
 rw[e1,show qm ds d m=eqD ds[m] d by simp[qm,h3]];exact(rX I 59 (by show X.A.units+1+59<cLine;lia) (jo h2 (i:=m) (by simp[h3])) h1 p1.r r1 m1 ry).1
theorem xm{ds:List D}{x:D}{j:Nat}(h:qC ds x=some j):dLe x 59=true/\cK ds 59=true/\(j:Int)<2 ^ 63-1/\j<ds.length/\qm ds x j=true/\∀m,m<j->qm ds x m=false:=by
 obtain⟨h1,h2,h3,lj,yes,no⟩:=wJ h;refine⟨h1,h2,by lia,lj,by simp[qm,lj,yes],fun m hm=>?_⟩;have hm':m<ds.length:=by lia
 simp[qm,hm',no m hm' hm]
theorem yS(hu:X.A.units+64<cLine):MtR X "list.index" (fun x xs H Q=>∃M ds d y j,xs=[y]/\aX X.K M H (.lst ds) x/\aX X.K M H d y/\qC ds d=some j/\Q (.int j) H):=by
 intro ag s σ H x xs v us Q I rx rv h;obtain⟨M,ds,d,y,j,rfl,r2,r1,hj,q⟩:=h;obtain⟨u,rfl,ry⟩:=aB.one rv;obtain⟨l,vs,rfl,sq,rl⟩:=r2;cases rx;obtain⟨its,r,pl,hz⟩:=I.list (SqL.of sq);obtain⟨h1,h2,h3,lj,yes,no⟩:=xm hj;have hl:ds.length=its.length:=rl.length.trans r.length;obtain⟨⟨c,dd,dt,sl⟩,n,ho,hc,hdd,hdt⟩:=pl;obtain rfl:c=.type "list":=hc;obtain rfl:dt=.seq its.toArray n:=hdt;exact call_meets F.slot_list_index ⟨_,ho,rfl⟩ F.entry_list_index (F.args_list_index_2 _ _) (xE l its.toArray n dd sl u (qm ds d) j (by simp;lia) h3 yes no) ⟨ho,zR I hu rl r r1 ry h1 h2,⟨.int _,H,I.tok _,⟨_,rfl⟩,q⟩⟩
def AR(to te:TEd):TEd:=fun Δ M Q=>to Δ M fun o M1=>(∃ds,rdM M1 o=.lst ds)/\te Δ M1 fun x M2=>∃ds j,rdM M2 o=.lst ds/\qC ds (rdM M2 x)=some j/\Q (.int j) M2
theorem rH(hu:X.A.units+64<cLine) (ho:QEd X o to) (he:QEd X e te) (eC:attributeBase o "index" X.env (eval o X.env)=eval o X.env:=by rfl)
  (hse:starEach [e] X.env=(false,eval e X.env)::starEach [] X.env:=by rfl)
  (lb:((backTo bq (starEach [e] X.env)).all (fun x => !x.1) && (backToKw bq (keywordEach [] X.env)).all (fun x => x.1.isSome)
  &&decide ([e].length+([]:List Keyword).length+(if([]:List Keyword).isEmpty then 0 else 1)<30))=true:=by rfl)
  (eR:(cp.endLine==bq.line)=true:=by rfl) (iC:(backTo bq (starEach [] X.env)).any (·.1)=false:=by rfl):QEd X (.Call (.Attribute o "index" cp) [e] [] bq) (AR to te):=by
 rw[QEd.eq]at *
 refine(xp PySem.F.plainAttrs_list PySem.F.slot_list_index PySem.F.type_list_index (yS hu) ho (h8 he mr hse) eC lb eR hse iC).conv fun σ H Q hh=>?_;obtain⟨Δ,M,R,sr,hr,q,k⟩:=hh;refine⟨Δ,M,_,sr,hr,q,fun o M1 ov H1 ⟨⟨ds0,e0⟩,q1⟩ e1 hr1 ro=>?_⟩;have r0:=ro.rd hr1;rw[e0]at r0;obtain⟨l0,vs0,rfl,hl0,_⟩:=r0;refine⟨.inl ⟨rfl,vs0,SqL.of hl0⟩,Δ,M1,_,sr.ext e1,hr1,q1,fun d M2 v H2 ⟨ds,j,ed,hj,q2⟩ e2 hr2 rv=>?_⟩;have r2:=(ro.ext e2).rd hr2;rw[ed]at r2;exact⟨M2,ds,_,v,j,rfl,r2,rv.rd hr2,hj,k _ M2 _ H2 q2 (e1.trans e2) hr2 (by simp[Rep])⟩
end
section
variable{X:Cx}{scope:Scope}{cl:List (Str×Addr)}{am:List Str}{tg:Expr}{pos:Pos}
end
section
variable{X:Cx}{e:Expr}{te:TEd}
def Fm(kvs:List (Key×D)):D:=.box (.dk (kvs.map (·.1))) (kvs.map (·.2))
end
section
variable{X:Cx}{a b c e o i:Expr}{es:List Expr}{te ta tb to ti:TEd}{t:TAd}{pos:Pos}{tg iter:Expr}
end
def EN:D->Option D
 |.box (.dk ks) _=>some (.lst (ks.map kD))
 |_=>none
theorem zI{kvs:List (Key×D)}:EN (Fm kvs)=some (.lst (kvs.map fun p=>kD p.1)):=by
 show some (D.lst ((kvs.map (·.1)).map kD))=_;rw[List.map_map];rfl
noncomputable def FQ:D->Option D
 |.int i=>some (.int i)
 |.bl k=>some (.int (if k then 1 else 0))
 |_=>none
theorem Bo{k:Bool}:FQ (.bl k)=some (.int (if k then 1 else 0)):=rfl
section
variable{X:Cx}
end
section
variable{X:Cx}{e:Expr}{t:TEd}
def AM(t:TEd):TEd:=fun Δ M Q=>t (Δ.map (Option.map (rdM M))) noM fun d M2=>noL d=true/\M2=noM/\Q d M
theorem SR.lend{K:PySem.W.Frag}{M:DH}{H:Hp}{σ:St}{Δ:DE}(sr:SR K M H σ Δ) (hr:HR K M H):SR K noM H σ (Δ.map (Option.map (rdM M))):=by
 refine⟨by rw[List.length_map];exact sr.1,fun i d hd=>?_⟩;rw[List.getElem?_map]at hd;cases hx:Δ[i]? with
 |none=>rw[hx]at hd;cases hd
 |some o =>
  rw[hx]at hd;cases o with
  |none=>cases hd
  |some d0 =>
   have e0:rdM M d0=d:=by simpa using hd
   subst e0;obtain⟨v,ev,rv⟩:=sr.2 i d0 hx;refine⟨v,ev,?_⟩;have:=qW hr LeM.no (qp (ds:=[d0])) (ar.cons rv ar.nil);simp only[List.map_cons,List.map_nil,ar]at this;obtain⟨w,ws,q,h1,_⟩:=this;cases q;exact h1
theorem Da(h:QEd X e t):QEd X e (AM t):=by
 simp only[QEd.eq]at *
 exact PE.conv h fun σ H Q hup=>hup.el fun Δ M R sr hr q k=>⟨_,noM,_,sr.lend hr,HR.nil,q,fun d M2 v H' ⟨hn,hM,q'⟩ e' hr' rv'=>by
  subst hM;have:=k d (iy M noM noM) v H' (by rw[xy];exact q') (Ext.back LeM.no e') (hr.back LeM.no e' hr' (fun a l z=>nomatch z)) (Rep.hard hn rv' (cC hr LeM.no e' hr'));exact this⟩
end
section
variable{P:Program}{w:World}{K:PySem.W.Frag}{h base:Heap}{mg:Str->Option Value}{x qual:Str}{st:Stmt}{f:Addr}{fd:FuncData}{k:Nat}{S:SpD}
structure bz(K:PySem.W.Frag) (x:Str) (st:Stmt) (f:Addr) (fd:FuncData):Prop where
 a:PySem.W.nsIn K mainGlobals x=some (some (.ref f))
 F:Fun K x x st f fd
theorem DQ{oc:Value}{od an:Option Addr}{osl:Array (Option Value)}{kV doc pm cdv ct:Value}(a:PySem.W.nsIn K mainGlobals x=some (some (.ref f))) (l:K.lookup f=some ⟨oc,od,.func (PySem.W.fnOf x x (fU st) (cY st) (ao st) .none kV doc pm an cdv ct),osl⟩)
  (c:PySem.W.codeIn K cdv x=true) (k:PySem.W.keepIn K (.ref f)=true):bz K x st f (PySem.W.fnOf x x (fU st) (cY st) (ao st) .none kV doc pm an cdv ct):=⟨a,wX l c k⟩
theorem usS{p:List Value->Prop}{n:Nat}(h:∀a us,us.length=n->p (a::us)):∀us:List Value,us.length=n+1->p us:=by
 intro us e;cases us with
 |nil=>cases e
 |cons a us=>exact h a us (Nat.succ.inj e)
theorem us0{p:List Value->Prop}(h:p []):∀us:List Value,us.length=0->p us:=by
 intro us e;cases us with
 |nil=>exact h
 |cons a us=>cases e
def Bd(x qual:Str) (st:Stmt) (ps:List Str) (us:List Value):Prop:=∀(kV doc pm:Value) (an:Option Addr) (cdv ct:Value),bindArgs (PySem.W.fnOf x qual (fU st) (cY st) (ao st) .none kV doc pm an cdv ct) ⟨us,[]⟩=pure (ps.zip us)
theorem nF{ps:List Str}(F:Fun K x qual st f fd) (b:∀us:List Value,us.length=ps.length->Bd x qual st ps us):dZ K fd ps []:=F.binds fun kV doc pm an cdv ct us hl=>b us hl kV doc pm an cdv ct
variable{p1 p2 p3 p4 p5:Str}
theorem bd1(F:Fun K x qual st f fd) (b:∀a,Bd x qual st [p1] [a]):dZ K fd [p1] []:=nF F (usS fun a=>us0 (b a))
theorem bd2(F:Fun K x qual st f fd) (b:∀a c,Bd x qual st [p1,p2] [a,c]):dZ K fd [p1,p2] []:=nF F (usS fun a=>usS fun c=>us0 (b a c))
theorem bd3(F:Fun K x qual st f fd) (b:∀a c d,Bd x qual st [p1,p2,p3] [a,c,d]):dZ K fd [p1,p2,p3] []:=nF F (usS fun a=>usS fun c=>usS fun d=>us0 (b a c d))
theorem bd4(F:Fun K x qual st f fd) (b:∀a c d e,Bd x qual st [p1,p2,p3,p4] [a,c,d,e]):dZ K fd [p1,p2,p3,p4] []:=nF F (usS fun a=>usS fun c=>usS fun d=>usS fun e=>us0 (b a c d e))
theorem bd5(F:Fun K x qual st f fd) (b:∀a c d e g,Bd x qual st [p1,p2,p3,p4,p5] [a,c,d,e,g]):dZ K fd [p1,p2,p3,p4,p5] []:=nF F (usS fun a=>usS fun c=>usS fun d=>usS fun e=>usS fun g=>us0 (b a c d e g))
theorem fg{ps:List Str}{n:Nat}(X:K.In h) (G:h.Ns mainGlobals mg) (i:bz K x st f fd) (o:bj P w K mg base CX0 k f fd ps (spD K n S)) (b:dZ K fd ps []):FnD P w K mg base x k n S:=⟨_,_,_,o,PySem.W.mg_of X G i.a,i.F.kp,b⟩
end
theorem nbh{op:CmpOp}{b:Expr}(h:op≠.In:=by decide) (h2:op≠.NotIn:=by decide):behindInMarks op b=false:=lR b h h2
theorem fsc{N P:List Str}{sc:Scope}(a:sc.kind=.function:=by exact rfl) (b:sc.isCoroutine=false:=by exact rfl) (c:sc.isGenerator=false:=by exact rfl) (d:N.Nodup:=by decide +kernel) (e:N.take P.length=P:=by exact rfl)
  (f:∀x∈P,sc.names.lookup x=some .local∨sc.names.lookup x=some .cell:=by decide +kernel) (g:∀y∈sc.names,y.2≠.free:=by decide +kernel):az N P sc:=⟨a,b,c,d,e,f,g⟩
section
variable{X:Cx}{e:Expr}{es:List Expr}{t:TAd}{pos p:Pos}{x:Str}{j k n:Nat}{S:SpD}
theorem qd(F:FnD X.prog X.w X.K X.mg X.base x j n S) (hr:cZ k X.A) (ha:QAd X (e::es) t) (h:j<=k:=by decide) (hg:Gl X x:=by exact rfl) (hdb:(x==("__debug__":Str))=false:=by decide) (he:starEach (e::es) X.env=(false,eval e X.env)::starEach es X.env:=by rfl) (hpl:(backTo pos (starEach es X.env)).any (·.1)=false:=by rfl) :
  QEd X (.Call (.Name x p) (e::es) [] pos) (lg n S t):=qc F (hr.mono h) hg ha hdb he hpl
end
end L2
namespace L2
open PySem
end L2
namespace L2
open PySem PySem.SetTable
def rs(mask:Nat) (h:Int):Nat->Nat×Nat
 |0=>(bits h % (mask+1),bits h)
 |n+1=>leap mask (rs mask h n).1 (rs mask h n).2
variable{mask:Nat}{h:Int}
end L2
namespace L2
open PySem PySem.Spec PyProof.Rows
section
variable{prog:Program}{w:World}{A:Around}{E:Value->Shared->Prop}{s:Shared}
abbrev Fu(vs:Array Value) (c:Nat):Obj:={ cls:=.type "list",data:=.seq vs c }
end
section
variable{X:Cx}{o i:Expr}{to ti:TEd}{pos:Pos}
end
section
variable{P:Program}{w:World}{K:PySem.W.Frag}{mg:Str->Option Value}{base:Heap}{f:Addr}{fd:FuncData}
theorem Fun.okR{x qual:Str}{st:Stmt}{f:Addr}{fd:FuncData}{N ps:List Str}{k n:Nat}{S:SpD}(F:Fun K x qual st f fd) (hn:ps.length=n) (Sc:az N ps (ao st))
  (hbody:∀ (cdv:Value) (A:Around) (outer:List Env) (s:Shared) (H:Hp) (E:XK),cZ k (A.deeper (envOfC qual (ao st) s.heap.objs.size f cdv)) →
   ∃t:TSd,QSs (oV CX0 P w K mg base N qual (ao st) f cdv A outer s H E).nox (cY st) t/\∀ds M R (G:Prop),S ds M R->(t { nx:=fun _ M'=>R .non M',rt:=R } (fW N ds) M->G)->G):bj P w K mg base CX0 (k+1) f fd ps (spD K n S):=by
 refine F.okD hn Sc fun cdv A outer s H E hr=>?_;obtain⟨t,h1,h2⟩:=hbody cdv A outer s H E hr;exact⟨t,uG h1,fun ds M R _ hS=>h2 ds M R _ hS id⟩
theorem shr{p:Prop}(h:∀q:Prop,(p->q)->q):p:=h p id
theorem nn{M:DH}{p q:Addr}{u:HD}(h1:M q=none) (h2:M p=some u):q≠p:=fun e=>by rw[e,h2]at h1;cases h1
end
end L2
namespace L2
open PySem PyProof.Rows
section
variable{prog:Program}{w:World}{A:Around}{E:Value->Shared->Prop}{s:Shared}{O:KeyOrd}{key:Keyed->O.α}{a0:List Keyed}{κ:SortKind}
structure SB(a0:List Keyed) (κ:SortKind) (st:SortSt):Prop where
 perm:(arrOf st).toList.Perm a0
 kind:kindOf st=κ
 fail:failedOf st=none
theorem SB.size{st:SortSt}(h:SB a0 κ st):(arrOf st).size=a0.length:=by rw[<-Array.length_toList];exact h.perm.length_eq
end
section
variable{prog:Program}{w:World}{A:Around}{E:Value->Shared->Prop}{s:Shared}{O:KeyOrd}{key:Keyed->O.α}{a0:List Keyed}{κ:SortKind}{a b out:Array Keyed}{ia ib k:Nat}
structure Sg(st st':SortSt):Prop where
 k:kindOf st'=kindOf st
 a:arrOf st'=arrOf st
 p:pendingOf st'=pendingOf st
 f:failedOf st'=failedOf st
end
end L2
namespace L2
open PySem PySem.SetTable
variable{mask:Nat}{h:Int}
variable{mask:Nat}
end L2
namespace L2
open PySem PySem.SetTable PySem.SeqAt
structure TK(prog:Program) (w:World) (τ:Type) where
 is:Heap->τ->Value->Prop
 hash:τ->Int
 room:Around->Prop
 pyHash:∀{A:Around} {E:Value->Shared->Prop} {s:Shared} {x:τ} {v:Value} {Q:Int->Shared->Prop},room A->is s.heap x v->(∀t,s.toks<=t->Q (hash x) { s with toks:=t })->wpAny (model prog w) A (PySem.pyHash v) Q E s
 eqB:∀{A:Around} {s:Shared} {x y:τ} {v u:Value},room A->is s.heap x v->is s.heap y u->∃b:Bool,(b=true↔x=y)/\EqAt A s v u b
 quiet:∀{A:Around} {E:Value->Shared->Prop} {s:Shared} {x:τ} {v:Value} {Q:Bool->Shared->Prop},room A->is s.heap x v->Q true s->wpAny (model prog w) A (eqIsQuiet 8 v) Q E s
 noCls:∀{A:Around} {E:Value->Shared->Prop} {s:Shared} {x:τ} {v:Value} {Q:Bool->Shared->Prop},room A->is s.heap x v->Q false s->wpAny (model prog w) A (ofAClassStatement 8 v) Q E s
 byV:∀{A:Around} {E:Value->Shared->Prop} {s:Shared} {x:τ} {v:Value} {Q:Bool->Shared->Prop},room A->is s.heap x v->(∀b,Q b s)->wpAny (model prog w) A (hashByValue 8 v) Q E s
 ref:∀{h:Heap} {x:τ} {v:Value},is h x v->∃a,v=.ref a
variable{prog:Program}{w:World}{τ:Type}{κ:TK prog w τ}{A:Around}{E:Value->Shared->Prop}{s:Shared}
variable{prog:Program}{w:World}{τ:Type}{κ:TK prog w τ}{A:Around}{E:Value->Shared->Prop}{s:Shared}
end L2
namespace L2
open PySem PySem.Spec PyProof.Rows PySem.SeqAt
inductive KD where
 |int (i:Int)|str (x:Str)|tup (ks:List KD)
 deriving Inhabited
def KAt(h:Heap):Nat->KD->Value->Prop
 |_,.int i,v=>∃t,v=.int i t
 |_,.str x,v=>∃t,v=.str x t
 |0,.tup _,_=>False
 |n+1,.tup ds,v=>∃(a:Addr) (its:Array Value),v=.ref a/\IsTup h a its/\its.size=ds.length/\∀(i:Nat) d u,ds[i]?=some d->its[i]?=some u->KAt h n d u
def hK(w:World):Nat->KD->Int
 |_,.int i=>hashInt i
 |_,.str x=>hashStr w x
 |0,.tup _=>0
 |n+1,.tup ds=>reduceHash (Builtin.Tuple.tupleHashOf (ds.map (hK w n)))
theorem D6{h:Heap}{n:Nat}{i:Int}{v:Value}:KAt h n (.int i) v↔∃t,v=.int i t:=by cases n<;>exact .rfl
theorem DC{h:Heap}{n:Nat}{i:Str}{v:Value}:KAt h n (.str i) v↔∃t,v=.str i t:=by cases n<;>exact .rfl
theorem yC{h h':Heap}{a:Addr}{its:Array Value}(t:IsTup h a its) (k:∀o,o.cls=.type "tuple"->h.get? a=some o->h'.get? a=some o):IsTup h' a its :=
 let⟨o,ho,hc,hd⟩:=t
 ⟨o,k _ hc ho,hc,hd⟩
theorem KAt.upT{h h':Heap}(k:∀b xs,IsTup h b xs->IsTup h' b xs):∀{n:Nat}{d:KD}{v:Value},KAt h n d v->KAt h' n d v:=by
 intro n
 induction n with
 |zero=>intro d v q;cases d<;>exact q
 |succ n ih =>
  intro d v q;cases d with
  |int _=>exact q
  |str _=>exact q
  |tup ds =>
   obtain⟨a,its,e,t,z,r⟩:=q;exact⟨a,its,e,k a _ t,z,fun i d u h1 h2=>ih (r i d u h1 h2)⟩
theorem KAt.up{h h':Heap}(k:∀b o,o.cls=.type "tuple"->h.get? b=some o->h'.get? b=some o) {n:Nat} {d:KD} {v:Value} (q:KAt h n d v):KAt h' n d v:=q.upT fun b xs t=>yC t (k b)
theorem KAt.same{h:Heap}:∀(n:Nat) {d e:KD}{v:Value},KAt h n d v->KAt h n e v->d=e:=by
 intro n
 induction n with
 |zero =>
  intro d e v h1 h2;cases d with
  |int i=>cases e with
   |int j=>obtain⟨_,rfl⟩:=h1;obtain⟨_,z⟩:=h2;cases z;rfl
   |str j=>obtain⟨_,rfl⟩:=h1;obtain⟨_,z⟩:=h2;cases z
   |tup _=>exact h2.elim
  |str i=>cases e with
   |int j=>obtain⟨_,rfl⟩:=h1;obtain⟨_,z⟩:=h2;cases z
   |str j=>obtain⟨_,rfl⟩:=h1;obtain⟨_,z⟩:=h2;cases z;rfl
   |tup _=>exact h2.elim
  |tup _=>exact h1.elim
 |succ n ih =>
  intro d e v h1 h2;cases d with
  |int i=>cases e with
   |int j=>obtain⟨_,rfl⟩:=h1;obtain⟨_,z⟩:=h2;cases z;rfl
   |str j=>obtain⟨_,rfl⟩:=h1;obtain⟨_,z⟩:=h2;cases z
   |tup _=>obtain⟨_,rfl⟩:=h1;obtain⟨_,_,z,_⟩:=h2;cases z
  |str i=>cases e with
   |int j=>obtain⟨_,rfl⟩:=h1;obtain⟨_,z⟩:=h2;cases z
   |str j=>obtain⟨_,rfl⟩:=h1;obtain⟨_,z⟩:=h2;cases z;rfl
   |tup _=>obtain⟨_,rfl⟩:=h1;obtain⟨_,_,z,_⟩:=h2;cases z
  |tup ds=>cases e with
   |int j=>obtain⟨_,rfl⟩:=h2;obtain⟨_,_,z,_⟩:=h1;cases z
   |str j=>obtain⟨_,rfl⟩:=h2;obtain⟨_,_,z,_⟩:=h1;cases z
   |tup es =>
    obtain⟨a1,its,e1,⟨o,ho,hc,c,hd⟩,z,r⟩:=h1;obtain⟨a2,its2,e2,⟨o2,ho2,hc2,c2,hd2⟩,z2,r2⟩:=h2;subst e1;cases e2;rw[ho]at ho2;cases ho2;rw[hd]at hd2;cases hd2;congr 1;refine List.ext_getElem? fun i=>?_;rcases Nat.lt_or_ge i ds.length with q|q
    ·have q2:i<es.length:=by lia
     rw[List.getElem?_eq_getElem q,List.getElem?_eq_getElem q2];have q3:i<its.size:=by lia
     exact congrArg some (ih (r i _ _ (List.getElem?_eq_getElem q) (Array.getElem?_eq_getElem q3)) (r2 i _ _ (List.getElem?_eq_getElem q2) (Array.getElem?_eq_getElem q3)))
    ·rw[List.getElem?_eq_none q,List.getElem?_eq_none (by lia)]
def drK:Nat->KD->Nat
 |_,.int _=>1
 |_,.str _=>1
 |0,.tup _=>0
 |n+1,.tup ds=>(ds.map (drK n)).sum+1
section
variable{prog:Program}{w:World}{A:Around}{E:Value->Shared->Prop}{s:Shared}
theorem KAt.eq:∀(n:Nat) {A:Around}{d e:KD}{v u:Value},A.units+n<cLine->KAt s.heap n d v->KAt s.heap n e u->∃b:Bool,(b=true↔d=e)/\EqAt A s v u b:=by
 intro n
 induction n with
 |zero =>
  intro A d e v u hu q1 q2;cases d with
  |tup _=>exact q1.elim
  |int i=>obtain⟨t,rfl⟩:=q1;cases e with
   |tup _=>exact q2.elim
   |int j=>obtain⟨t',rfl⟩:=q2;exact⟨i==j,by simp,EqAt.int_int _ _ _ _⟩
   |str j=>obtain⟨t',rfl⟩:=q2;exact⟨false,by simp,EqAt.int_str _ _ _ _⟩
  |str i=>obtain⟨t,rfl⟩:=q1;cases e with
   |tup _=>exact q2.elim
   |int j=>obtain⟨t',rfl⟩:=q2;exact⟨false,by simp,EqAt.str_int _ _ _ _⟩
   |str j=>obtain⟨t',rfl⟩:=q2;exact⟨i==j,by simp,EqAt.str_str _ _ _ _⟩
 |succ n ih =>
  intro A d e v u hu q1 q2;cases d with
  |int i=>obtain⟨t,rfl⟩:=q1;cases e with
   |int j=>obtain⟨t',rfl⟩:=q2;exact⟨i==j,by simp,EqAt.int_int _ _ _ _⟩
   |str j=>obtain⟨t',rfl⟩:=q2;exact⟨false,by simp,EqAt.int_str _ _ _ _⟩
   |tup _=>obtain⟨a,its,rfl,t,_⟩:=q2;exact⟨false,by simp,EqAt.int_tuple _ _ t (by lia)⟩
  |str i=>obtain⟨t,rfl⟩:=q1;cases e with
   |int j=>obtain⟨t',rfl⟩:=q2;exact⟨false,by simp,EqAt.str_int _ _ _ _⟩
   |str j=>obtain⟨t',rfl⟩:=q2;exact⟨i==j,by simp,EqAt.str_str _ _ _ _⟩
   |tup _=>obtain⟨a,its,rfl,t,_⟩:=q2;exact⟨false,by simp,EqAt.str_tuple _ _ t (by lia)⟩
  |tup ds =>
   obtain⟨a,its,rfl,t1,z1,r1⟩:=id q1;cases e with
   |int j=>obtain⟨t',rfl⟩:=q2;exact⟨false,by simp,EqAt.tuple_int _ _ t1 (by lia)⟩
   |str j=>obtain⟨t',rfl⟩:=q2;exact⟨false,by simp,EqAt.tuple_str _ _ t1 (by lia)⟩
   |tup es =>
    obtain⟨b,its2,rfl,t2,z2,r2⟩:=id q2
    by_cases ab:a=b
    ·subst ab;exact⟨true,by simp[KAt.same (n+1) q1 q2],EqAt.same _⟩
    ·have item:∀j,∃b:Bool,∀(h1:j<its.size) (h2:j<its2.size),(b=true↔ds[j]?=es[j]?)/\EqAt A.in1 s its[j] its2[j] b:=fun j=>by
      by_cases h1:j<its.size
      ·by_cases h2:j<its2.size
       ·obtain⟨b,b1,b2⟩:=ih (A:=A.in1) (show A.units+1+n<cLine by lia) (r1 j _ _ (List.getElem?_eq_getElem (by lia)) (Array.getElem?_eq_getElem h1)) (r2 j _ _ (List.getElem?_eq_getElem (by lia)) (Array.getElem?_eq_getElem h2));exact⟨b,fun _ _=>⟨by rw[List.getElem?_eq_getElem (by lia),List.getElem?_eq_getElem (by lia),b1];simp,b2⟩⟩
       ·exact⟨true,fun _ h=>absurd h h2⟩
      ·exact⟨true,fun h=>absurd h h1⟩
     have rc:=RcAt.tuples (A:=A) (s:=s) (e:=fun j=>(item j).choose) t1 t2 (by lia) fun j h1 h2=>((item j).choose_spec h1 h2).2;refine⟨_,?_,EqAt.of_refs ab rc⟩;rw[Bool.and_eq_true,List.all_eq_true,beq_iff_eq];constructor
     ·rintro⟨h1,h2⟩;congr 1;refine List.ext_getElem? fun i=>?_;rcases Nat.lt_or_ge i ds.length with q|q
      ·exact((item i).choose_spec (by lia) (by lia)).1.mp (h1 i (List.mem_range.mpr (by lia)))
      ·rw[List.getElem?_eq_none q,List.getElem?_eq_none (by lia)]
     ·intro z;cases z;refine⟨fun i hi=>?_,by lia⟩;have hi:=List.mem_range.mp hi;exact((item i).choose_spec (by lia) (by lia)).1.mpr rfl
theorem KAt.hash:∀(n:Nat) {A:Around}{s:Shared}{E:Value->Shared->Prop}{d:KD}{v:Value}{Q:Int->Shared->Prop},A.units+n<cLine->KAt s.heap n d v->Q (hK w n d) { s with toks:=s.toks+drK n d }->wpAny (model prog w) A (pyHash v) Q E s:=by
 intro n
 induction n with
 |zero =>
  intro A s E d v Q hu q h;cases d with
  |int i=>obtain⟨t,rfl⟩:=q;exact wpAny_pyHash_int h
  |str i=>obtain⟨t,rfl⟩:=q;exact wpAny_pyHash_str h
  |tup _=>exact q.elim
 |succ n ih =>
  intro A s E d v Q hu q h;cases d with
  |int i=>obtain⟨t,rfl⟩:=q;exact wpAny_pyHash_int h
  |str i=>obtain⟨t,rfl⟩:=q;exact wpAny_pyHash_str h
  |tup ks =>
   obtain⟨a,its,rfl,tp,z,r⟩:=q;obtain⟨o,ho,hc,c,hd⟩:=tp;have hT:s.TypeIs (.ref a) "tuple":=⟨o,ho,hc⟩;have hu0:A.units<cLine:=by lia
   unfold pyHash pyHashByItsType;refine wpAny_bind (wpAny_cRoomFor_or (.inr hu0) ?_);refine wpAny_bind (wpAny_specialOf hT F.slot_tuple_hash.lookup ?_);show wpAny _ _ (if(some (Value.builtin "tuple.__hash__")==some Value.none)=true then _ else _) Q E s;rw[if_neg (by rw[beq_builtin_none];exact Bool.false_ne_true)];refine wpAny_bind (wpAny_specialOf hT F.slot_tuple_hash.lookup ?_);show wpAny _ _ (callSpecialIfBoundUnlessNone? (.ref a) "__hash__" _ >>= _) Q E s;refine wpAny_bind (wpAny_callSpecialIfBoundUnlessNone?_slot hT F.slot_tuple_hash (wpAny_call_entry F.slot_tuple_hash hT F.entry_tuple_hash ?_ (F.args_tuple_hash_1 _)));show wpAny _ _ (Builtin.Tuple.tupleItemsOf (.ref a) >>= _) _ _ s;refine wpAny_bind (wpAny_tupleItemsOf ho hd ?_);refine wpAny_bind ?_;rw[<-Array.forIn_toList];refine wpAny_forIn_list _ (fun bZ (b:Array Int) s'=>∃m,m<=ks.length/\bZ=its.toList.drop m/\b.toList=(ks.take m).map (hK w n)/\s'={ s with toks:=s.toks+((ks.take m).map (drK n)).sum }) _ ?_ ?_ _ _ ⟨0,Nat.zero_le _,rfl,rfl,rfl⟩
   ·rintro x bZ b s' ⟨m,hm,hr,hb,rfl⟩;have lt:m<its.size:=by
     rcases Nat.lt_or_ge m its.size with q|q
     ·exact q
     ·rw[List.drop_eq_nil_of_le (by rw[Array.length_toList];exact q)]at hr;cases hr
    rw[List.drop_eq_getElem_cons (by rw[Array.length_toList];exact lt)]at hr;obtain⟨rfl,rfl⟩:=List.cons.inj hr;have km:ks[m]?=some (ks[m]'(by lia)):=List.getElem?_eq_getElem _;refine wpAny_bind (ih (show A.in1.units+n<cLine by show A.units+1+n<cLine;lia) (r m _ _ km (by rw[Array.getElem?_eq_getElem lt];simp)) ?_);refine wpAny_pure ⟨m+1,by lia,rfl,?_,?_⟩
    ·rw[Array.toList_push,hb,List.take_add_one,km,List.map_append];rfl
    ·rw[List.take_add_one,km,List.map_append,List.sum_append,<-Nat.add_assoc];simp
   ·rintro b s' ⟨m,hm,hr,hb,rfl⟩;have:m=ks.length:=by
     rcases Nat.lt_or_ge m its.size with q|q
     ·rw[List.drop_eq_getElem_cons (by rw[Array.length_toList];exact q)]at hr;cases hr
     ·lia
    subst this;rw[List.take_length]at hb ⊢;show wpAny _ _ (retInt (Builtin.Tuple.tupleHashOf b.toList)) _ _ _;rw[hb];refine wpAny_ret_mkInt ?_;show wpAny _ _ (if(decide (-(2:Int) ^ 63<=Builtin.Tuple.tupleHashOf (ks.map (hK w n)))&&decide (Builtin.Tuple.tupleHashOf (ks.map (hK w n))<2 ^ 63))=true then _ else _) Q E _;have h':Q (reduceHash (Builtin.Tuple.tupleHashOf (ks.map (hK w n)))) { s with toks:=s.toks+((ks.map (drK n)).sum+1) }:=h;rw[<-Nat.add_assoc]at h';unfold reduceHash at h'
    by_cases hr2:(decide (-(2:Int) ^ 63<=Builtin.Tuple.tupleHashOf (ks.map (hK w n)))&&decide (Builtin.Tuple.tupleHashOf (ks.map (hK w n))<2 ^ 63))=true
    ·rw[if_pos hr2];rw[if_pos hr2]at h';exact wpAny_pure h'
    ·rw[if_neg hr2];rw[if_neg hr2]at h';exact wpAny_bind (wpAny_rule (wpAny_pure h'))
end
section
variable{prog:Program}{w:World}{A:Around}{E:Value->Shared->Prop}{s:Shared}
theorem Dg{a:Addr}{its:Array Value}{Q:Option (Array Value)->Shared->Prop}(t:IsTup s.heap a its) (h:Q (some its) s):wpAny (model prog w) A (seqItems? (.ref a)) Q E s:=by
 obtain⟨o,ho,hc,c,hd⟩:=t;unfold seqItems?;refine wpAny_bind (wpAny_load ho ?_);rw[hd];exact wpAny_pure h
theorem KAt.item{h:Heap}{n:Nat}{ks:List KD}{its:Array Value}(z:its.size=ks.length) (r:∀(i:Nat) d u,ks[i]?=some d->its[i]?=some u->KAt h n d u) {x:Value}(hx:x∈its.toList):∃k,KAt h n k x:=by
 obtain⟨i,hi⟩:=List.mem_iff_getElem?.mp hx;rw[Array.getElem?_toList]at hi;have lt:=(Array.getElem?_eq_some_iff.mp hi).1;exact⟨_,r i _ _ (List.getElem?_eq_getElem (by lia)) hi⟩
theorem KAt.quiet:∀(f n:Nat) {k:KD}{v:Value}{Q:Bool->Shared->Prop},n<=f->KAt s.heap n k v->Q true s->wpAny (model prog w) A (eqIsQuiet f v) Q E s:=by
 intro f
 induction f with
 |zero =>
  intro n k v Q hn q h;obtain rfl:n=0:=by lia
  cases k with
  |int i=>obtain⟨t,rfl⟩:=q;exact wpAny_pure h
  |str i=>obtain⟨t,rfl⟩:=q;exact wpAny_pure h
  |tup _=>exact q.elim
 |succ f ih =>
  intro n k v Q hn q h;cases k with
  |int i=>obtain⟨t,rfl⟩:=D6.mp q;exact wpAny_pure h
  |str i=>obtain⟨t,rfl⟩:=DC.mp q;exact wpAny_pure h
  |tup ks =>
   cases n with
   |zero=>exact q.elim
   |succ n =>
    obtain⟨a,its,rfl,tp,z,r⟩:=q;have hT:s.TypeIs (.ref a) "tuple":=by obtain⟨o,ho,hc,_⟩:=tp;exact⟨o,ho,hc⟩
    unfold eqIsQuiet;refine wpAny_bind (wpAny_specialOf hT F.slot_tuple_eq.lookup ?_);show wpAny _ _ (isInstance (.ref a) (.type "tuple") >>= _) _ _ s;refine wpAny_bind (wpAny_isInstance hT isSubtype_tuple_tuple ?_);simp only[Bool.not_true,Bool.false_eq_true,if_false];refine wpAny_bind (Dg tp ?_);refine wpAny_bind ?_;show wpAny _ _ (forIn its _ _) _ _ s;rw[<-Array.forIn_toList];refine wpAny_forIn_list _ (fun bZ b s'=>s'=s/\b=(none,())/\∀x∈bZ,x∈its.toList) _ ?_ ?_ _ _ ⟨rfl,rfl,fun _ z=>z⟩
    ·rintro x bZ b s' ⟨rfl,rfl,hr⟩;obtain⟨k,hk⟩:=KAt.item z r (hr x (.head _));refine wpAny_bind (ih n (by lia) hk ?_);simp only[Bool.not_true,Bool.false_eq_true,if_false];exact wpAny_pure ⟨rfl,rfl,fun y hy=>hr y (.tail _ hy)⟩
    ·rintro b s' ⟨rfl,rfl,_⟩;exact wpAny_pure h
end
def Fj(h0 h:Heap):Prop:=∀b o,h0.get? b=some o->h.get? b=some o
theorem KAt.kept{h0 h:Heap}{n:Nat}{d:KD}{v:Value}(q:KAt h0 n d v) (k:Fj h0 h):KAt h n d v:=q.up fun b o _ e=>k b o e
end L2
namespace L2
open PySem PySem.Spec PyProof.Rows
open Classical in
def gf{τ:Type}(xs:List τ) (x:τ):List τ:=if x∈xs then xs else xs++[x]
section
variable{τ:Type}
theorem wn{xs:List τ}(h:xs.Nodup) (x:τ):(gf xs x).Nodup:=by
 unfold gf;split
 ·exact h
 ·rename_i c;rw[List.nodup_append];exact⟨h,by simp,fun a ha b hb=>by rw[List.mem_singleton]at hb;rintro rfl;exact c (hb▸ha)⟩
end
end L2
namespace L2
open PySem PySem.Spec PyProof.Rows PySem.SeqAt
end L2
namespace L2
open PySem PySem.W PySem.Calls PyProof.Rows PySem.SeqAt
end L2
namespace L2
open PySem PySem.Spec PyProof.Rows PySem.Calls PySem.SeqAt
mutual
def kd:KD->D
 |.int i=>.int i
 |.str x=>.str x
 |.tup ks=>.tup (kds ks)
def kds:List KD->List D
 |[]=>[]
 |k::ks=>kd k::kds ks
end
theorem pd:∀ks,kds ks=ks.map kd
 |[]=>by simp[kds]
 |k::ks=>by simp[kds,pd ks]
def fP(ks:List KD):D:=.tup (kds ks)
def dpK:Nat->KD->Prop
 |_,.int _=>True
 |_,.str _=>True
 |0,.tup _=>False
 |n+1,.tup ks=>∀k∈ks,dpK n k
section
variable{X:Cx}{ag:List (Addr×Obj)}{s:Shared}{σ:St}{H:Hp}{M:DH}{K:PySem.W.Frag}
theorem oB(I:Inv X ag σ H s):∀(n:Nat) {k:KD}{v:V}{u:Value},dpK n k->Rep X.K M H (kd k) v->aL v u->KAt s.heap n k u:=by
 intro n
 induction n with
 |zero =>
  intro k v u hd r q;cases k with
  |int i=>simp only[kd,Rep]at r;subst r;exact q
  |str i=>simp only[kd,Rep]at r;subst r;exact q
  |tup _=>exact hd.elim
 |succ n ih =>
  intro k v u hd r q;cases k with
  |int i=>simp only[kd,Rep]at r;subst r;exact q
  |str i=>simp only[kd,Rep]at r;subst r;exact q
  |tup ks =>
   simp only[kd,Rep]at r;obtain⟨a,vs,rfl,t,rl⟩:=r;cases q;obtain⟨its,rv,tp,hz⟩:=I.tuple t.sq;refine⟨a,its.toArray,rfl,tp,?_,fun i d u h1 h2=>?_⟩
   ·rw[List.size_toArray,<-rv.length,<-rl.length,pd,List.length_map]
   ·obtain⟨v,g,r⟩:=rl.get (i:=i) (d:=kd d) (by rw[pd,List.getElem?_map,h1];rfl);obtain⟨u',g',r'⟩:=rv.get g;rw[List.getElem?_toArray,g']at h2;cases h2;exact ih (hd d (List.mem_of_getElem? h1)) r r'
theorem pM(I:Inv X ag σ H s) {n:Nat}{ks:List (List KD)}{vs:List V}{its:List Value}(hd:∀k∈ks,dpK n (.tup k)) (rl:ar X.K M H (ks.map fP) vs) (rv:aB vs its) {i:Nat}{k:List KD}{u:Value}(h1:ks[i]?=some k) (h2:its[i]?=some u):KAt s.heap n (.tup k) u:=by
 obtain⟨v,g,r⟩:=rl.get (i:=i) (d:=fP k) (by rw[List.getElem?_map,h1];rfl);obtain⟨u',g',r'⟩:=rv.get g;rw[g']at h2;cases h2;exact oB I n (k:=.tup k) (hd k (List.mem_of_getElem? h1)) (by simp only[kd];exact r) r'
theorem evD{a:Expr}{ta:TEd}{Δ:DE}{R:D->DH->Prop}{Q:Value->Shared->Prop}(ha:PEd X a ta) (I:Inv X ag σ H s) (sr:SR X.K M H σ Δ) (hr:HR X.K M H) (q:ta Δ M R)
  (k:∀u s1 v H1 x M1,Inv X ag σ H1 s1->aL v u->R x M1->HR X.K M1 H1->Rep X.K M1 H1 x v->Ext M H M1 H1->Q u s1):wpAny (model X.prog X.w) X.A (eval a X.env) Q X.xe s :=
 thn (ha ag s σ H (fun v H1=>∃x M1,R x M1/\HR X.K M1 H1/\Rep X.K M1 H1 x v/\Ext M H M1 H1) I ⟨Δ,M,R,sr,hr,q,fun x M1 v H1 q1 e1 hr1 rv=>⟨x,M1,q1,hr1,rv,e1⟩⟩) fun u s1 ⟨v,H1,I1,r1,x,M1,q1,hr1,rv,e1⟩=>k u s1 v H1 x M1 I1 r1 q1 hr1 rv e1
end
end L2
namespace L2
open PySem PySem.Spec PyProof.Rows PySem.Calls PySem.SeqAt PySem.W
def iG(h:Heap) (d:Addr) (es:Array DictEntry) (ep:Nat):Prop:=∃o,h.get? d=some o/\o.ExactDict/\o.data=.dict es ep
theorem iG.typeIs{s:Shared}{d:Addr}{es:Array DictEntry}{ep:Nat}(x:iG s.heap d es ep):s.TypeIs (.ref d) "dict":=let⟨o,ho,hc,_⟩:=x;⟨o,ho,hc.1⟩
theorem iG.lt{h:Heap}{d:Addr}{es:Array DictEntry}{ep:Nat}(x:iG h d es ep):d<h.objs.size:=let⟨_,ho,_⟩:=x;Heap.lt_size ho
theorem iG.at'{h h':Heap}{d:Addr}{es:Array DictEntry}{ep:Nat}(x:iG h d es ep) (e:∀o,h.get? d=some o->h'.get? d=some o):iG h' d es ep:=let⟨o,ho,r⟩:=x;⟨o,e _ ho,r⟩
section
variable{prog:Program}{w:World}{A:Around}{E:Value->Shared->Prop}{s:Shared}{it d:Addr}{es:Array DictEntry}{ep i:Nat}
theorem AF{Q:Value->Shared->Prop}(hd:(d==sysModules)=false) (hm:iG s.heap d es ep)
  (hQ:Q (.ref s.heap.objs.size) { s with heap:=s.heap.push { cls:=.type "dict_keyiterator",data:=.fields #[.ref d,.int 0 0,.int es.size 0,.int ep 0] } }) :
  wpAny (model prog w) A (pyIter (.ref d)) Q E s:=by
 have hT:s.TypeIs (.ref d) "dict":=hm.typeIs;obtain⟨o,ho,hc,hdat⟩:=hm;refine wpAny_pyIter_slot hT F.slot_dict_iter (wpAny_call_entry F.slot_dict_iter hT F.entry_dict_iter ?_ (F.args_dict_iter_1 _));unfold Builtin.«dict.__iter__»;refine wpAny_bind ?_;unfold Builtin.Dict.dictSlotNone;refine wpAny_bind (wpAny_notOrdered_dict hT ?_);show wpAny _ _ (pure (Value.ref d)) _ _ s;refine wpAny_pure ?_;show wpAny _ _ (Builtin.Dict.showsAll d >>= _) _ _ s;unfold Builtin.Dict.showsAll;rw[if_neg (by rw[hd];exact Bool.false_ne_true)];refine wpAny_bind (wpAny_pure (wpAny_bind (wpAny_dictEntries ho hdat (wpAny_bind (wpAny_dictEpoch ho hdat ?_)))));refine wpAny_bind (wpAny_newObj_type (wpAny_pure ⟨_,rfl,"dict_keyiterator",_,⟨_,Heap.get?_push_size _ rfl,rfl⟩,F.slot_dict_keyiterator_next.lookup,?_⟩));simpa[rawInt]using hQ
theorem A3{Q:Option Value->Shared->Prop}(hit:s.heap.IsKeyIter it d i es.size ep) (hm:iG s.heap d es ep) (hlt:i<es.size)
  (hQ:∀h',h'.IsKeyIter it d (i+1) es.size ep->Heap.SameBut it s.heap h'->Q (some es[i].key) { s with heap:=h' }) :
  wpAny (model prog w) A (pyNext (.ref it)) Q E s:=by
 obtain⟨o,ho,hc,hd⟩:=id hit;obtain⟨od,hod,hcd,hdd⟩:=id hm;unfold pyNext;refine wpAny_bind (wpAny_attempt (wpAny_callSpecial?_slot (name:=Str.ofString "__next__") hit.typeIs F.slot_dict_keyiterator_next
  (wpAny_call_entry F.slot_dict_keyiterator_next hit.typeIs F.entry_dict_keyiterator_next ?_ (F.args_dict_keyiterator_next_1 _))))
 refine wpAny_bind (wpAny_pure (wpAny_bind (wpAny_bind (wpAny_bind (wpAny_typeNameOfWhole_keyiter hit.typeIs (wpAny_pure (wpAny_bind (wpAny_fieldsOf ho hd ?_))))))));have hown:Builtin.Dict_items.ownsTuple "dict_keyiterator"=false:=by decide
 simp only[hown,Bool.false_eq_true,if_false];show wpAny _ _ (if(Value.ref d==Value.none)=true then _ else _) _ _ s;rw[if_neg (show ¬ ((Value.ref d==Value.none)=true)from Bool.false_ne_true)];refine wpAny_bind (wpAny_pure (wpAny_bind (wpAny_dictEntries hod hdd ?_)));rw[if_neg (by simp)];refine wpAny_bind (wpAny_pure (wpAny_bind (wpAny_dictEpoch hod hdd ?_)));rw[if_neg (by simp)];refine wpAny_pure ?_;simp only[show ¬ ((i:Int)<0)from by omega,if_false,Int.toNat_natCast,Array.getElem?_eq_getElem hlt];refine wpAny_bind (wpAny_bind (wpAny_typeNameOfWhole_keyiter hit.typeIs (wpAny_pure (wpAny_bind (wpAny_isOneOf_keyiter hit.typeIs ?_)))));show wpAny _ _ (setField (.ref it) 1 (rawInt ((i:Int)+1)) >>= _) _ _ s;refine wpAny_bind (wpAny_setField ho hd (by simp) ?_);have hit':(s.heap.update it (Obj.mapFields (·.setIfInBounds 1 (rawInt ((i:Int)+1))))).IsKeyIter it d (i+1) es.size ep :=
  ⟨_,Heap.get?_update_self _ ho (Obj.isFreed_of_fields (Obj.data_mapFields hd _)),(Obj.cls_mapFields ..).trans hc,by rw[Obj.data_mapFields hd];simp[rawInt]⟩
 refine wpAny_bind (wpAny_holding ?_);refine wpAny_bind (wpAny_isOneOf_keyiter (s:={ s with heap:=s.heap.update it (Obj.mapFields (·.setIfInBounds 1 (rawInt ((i:Int)+1)))) }) hit'.typeIs ?_);show wpAny _ _ (pure es[i].key) _ _ _;exact wpAny_pure (wpAny_pure ⟨_,rfl,wpAny_pure (hQ _ hit' (Heap.SameBut.update ..))⟩)
theorem Du{Q:Option Value->Shared->Prop}(hh:A.handled=none) (hit:s.heap.IsKeyIter it d i es.size ep) (hm:iG s.heap d es ep) (hge:es.size<=i)
  (hQ:∀h',Heap.ExtBut it s.heap h'->Q none { s with heap:=h' }):wpAny (model prog w) A (pyNext (.ref it)) Q E s:=by
 obtain⟨o,ho,hc,hd⟩:=id hit;obtain⟨od,hod,hcd,hdd⟩:=id hm;unfold pyNext;refine wpAny_bind (wpAny_attempt (wpAny_callSpecial?_slot (name:=Str.ofString "__next__") hit.typeIs F.slot_dict_keyiterator_next
  (wpAny_call_entry F.slot_dict_keyiterator_next hit.typeIs F.entry_dict_keyiterator_next ?_ (F.args_dict_keyiterator_next_1 _))))
 refine wpAny_bind (wpAny_pure (wpAny_bind (wpAny_bind (wpAny_bind (wpAny_typeNameOfWhole_keyiter hit.typeIs (wpAny_pure (wpAny_bind (wpAny_fieldsOf ho hd ?_))))))));have hown:Builtin.Dict_items.ownsTuple "dict_keyiterator"=false:=by decide
 simp only[hown,Bool.false_eq_true,if_false];show wpAny _ _ (if(Value.ref d==Value.none)=true then _ else _) _ _ s;rw[if_neg (show ¬ ((Value.ref d==Value.none)=true)from Bool.false_ne_true)];refine wpAny_bind (wpAny_pure (wpAny_bind (wpAny_dictEntries hod hdd ?_)));rw[if_neg (by simp)];refine wpAny_bind (wpAny_pure (wpAny_bind (wpAny_dictEpoch hod hdd ?_)));rw[if_neg (by simp)];refine wpAny_pure ?_;simp only[show ¬ ((i:Int)<0)from by omega,if_false,Int.toNat_natCast,Array.getElem?_eq_none hge];refine wpAny_bind (wpAny_bind (wpAny_typeNameOfWhole_keyiter hit.typeIs (wpAny_pure ?_)));show wpAny _ _ (setField (.ref it) 0 .none >>= _) _ _ s;refine wpAny_bind (wpAny_setField ho hd (by simp) ?_);show wpAny _ _ (newExc (.type "StopIteration") [] >>= _) _ _ _;refine wpAny_bind ?_;simp only[newExc,newTuple];refine wpAny_bind (wpAny_newObj_type ?_ (by size_fits));refine wpAny_bind (m:=firstArgMember _ _) (wpAny_of_eq (a:=Value.none) (by first|rfl|(simp only[firstArgMember];rfl)) ?_);refine wpAny_newObj_type ?_ (by size_fits);simp only[raiseNew];refine wpAny_bind (wpAny_handled ?_);rw[show A.in1.handled=none from hh];refine wpAny_bind (wpAny_pure (wpAny_throw ?_));refine wpAny_bind (wpAny_isInstance (T:="StopIteration") (b:=true) ⟨_,Heap.get?_push_size _ rfl,rfl⟩ isSubtype_stop ?_);exact wpAny_pure (hQ _ (((Heap.SameBut.update ..).extBut.push _).push _))
theorem Dl(hh:A.handled=none) (I d:Addr) (hne:d≠I) (es:Array DictEntry) (ep:Nat) :
  Walks prog w A I [I,d] [I] es.size (fun i v=>∃e,es[i]?=some e/\v=e.key) (fun i h=>h.IsKeyIter I d i es.size ep/\iG h d es ep) where
 sub:=fun b hb=>by simp at hb;simp[hb]
 frame:=fun _ _ _ st hk=>⟨st.1.at fun o e=>hk I (by simp) o e,st.2.at' fun o e=>hk d (by simp) o e⟩
 item:=fun i s Q E hi st hQ=>by
  refine A3 st.1 st.2 hi fun h' hit' hs'=>?_;exact hQ _ h' s.toks ⟨es[i],by simp[hi],rfl⟩ ⟨hit',st.2.at' fun o e=>hs'.extBut d o hne e⟩ fun b o hb e=>hs'.extBut b o (fun h=>hb (by simp[h])) e
 done:=fun s Q E st hQ=>Du hh st.1 st.2 (Nat.le_refl _) fun h' he'=>hQ h' s.toks fun b o hb e=>he' b o (fun h=>hb (by simp[h])) e
 self:=fun _ _ _ _ st hQ=>wpAny_pyIter_keyiter st.1 hQ
theorem FM(lo:(d==sysModules)=false):KdlSrc prog w "dict" d d es.size (fun i v=>∃e,es[i]?=some e/\v=e.key) (fun h=>iG h d es ep) where
 type:=fun _ hm=>hm.typeIs
 there:=fun _ hm=>⟨hm.lt,hm.lt⟩
 keep:=fun _ _ hm hk=>hm.at' fun o e=>hk d (.inl rfl) o e
 notList:=by decide
 notTuple:=by decide
 hint:=fun _ _ _ _ hm hq=>kdl_hint_dict hm.typeIs hq
 iter:=fun _ _ hh hm=>⟨_,_,(fun _ _ hq=>AF lo hm hq),Dl hh _ d (Nat.ne_of_lt hm.lt) es ep,⟨⟨_,Heap.get?_push_size _ rfl,rfl,rfl⟩,hm.at' fun _ e=>Heap.get?_push_of_some _ e⟩⟩
theorem yc{Q:List Value->Shared->Prop}(hh:A.handled=none) (lo:(d==sysModules)=false) (hm:iG s.heap d es ep) (hn:es.size<=sizeLine)
  (h:∀h' tk,(∀b o,s.heap.get? b=some o->h'.get? b=some o)->Q (es.toList.map (·.key)) { s with heap:=h',toks:=tk }):wpAny (model prog w) A (collect (.ref d)) Q E s:=by
 unfold collect;refine wpAny_bind (wpAny_runValue (codeAny_builtin PySem.F.entry_proto_collect ?_));rw[Around.under_plainId PySem.F.plain_proto_collect _];show wpAny _ A.in1 (newList [] >>= fun l=>again (.builtin "list.__iadd__" ⟨[l,.ref d],[]⟩)) _ _ s;refine wpAny_bind (wpAny_newObj_type ?_);refine wpAny_pure ⟨plainId_quiet PySem.F.plain_list_iadd _,codeAny_builtin PySem.F.entry_list_iadd ?_⟩;rw[Around.under_plainId PySem.F.plain_list_iadd _];have ne:s.heap.objs.size≠d:=Nat.ne_of_gt hm.lt;show wpAny _ A.in1 (Builtin.List.listExtendWith (.ref s.heap.objs.size) (.ref d) (.ref s.heap.objs.size)) _ _ _;have hS:(s.heap.push { cls:=.type "list",data:=.seq #[] }).get? s.heap.objs.size=some { cls:=.type "list",data:=.seq #[] }:=Heap.get?_push_size _ rfl;have K:=kdl_extend (prog:=prog) (w:=w) (A:=A) (R:=fun r s'=>∃h' tk acc' c',r=.ok (.ret (.ref s.heap.objs.size))/\s'={ s with heap:=h',toks:=tk }/\(∀b o,s.heap.get? b=some o->h'.get? b=some o)/\h'.get? s.heap.objs.size=some (Fu acc' c')/\acc'.toList=es.toList.map (·.key)) (s:={ s with heap:=s.heap.push { cls:=.type "list",data:=.seq #[] } }) (FM (ep:=ep) lo) hh (hm.at' fun _ e=>Heap.get?_push_of_some _ e) s.heap.objs.size ne ne (.ref s.heap.objs.size) 0 hS (fun h' tk acc' c' hk hS' hacc=>⟨h',tk,acc',c',rfl,rfl,fun b o q=>hk b o (Nat.ne_of_lt (Heap.lt_size q)) (Heap.get?_push_of_some _ q),hS',by
  apply List.ext_getElem?;intro i;rcases Nat.lt_or_ge i es.size with hi|hi
  ·have g:acc'[i]?=some (acc'[i]'(by rw[hacc.1];exact hi)):=Array.getElem?_eq_getElem _;obtain⟨e,e1,e2⟩:=hacc.2 i _ g;rw[Array.getElem?_toList,g,e2,List.getElem?_map,Array.getElem?_toList,e1];rfl
  ·rw[List.getElem?_eq_none (by simp[hacc.1];exact hi),List.getElem?_eq_none (by simp;omega)]⟩) hn
 refine wpAny_mono K (fun fin s' hf=>?_) fun e s' ⟨h',tk,acc',c',q,_⟩=>nomatch q
 cases fin with
 |done f =>
  obtain⟨h',tk,acc',c',q,rfl,kp,hS',ea⟩:=hf;cases q;show wpAny _ A _ Q E _;refine wpAny_bind (wpAny_load hS' (wpAny_pure ?_));rw[ea];exact h h' tk kp
 |again c =>
  refine⟨hf.1,codeAny_mono hf.2 fun r s' ⟨h',tk,acc',c',q,e2,kp,hS',ea⟩=>?_⟩;subst q e2;show wpAny _ A _ Q E _;refine wpAny_bind (wpAny_load hS' (wpAny_pure ?_));rw[ea];exact h h' tk kp
end
open Classical in
instance decKs:DecidableEq (List KD):=fun _ _=>propDecidable _
def fR(prog:Program) (w:World) (n:Nat) (hn:n<=8):HeapKind prog w (List KD) where
 is h ks a:=KAt h n (.tup ks) (.ref a)
 hash ks:=hK w n (.tup ks)
 draws ks:=drK n (.tup ks)
 room A:=A.units+n<cLine
 inj hx hy:=by have:=KAt.same n hx hy;cases this;rfl
 keeps {h h' k a d o es ep} q ho hd hs:=q.upT fun b xs ⟨o',g,hc,m,e⟩=>⟨o',by
  have ne:b≠d:=fun z=>by subst z;rw[ho]at g;cases g;rw[hd]at e;cases e
  rw[hs.2 b ne];exact g,hc,m,e⟩
 pyHash hr hx h:=KAt.hash n hr hx h
 eqBool {A E s x y a b Q} hr hx hy h:=by
  obtain⟨c,h1,h2⟩:=KAt.eq n hr hx hy;refine h2 prog w _ _ ?_;have:c=decide (x=y):=by
   rw[Bool.eq_iff_iff,h1];simp
  rw[this];exact h
 quiet hx h:=KAt.quiet 8 n hn hx h
end L2
namespace L2
open PySem PySem.Spec PyProof.Rows PySem.Calls PySem.SeqAt
def enR(w:World) (p:List KD×Value):DictEntry:=⟨hK w 8 (.tup p.1),p.2,.bool true⟩
def DrE(w:World) (a:Addr) (ks:List (List KD)) (vs:List V) (h:Heap):Prop :=
 (a==sysModules)=false/\ks.Nodup/\(∀k∈ks,dpK 8 (.tup k))/\∃its,aB vs its/\∃es ep,iG h a es ep/\es.toList=(ks.zip its).map (enR w)
def dRw(w:World) (a:Addr) (ks:List (List KD)):HD:=.ext (DrE w a ks) (ks.map fP)
theorem DrE.ok{P:Program}{w w':World}{H:Hp}{a:Addr}{ks:List (List KD)}{vs:List V}{h:Heap}(x:DrE w a ks vs h):br P w' H h a (.ext (DrE w a ks vs)):=by
 refine⟨x,?_,fun h1 h2 ⟨a1,a2,a3,its,a4,es,ep,a5,a6⟩ k=>⟨a1,a2,a3,its,a4,es,ep,a5.at' k,a6⟩⟩;obtain⟨_,_,_,its,_,es,ep,⟨o,ho,_⟩,_⟩:=x;exact⟨o,ho⟩
def vW:Value->Addr
 |.ref a=>a
 |_=>0
section
variable{X:Cx}{ag:List (Addr×Obj)}{s:Shared}{σ:St}{H:Hp}{M:DH}{a b:Addr}{ks:List (List KD)}{k:List KD}
theorem k4{α β:Type}:∀{l:List α}{m:List β},l.length=m.length->(l.zip m).map (·.1)=l
 |[],_,_=>by simp
 |_::_,[],h=>by cases h
 |x::l,y::m,h=>by simp[k4 (l:=l) (m:=m) (Nat.succ.inj h)]
theorem pf{α β:Type}:∀{l:List α}{m:List β},l.length=m.length->(l.zip m).map (·.2)=m
 |[],[],_=>rfl
 |[],_::_,h=>by cases h
 |_::_,[],h=>by cases h
 |x::l,y::m,h=>by simp[pf (l:=l) (m:=m) (Nat.succ.inj h)]
def xsR(p:List KD×Value):List KD×Addr×Value:=(p.1,vW p.2,.bool true)
theorem zc{A:Around}{E:Value->Shared->Prop}{y:V}{u:Value}{Q:Unit->Shared->Prop}(hu:A.units+16<cLine) (I:Inv X ag σ H s) (hr:HR X.K M H) (em:M a=some (dRw X.w a ks)) (rk:Rep X.K M H (fP k) y) (ry:aL y u) (hd:dpK 8 (.tup k)) (hl:ks.length<1000000)
  (h:∀vs' s',ar X.K M H ((gf ks k).map fP) vs'->Inv X ag σ (upd H a (.ext (DrE X.w a (gf ks k) vs'))) s'->Q () s'):wpAny (model X.prog X.w) A (setItem (.ref a) u (.bool true)) Q E s:=by
 obtain⟨vs,hH,rl⟩:=hr a _ em;obtain⟨⟨lo,nd,dp,its,rv,es,ep,⟨o,ho,hc,hdat⟩,he⟩,_,_⟩:=I.hok a _ hH;have hkey:=oB I 8 (k:=.tup k) hd (by simp only[kd];exact rk) ry;have hkey0:=hkey;obtain⟨b,_,rfl,_⟩:=hkey0;have hln:ks.length=its.length:=by rw[<-rv.length,<-rl.length,List.length_map]
 have at_:∀p∈ks.zip its,KAt s.heap 8 (.tup p.1) p.2/\p.2=.ref (vW p.2):=fun p hp=>by
  obtain⟨i,hi⟩:=List.mem_iff_getElem?.mp hp;rw[List.getElem?_zip_eq_some]at hi;have q:=pM I dp rl rv hi.1 hi.2;refine⟨q,?_⟩;obtain⟨c,_,e,_⟩:=q;rw[e];rfl
 have e1:es.toList=((ks.zip its).map xsR).map (entryOfKey (fR X.prog X.w 8 (Nat.le_refl _))):=by
  rw[he,List.map_map];refine List.map_congr_left fun p hp=>?_;show(⟨hK X.w 8 (.tup p.1),p.2,.bool true⟩:DictEntry)=⟨hK X.w 8 (.tup p.1),.ref (vW p.2),.bool true⟩;rw[<-(at_ p hp).2]
 have e2:((ks.zip its).map xsR).map (·.1)=ks:=by rw[List.map_map];exact k4 hln
 have hm:s.heap.DictOfH (fR X.prog X.w 8 (Nat.le_refl _)) a ((ks.zip its).map xsR):=⟨o,es,ep,ho,hc,hdat,e1,fun x hx=>by
  obtain⟨p,hp,rfl⟩:=List.mem_map.mp hx;obtain⟨q,e⟩:=at_ p hp;rw[e]at q;exact q,by rw[e2];exact nd⟩
 refine wpAny_setItem_heap (k:=k) (v:=.bool true) (show A.units+1+8<cLine by lia) hkey hm (fun h' hm' hs=>?_) (by rw[List.length_map,List.length_zip,sizeLine_eq];lia);obtain⟨o',es',ep',ho',hc',hdat',he',_,nd'⟩:=hm';have mu:Mut (H a):=by rw[hH];exact True.intro
 by_cases c:k∈ks
 ·have e3:gf ks k=ks:=if_pos c;have st:storedH ((ks.zip its).map xsR) k b (.bool true)=(ks.zip its).map xsR:=by
   unfold storedH;have all:((ks.zip its).map xsR).map (putAt k (.bool true))=(ks.zip its).map xsR:=by
    rw[List.map_map];refine List.map_congr_left fun p hp=>?_;show putAt k (.bool true) (xsR p)=xsR p;unfold putAt;split<;>rfl
   split
   ·exact all
   ·rename_i n;exfalso;rw[<-e2]at c;obtain⟨x,hx,e⟩:=List.mem_map.mp c;obtain⟨i,hi⟩:=List.mem_iff_getElem?.mp hx;obtain⟨x1,x2⟩:=x;subst e;exact n (by rw[atKey_of_get (by rw[e2];exact nd) hi];rfl)
  rw[st]at he';rw[<-e1,he]at he';refine h vs _ (by rw[e3];exact rl) (gQ I mu hs ⟨_,ho'⟩ (DrE.ok ?_));rw[e3];exact⟨lo,nd,dp,its,rv,es',ep',⟨o',ho',hc',hdat'⟩,he'⟩
 ·have e3:gf ks k=ks++[k]:=if_neg c;have st:storedH ((ks.zip its).map xsR) k b (.bool true)=(ks.zip its).map xsR++[(k,b,.bool true)]:=by
   refine storedH_new (atKey_none_of_get fun j p hj=>c ?_) _ _;rw[<-e2];exact List.mem_map.mpr ⟨_,List.mem_of_getElem? hj,rfl⟩
  rw[st,List.map_append,<-e1,he]at he';obtain⟨v,ev,rkv⟩:∃v,v=y/\Rep X.K M H (fP k) v:=⟨y,rfl,rk⟩;subst ev;refine h (vs++[v]) _ (by rw[e3,List.map_append];exact rl.append (ar.cons rkv ar.nil)) (gQ I mu hs ⟨_,ho'⟩ (DrE.ok ?_));rw[e3];refine⟨lo,?_,fun j hj=>?_,its++[.ref b],rv.append (.cons ry .nil),es',ep',⟨o',ho',hc',hdat'⟩,?_⟩
  ·rw[<-e3];exact wn nd k
  ·rcases List.mem_append.mp hj with z|z
   ·exact dp j z
   ·rw[List.mem_singleton.mp z];exact hd
  ·rw[he',List.zip_append hln,List.map_append];rfl
def dDR(w:World):TEd:=fun _ M Q=>∀p,M p=none->Q (.ref p) (aw M p (dRw w p []))
theorem Fo{pos:Pos}:PEd X (.Dict [] [] pos) (dDR X.w):=fun ag s σ H Q I ⟨Δ,M,R,sr,hr,q,k⟩=>by
 have hp:H s.heap.objs.size=none:=I.hok.fresh (Nat.le_refl _);have hp':=hr.fresh hp;refine wpAny_Dict_empty ⟨.ref s.heap.objs.size,_,I.laid (a:=s.heap.objs.size) (o:=.ext (DrE X.w s.heap.objs.size [] [])) (t':=s.toks) (fun _ _ q=>Heap.get?_push_of_some _ q) (Nat.le_refl _) (DrE.ok ⟨?_,.nil,fun _ z=>(nomatch z),[],.nil,#[],0,⟨_,Heap.get?_push_size _ rfl,⟨rfl,rfl,rfl⟩,rfl⟩,rfl⟩),rfl,?_⟩
 ·have:=l9 (P:=X.prog) (w:=X.w) (H:=H) s.heap I.big;exact this.2.1
 ·exact k _ _ _ _ (q _ hp') (Ext.own hp) (hr.put (Ext.own hp) ⟨[],aG,ar.nil⟩) (by simp only[Rep])
variable{o i e:Expr}{to ti te:TEd}
def A0(w:World) (to ti te:TEd):TSd:=fun E Δ M=>te Δ M fun d M1=>to Δ M1 fun x M2=>ti Δ M2 fun y M3=>∃a ks k,d=.bl true/\x=.ref a/\M3 a=some (dRw w a ks)/\y=fP k/\dpK 8 (.tup k)/\ks.length<1000000/\E.nx Δ (aw M3 a (dRw w a (gf ks k)))
theorem FK{pos:Pos}:QEd X (.Dict [] [] pos) (dDR X.w):=by simp only[QEd.eq];exact Fo
theorem Bq{p pos:Pos}(hu:X.A.units+64<cLine) (ho:QEd X o to) (hi:QEd X i ti) (he:QEd X e te) (hs:swapsWith e (some (.Subscript o i p)) pos.line X.env=pure false:=by rfl):QSd X (.Assign [.Subscript o i p] e pos) (A0 X.w to ti te):=by
 simp only[QEd.eq,QSd.eq]at *
 intro ag s σ H D I ⟨Δ,M,E,sr,hr,q,k⟩;refine wpAny_Assign_Subscript (thn (he ag s σ H (fun v H1=>up X.K to σ H1 fun x H2=>up X.K ti σ H2 fun y H3=>∃a ks ky M3,v=.bl true/\x=.ref a/\HR X.K M3 H3/\M3 a=some (dRw X.w a ks)/\Rep X.K M3 H3 (fP ky) y/\dpK 8 (.tup ky)/\ks.length<1000000/\∀vs',ar X.K M3 H3 ((gf ks ky).map fP) vs'->D.nx σ (upd H3 a (.ext (DrE X.w a (gf ks ky) vs')))) I
  ⟨Δ,M,_,sr,hr,q,fun d M1 v H1 q1 e1 hr1 rv=>⟨Δ,M1,_,sr.ext e1,hr1,q1,fun x M2 u H2 q2 e2 hr2 ru=>⟨Δ,M2,_,(sr.ext e1).ext e2,hr2,q2,fun y M3 w3 H3 ⟨a,ks,ky,ed,ex,em,ey,hd,hl,q3⟩ e3 hr3 rw3=>?_⟩⟩⟩) fun r s1 hup=>hup.el fun v H1 I1 rv q1=>thn (ho ag s1 σ H1 _ I1 q1) fun u s2 hup=>hup.el fun x H2 I2 rx q2=>thn (hi ag s2 σ H2 _ I2 q2) fun iv s3 ⟨y,H3,I3,ry,a,ks,ky,M3,ev,ex,hr3,em,rk,hd,hl,q3⟩=>?_) hs
 ·subst ed ex ey;simp only[Rep]at rv ru;refine⟨a,ks,ky,M3,rv,ru,hr3,em,rw3,hd,hl,fun vs' rl=>?_⟩;have ew:Ext M3 H3 (aw M3 a (dRw X.w a (gf ks ky))) (upd H3 a (.ext (DrE X.w a (gf ks ky) vs'))):=Ext.write em;exact k.nx Δ _ σ _ q3 (((e1.trans e2).trans e3).trans ew) (hr3.put ew ⟨vs',aG,rl.ext ew⟩) ((((sr.ext e1).ext e2).ext e3).ext ew)
 ·subst ev ex;obtain rfl:u=Value.ref a:=rx;obtain rfl:r=Value.bool true:=rv;exact zc (by lia) I3 hr3 em rk ry hd hl fun vs' s4 rl I4=>⟨σ,_,I4,q3 vs' rl⟩
end
end L2
namespace L2
open PySem PySem.Spec PyProof.Rows
end L2
namespace L2
open PySem PySem.Spec PyProof.Rows PySem.Calls PySem.SeqAt
section
variable{X:Cx}{ag:List (Addr×Obj)}{s:Shared}{σ:St}{H:Hp}{M:DH}{a:Expr}{ta:TEd}
def Az(w:World) (neg:Bool) (ti to:TEd):TEd:=fun Δ M Q=>ti Δ M fun y M1=>to Δ M1 fun x M2=>∃a ks k,x=.ref a/\M2 a=some (dRw w a ks)/\y=fP k/\dpK 8 (.tup k)/\ks.length<1000000/\Q (.bl (xor neg (decide (k∈ks)))) M2
theorem ug{ks:List (List KD)}{us:List Value}{k:List KD}(hl:ks.length=us.length) (hn:ks.Nodup):(atKey ((ks.zip us).map xsR) k).isSome=decide (k∈ks):=by
 have e2:((ks.zip us).map xsR).map (·.1)=ks:=by rw[List.map_map];exact k4 hl
 by_cases c:k∈ks
 ·rw[decide_eq_true c];have c':=c;rw[<-e2]at c';obtain⟨x,hx,e⟩:=List.mem_map.mp c';obtain⟨i,hi⟩:=List.mem_iff_getElem?.mp hx;obtain⟨x1,x2⟩:=x;subst e;rw[atKey_of_get (by rw[e2];exact hn) hi];rfl
 ·rw[decide_eq_false c,atKey_none_of_get fun j p hj=>c ?_]
  ·rfl
  ·rw[<-e2];exact List.mem_map.mpr ⟨_,List.mem_of_getElem? hj,rfl⟩
theorem wD{i o:Expr}{ti to:TEd}{op:CmpOp}{neg:Bool}(hop:op=(if neg then .NotIn else .In)) (hu:X.A.units+64<cLine) (hi:PEd X i ti) (ho:PEd X o to):PC X op i o (up X.K (Az X.w neg ti to)):=by
 intro ag s σ H Q I ⟨Δ,M,R,sr,hr,q,k⟩;refine evD hi I sr hr q fun iv s1 v1 H1 y M1 I1 r1 q1 hr1 rv1 e1=>evD ho I1 (sr.ext e1) hr1 q1 fun u s2 v2 H2 x M2 I2 r2 ⟨a,ks,kk,ex,em,ey,hd,hl,q2⟩ hr2 rv2 e2=>?_;subst ex ey;simp only[Rep]at rv2;subst rv2;obtain rfl:u=Value.ref a:=r2;obtain⟨vs,hH,rl⟩:=hr2 a _ em;obtain⟨⟨lo,nd,dp,its,rv,es,ep,⟨o,ho,hc,hdat⟩,he⟩,_,_⟩:=I2.hok a _ hH;have hkey:=oB I2 8 (k:=.tup kk) hd (by simp only[kd];exact rv1.ext e2) r1;have hkey0:=hkey;obtain⟨b,_,rfl,_⟩:=hkey0;have hln:ks.length=its.length:=by rw[<-rv.length,<-rl.length,List.length_map]
 have at_:∀p∈ks.zip its,KAt s2.heap 8 (.tup p.1) p.2/\p.2=.ref (vW p.2):=fun p hp=>by
  obtain⟨i,hi⟩:=List.mem_iff_getElem?.mp hp;rw[List.getElem?_zip_eq_some]at hi;have q:=pM I2 dp rl rv hi.1 hi.2;refine⟨q,?_⟩;obtain⟨c,_,e,_⟩:=q;rw[e];rfl
 have hm:s2.heap.DictOfH (fR X.prog X.w 8 (Nat.le_refl _)) a ((ks.zip its).map xsR):=⟨o,es,ep,ho,hc,hdat,by
  rw[he,List.map_map];refine List.map_congr_left fun p hp=>?_;show(⟨hK X.w 8 (.tup p.1),p.2,.bool true⟩:DictEntry)=⟨hK X.w 8 (.tup p.1),.ref (vW p.2),.bool true⟩;rw[<-(at_ p hp).2],fun x hx=>by
  obtain⟨p,hp,rfl⟩:=List.mem_map.mp hx;obtain⟨q,e⟩:=at_ p hp;rw[e]at q;exact q,by rw[List.map_map,show(Prod.fst∘xsR)=(·.1)from rfl,k4 hln];exact nd⟩
 subst hop;have fin:∀t',EP X ag σ Q (.bool (xor neg (decide (kk∈ks)))) { s2 with toks:=t' }:=fun t'=>⟨.bl _,H2,I2.tok _,rfl,k _ _ _ _ q2 (e1.trans e2) hr2 (by simp only[Rep])⟩;cases neg with
 |false =>
  refine wpAny_in_heap (knd:=fR X.prog X.w 8 (Nat.le_refl _)) (show X.A.units+1+8<cLine by lia) hkey lo hm ?_;rw[ug hln nd];have:=fin (s2.toks+(fR X.prog X.w 8 (Nat.le_refl _)).draws kk);rw[Bool.false_xor]at this;exact this
 |true =>
  refine wpAny_notIn_heap (knd:=fR X.prog X.w 8 (Nat.le_refl _)) (show X.A.units+1+8<cLine by lia) hkey lo hm ?_;rw[ug hln nd];have:=fin (s2.toks+(fR X.prog X.w 8 (Nat.le_refl _)).draws kk);rw[Bool.true_xor]at this;exact this
variable{i o:Expr}{ti to:TEd}{pos:Pos}
theorem AG{w:World}(neg:Bool) {op:CmpOp}(hop:op=(if neg then .NotIn else .In)) (hu:X.A.units+64<cLine) (hi:QEd X i ti) (ho:QEd X o to) (hm:behindInMarks op o=false) (hw:X.w=w:=by rfl):QEd X (.Compare i [op] [o] pos) (Az w neg ti to):=by
 subst hw;simp only[QEd.eq]at *
 exact Bj (wD hop hu hi ho) hm
theorem sm{w:World}(neg:Bool) {op:CmpOp}(hop:op=(if neg then .NotIn else .In)) (hu:X.A.units+64<cLine) (hi:QEd X i ti) (ho:QEd X o to) (hm:behindInMarks op o=false) (hw:X.w=w:=by rfl):QTd X (.Compare i [op] [o] pos) (lO (Az w neg ti to)):=by
 subst hw;simp only[QEd.eq,QTd.eq]at *
 exact PT.conv (Bi (wD hop hu hi ho) hm) (FA fun _ _ _ h=>h)
end
end L2
namespace L2
open PySem PySem.Spec PyProof.Rows
section
open PySem.Calls PySem.SeqAt
variable{X:Cx}{ag:List (Addr×Obj)}{s:Shared}{σ:St}{H:Hp}{M:DH}{K:PySem.W.Frag}
end
end L2
namespace L2
open PySem PySem.Spec PyProof.Rows PySem.Calls PySem.SeqAt
end L2
namespace L2
open PySem PySem.Spec PyProof.Rows PySem.Builtin PySem.Builtin.Str StrLaws
end L2
namespace L2
open PySem PySem.Spec PyProof.Rows
open AutoSeq1 (wpAny_loadPart')
theorem br.is{P:Program}{w:World}{H:Hp}{h:Heap}{a:Addr}{o:HO}(x:br P w H h a o):∃u,h.get? a=some u:=by
 cases o with
 |lst xs=>obtain⟨_,_,_,_,e⟩:=x;exact⟨_,e⟩
 |tup xs=>obtain⟨_,_,_,ob,e,_⟩:=x;exact⟨_,e⟩
 |dK kvs=>obtain⟨_,_,_,_,o,_,_,e,_⟩:=x;exact⟨_,e⟩
 |dT kvs=>obtain⟨_,_,_,_,o,_,_,e,_⟩:=x;exact⟨_,e⟩
 |set S n=>obtain⟨o,_,_,_,e,_⟩:=x;exact⟨_,e⟩
 |ins C dx fs=>obtain⟨_,_,_,e,_⟩:=x;exact⟨_,e⟩
 |own y=>exact x
 |xd fs=>obtain⟨_,⟨_,_,_,e,_⟩,_⟩:=x;exact⟨_,e⟩
 |rng lo hi=>obtain⟨_,_,_,e⟩:=x;exact⟨_,e⟩
 |frz ob u=>obtain⟨e,_⟩:=x;exact⟨_,e⟩
 |tbl ps=>exact⟨_,x⟩
 |met f y=>exact⟨_,x⟩
 |ext φ=>exact x.2.1
end L2
namespace L2
open PySem PySem.Spec PySem.Calls PyProof.Rows PySem.W PySem.Builtin PySem.Builtin.ObjectAttr PySem.Builtin.Getset_descriptor
end L2
namespace L2
open PySem PySem.Spec PyProof.Rows
section
variable{X:Cx}{ag:List (Addr×Obj)}{σ:St}{H:Hp}{s:Shared}
theorem Inv.track{a:Addr}{φ:Heap->Prop}(I:Inv X ag σ H s) (hn:H a=none) (ho:br X.prog X.w (upd H a (.ext φ)) s.heap a (.ext φ)) (h0:X.s₀.heap.get? a=none) (hL:a≠X.env.locals) (hc:∀x c,X.env.cells.lookup x=some c->c≠a)
  (hp:∀p∈X.pn++ag,p.1≠a):Inv X ag σ (upd H a (.ext φ)) s:=by
 have ne:∀{b o},H b=some o->upd H a (.ext φ) b=some o:=fun {b o} q=>by
  by_cases z:b=a
  ·rw[z,hn]at q;cases q
  ·rw[aA z];exact q
 refine⟨I.ok,I.os,I.bare,⟨I.base.keep,I.base.slot,fun b o e n x=>?_,I.base.there,fun b xs q=>ne (I.base.tups b xs q),fun b o u q=>ne (I.base.frzs b o u q),fun b ps q=>?_⟩,I.loc,I.cell,?_,fun x c e=>?_,fun p z=>?_,fun b o e=>?_,I.len⟩
 ·have:b≠a:=fun z=>by rw[z,h0]at e;cases e
  rw[aA this];exact I.base.free b o e n x
 ·obtain⟨more,q'⟩:=I.base.tbls b ps q;exact⟨more,ne q'⟩
 ·rw[aA (Ne.symm hL)];exact I.free
 ·rw[aA (hc x c e)];exact I.freeC x c e
 ·obtain⟨h1,h2,h3⟩:=I.pin p z;exact⟨h1,by rw[aA (hp p z)];exact h2,h3⟩
 ·by_cases hb:b=a
  ·subst hb;rw[aG]at e;cases e;exact ho
  ·rw[aA hb]at e;exact(I.hok b o e).stay (fun c v _ r=>r) (fun c r=>ne r) fun c xs r=>ne r
end
def FH(j:Nat) (E:gn):gn where
 nx:=fun Δ M=>∃M3,LeM M3 M/\E.nx (Δ.set j none) M3
 bk:=fun Δ M=>∃M3,LeM M3 M/\E.bk (Δ.set j none) M3
 ct:=fun Δ M=>∃M3,LeM M3 M/\E.ct (Δ.set j none) M3
 rt:=fun d M=>∃M3,LeM M3 M/\E.rt d M3
def FD(pos:Pos):Option Addr->Obj
 |none=>PySem.W.tabObj #[]
 |some c=>PySem.W.tabObj #[rawInt pos.line,rawInt pos.col,.ref c]
def jy(P:Addr) (pos:Pos) (c:Option Addr) (h:Heap):Prop:=h.get? P=some (FD pos c)
def CW(c:Addr) (q:Str) (h:Heap):Prop:=∃o vs t,h.get? c=some o/\o.data=.fields vs/\vs[1]?=some (.str q t)
def kA(P:Addr) (pos:Pos) (c:Option Addr):HD:=.ext (fun _=>jy P pos c) []
def Bk(c:Addr) (q:Str):HD:=.ext (fun _=>CW c q) []
def fH(P:Addr) (pos:Pos) (q:Str) (M:DH):Prop:=M P=some (kA P pos none)∨∃c,M P=some (kA P pos (some c))/\M c=some (Bk c q)
def aY(K:PySem.W.Frag) (P:Addr):PySem.W.Frag:=K.filter fun p=>p.1 != P
theorem bN{P a:Addr}(h:a≠P):∀K:PySem.W.Frag,(aY K P).lookup a=K.lookup a
 |[]=>rfl
 |(b,o)::K=>by
  have ih:=bN h K;unfold aY at ih ⊢
  by_cases hb:b=P
  ·rw[List.filter_cons_of_neg (by simp[hb]),ih,List.lookup_cons,beq_eq_false_iff_ne.mpr (fun e=>h (e.trans hb))]
  ·rw[List.filter_cons_of_pos (by simp[hb]),List.lookup_cons,List.lookup_cons,ih]
theorem lT{P:Addr}:∀K:PySem.W.Frag,(aY K P).lookup P=none
 |[]=>rfl
 |(b,o)::K=>by
  have ih:=lT (P:=P) K;unfold aY at ih ⊢
  by_cases hb:b=P
  ·rw[List.filter_cons_of_neg (by simp[hb]),ih]
  ·rw[List.filter_cons_of_pos (by simp[hb]),List.lookup_cons,beq_eq_false_iff_ne.mpr (fun e=>hb e.symm),ih]
theorem aN{K:PySem.W.Frag}{P:Addr}{h:Heap}(X:K.In h):(aY K P).In h:=fun a o e=>by
 by_cases ha:a=P
 ·subst ha;rw[lT]at e;cases e
 ·rw[bN ha]at e;exact X a o e
theorem bz.cut{K:PySem.W.Frag}{P f:Addr}{x:Str}{st:Stmt}{fd:FuncData}(i:bz K x st f fd) (hP:K.lookup P=some (PySem.W.tabObj #[])):bz (aY K P) x st f fd:=by
 obtain⟨a,⟨oc,od,kV,doc,pm,an,cdv,ct,osl,e,lk,hcd⟩,kp⟩:=i;have hf:f≠P:=fun z=>by rw[z,hP]at lk;cases lk
 have hg:mainGlobals≠P:=fun z=>by
  unfold PySem.W.nsIn at a;rw[z,hP]at a;cases a
 refine⟨?_,⟨oc,od,kV,doc,pm,an,cdv,ct,osl,e,(bN hf K).trans lk,?_⟩,?_⟩
 ·unfold PySem.W.nsIn at a ⊢;rw[bN hg];exact a
 ·cases cdv<;>try (exact hcd)
  rename_i c;have hc:c≠P:=fun z=>by
   unfold PySem.W.codeIn at hcd;rw[z]at hcd;simp only[hP]at hcd;cases hcd
  unfold PySem.W.codeIn at hcd ⊢;simp only[bN hc];exact hcd
 ·unfold PySem.W.keepIn;simp only[bN hf,lk]
def wj(P:Addr) (pos:Pos) (H:Hp):Prop:=H P=some (.ext (jy P pos none))/\∀b,b≠P->H b=none∨∃o xs,H b=some (.frz o (.lst xs))
theorem vT{P:Program}{w:World}{K:PySem.W.Frag}{mg mb:Str->Option Value}{CX:CXT}{k:Nat}{fa a T:Addr}{fd:FuncData}{x:Str}{sp:Sp}{s₁:Shared}{vs:List Value}{ns:List Int}{pos:Pos}
  (KX:K.In s₁.heap) (hns:s₁.heap.Ns mainGlobals mg) (hb:s₁.heap.Ns builtinsNs mb) (hbb:∀x:Str,x≠"__name__"->mb x=bootBuiltins x) (hlim:s₁.heap.NoLimit) (hg:s₁.gens=#[])
  (ha:s₁.heap.get? a=some { cls:=.type "list",data:=.seq vs.toArray }) (hi:IntsAre vs ns) (hl:ns.length<=sizeLine) (hr:cZ k callerA)
  (hT:K.lookup T=some (PySem.W.tabObj #[])) (hct:isCodeTable s₁.heap T) (hbm:s₁.heap.BuiltinsAt mg T)
  (F:∀base:Heap,(aY K T).In base->base.Ns mainGlobals mg->base.BuiltinsAt mg T->bj P w (aY K T) mg base CX k fa fd [x] sp) (hbind:∀(s:Shared) (u:Value),BindsTo s fd ⟨[u],[]⟩ [(x,u)])
  (hsp:∀H:Hp,wj T pos H->SqL (aY K T) H a (ns.map V.int)->sp [.ref a] H (fun v H'=>v=.bl true/\∃c,H' T=some (.ext (jy T pos c))) fun _ _ _=>False)
  (hCX:∀H e s',CX [] H s₁ (fun _ _ _=>False) e s'->False) :
  codeAny (model P w) callerA (.call (.ref fa) ⟨[.ref a],[]⟩) (fun r s'=>r=.ok (.ret (.bool true))/\OldK s₁.heap s'.heap/\s'.os=s₁.os/\AllBare s'.gens) s₁:=by
 have rv:=nL hi;have lenV:=hi.length;have hTo:s₁.heap.get? T=some (PySem.W.tabObj #[]):=KX T _ hT;have haT:a≠T:=fun z=>by rw[z,hTo]at ha;cases ha
 have core:∀H:Hp,wj T pos H->SqL (aY K T) H a (ns.map V.int)->HOk P w H s₁.heap->(∀b,H b≠none->b=a∨b=T)->(H a≠none->K.lookup a=none) ->
   codeAny (model P w) callerA (.call (.ref fa) ⟨[.ref a],[]⟩) (fun r s'=>r=.ok (.ret (.bool true))/\OldK s₁.heap s'.heap/\s'.os=s₁.os/\AllBare s'.gens) s₁:=by
  intro H hO hS hok hA hK;have base_of:∀{b:Addr} {o:Obj},s₁.heap.get? b=some o->H b=none->(nc s₁.heap H).get? b=some o:=fun e n=>yj e n;have noA:∀{b:Addr} {o:Obj} {es:Array DictEntry} {ep:Nat},s₁.heap.get? b=some o->o.data=.dict es ep->H b=none:=fun {b o es ep} e d=>by
   cases q:H b with
   |none=>rfl
   |some u =>
    rcases hA b (by rw[q];simp)with e'|e'
    ·subst e';rw[ha]at e;cases e;have d':Data.seq vs.toArray _=Data.dict es ep:=d;cases d'
    ·subst e';rw[hTo]at e;cases e;have d':Data.fields #[]=Data.dict es ep:=d;cases d'
  have nsK:∀{b:Addr} {m:Str->Option Value},s₁.heap.Ns b m->(nc s₁.heap H).Ns b m:=fun {b m} ⟨o,es,ep,e,d,r⟩=>⟨o,es,ep,base_of e (noA e d),d,r⟩;have hKb:(aY K T).In (nc s₁.heap H):=fun b o e=>by
   have hbT:b≠T:=fun z=>by rw[z,lT]at e;cases e
   refine base_of (aN KX b o e) ?_;cases q:H b with
   |none=>rfl
   |some u =>
    rcases hA b (by rw[q];simp)with e'|e'
    ·subst e';rw[bN hbT,hK (by rw[q];simp)]at e;cases e
    ·exact absurd e' hbT
  have hM:Mod (aY K T) mg (nc s₁.heap H):=⟨hKb,nsK hns,⟨mb,nsK hb,hbb⟩,let⟨mc,h1,h2⟩:=hlim;⟨mc,nsK h1,h2⟩⟩;have e0:yV P w (aY K T) mg (nc s₁.heap H) callerA [] s₁ H:=⟨rfl,hM,fun b o e=>zV e,Nat.le_of_eq (vj _ _),trivial,fun b hb=>absurd (show b∈([]:List Addr)from hb) (by simp),hok,.of_eq hg⟩;have hbB:(nc s₁.heap H).BuiltinsAt mg T:=by
   obtain⟨bm,o,b1,b2,b3,b4,b5,b6,b7,b8⟩:=hbm;refine⟨bm,o,b1,b2,b3,b4,base_of b5 ?_,b6,b7,b8⟩;cases q:H bm with
   |none=>rfl
   |some u =>
    rcases hA bm (by rw[q];simp)with e'|e'
    ·rw[e',ha]at b5;cases b5;cases b8
    ·exact absurd e' b4
  refine codeAny_mono ((F _ hKb (nsK hns) hbB).run callerA [] s₁ H ⟨[.ref a],[]⟩ [.ref a] [.ref a] _ _ hr e0 (hbind s₁ (.ref a)) (.cons rfl .nil) (hsp H hO hS)) fun r s' h=>?_;cases r with
  |error e=>exact(hCX H e s' h).elim
  |ok fl =>
   cases fl with
   |next=>exact False.elim h
   |brk=>exact False.elim h
   |cont=>exact False.elim h
   |ret u =>
    obtain⟨v,H',os,bare,un,hok',r',q⟩:=h;obtain⟨rfl,c,hc⟩:=q;obtain rfl:u=Value.bool true:=r';obtain⟨et,_⟩:=hok' T _ hc;have keep:∀b o,b≠T->s₁.heap.get? b=some o->s'.heap.get? b=some o:=fun b o hbT e=>by
     cases q:H b with
     |none=>exact un.keep b o e q (by intro z;exact absurd (show b∈([]:List Addr)from z) (by simp)) (by simp)
     |some u =>
      rcases hO.2 b hbT with z|⟨ob,xs,z⟩
      ·rw[q]at z;cases z
      ·have z2:=un.frzs b ob _ z;obtain⟨e1,_⟩:=hok b _ z;obtain⟨e2,_⟩:=hok' b _ z2;rw[e]at e1;cases e1;exact e2
    have et':∃more,s'.heap.get? T=some (PySem.W.tabObj (#[]++more)):=by
     cases c with
     |none=>exact⟨#[],et⟩
     |some c=>exact⟨#[rawInt pos.line,rawInt pos.col,.ref c],et⟩
    refine⟨rfl,⟨fun b o e=>?_,fun b o e=>?_⟩,os,bare⟩
    ·by_cases hbT:b=T
     ·subst hbT;rw[hTo]at e;cases e;obtain⟨more,em⟩:=et';exact .inr (.inl ⟨hct,rfl,#[],more,rfl,em⟩)
     ·exact .inl (keep b o hbT e)
    ·by_cases hbT:b=T
     ·subst hbT;obtain⟨more,em⟩:=et';exact⟨_,em⟩
     ·exact⟨o,keep b o hbT e⟩
 have tok:br P w (fun _=>none) s₁.heap T (.ext (jy T pos none)):=⟨hTo,⟨_,hTo⟩,fun h1 h2 e1 k=>k _ e1⟩;cases hk:K.lookup a with
 |some o =>
  have e:=KX a o hk;rw[ha]at e;cases e;refine core (fun b=>if b=T then some (.ext (jy T pos none))else none) ⟨if_pos rfl,fun b hb=>.inl (if_neg hb)⟩ (.inr ⟨_,vs.toArray,_,(bN haT K).trans hk,rfl,rfl,rfl,by rw[List.size_toArray,lenV];exact hl,by simpa using rv⟩) (fun b u z=>?_) (fun b z=>?_) fun z=>absurd (if_neg haT) z
  ·by_cases hb:b=T
   ·have z':=(if_pos hb).symm.trans z;cases z';subst hb;exact tok
   ·have z':=(if_neg hb).symm.trans z;cases z'
  ·by_cases hb:b=T
   ·exact .inr hb
   ·exact absurd (if_neg hb) z
 |none =>
  refine core (fun b=>if b=T then some (.ext (jy T pos none))else if b=a then some (.frz { cls:=.type "list",data:=.seq vs.toArray } (.lst (ns.map V.int)))else none) ⟨if_pos rfl,fun b hbT=>?_⟩ (.inl (.inr ⟨{ cls:=.type "list",data:=.seq vs.toArray },(if_neg haT).trans (if_pos rfl)⟩)) (fun b u z=>?_) (fun b z=>?_) fun _=>hk
  ·by_cases hb:b=a
   ·exact .inr ⟨_,_,(if_neg hbT).trans (if_pos hb)⟩
   ·exact .inl ((if_neg hbT).trans (if_neg hb))
  ·by_cases hbT:b=T
   ·have z':=(if_pos hbT).symm.trans z;cases z';subst hbT;exact tok
   ·by_cases hb:b=a
    ·have z':=((if_neg hbT).trans (if_pos hb)).symm.trans z;cases z';subst hb;exact⟨ha,by rw[List.length_map];exact hl,vs,_,rv,ha⟩
    ·have z':=((if_neg hbT).trans (if_neg hb)).symm.trans z;cases z'
  ·by_cases hbT:b=T
   ·exact .inr hbT
   ·by_cases hb:b=a
    ·exact .inl hb
    ·exact absurd ((if_neg hbT).trans (if_neg hb)) z
end L2
namespace L2
open PySem PySem.Spec PySem.Calls PyProof.Rows
section
variable{prog:Program}{w:World}{A:Around}{s:Shared}
theorem yd{f c' b:Addr}{name qual x:Str}{params:Arguments}{scope:Scope}{clos:List (Str×Addr)}{pm ctv:Value}{p1 p2 p3:Pos}{kj:Nat}{j:Int}{t:Tok}{its:List Value}
  (hf:s.heap.get? f=some (PySem.W.kla_obj name qual params (.Subscript (.Name x p1) (.Constant (.int 1) kj p2) p3) scope clos pm c' ctv)) (hcd:s.heap.CodeRec (.ref c') qual) (hlim:s.heap.NoLimit) (hroom:A.depth<recursionLimit)
  (hbind:∀v,bindArgs (PySem.W.kla_fn name qual params (.Subscript (.Name x p1) (.Constant (.int 1) kj p2) p3) scope clos pm (.ref c') ctv) ⟨[v],[]⟩=pure [(x,v)])
  (hx:scope.names.lookup x=some .local) (hcell:∀y∈scope.names,y.2≠.cell) (hco:scope.isCoroutine=false) (hgen:scope.isGenerator=false) (hk:scope.kind=.function) (hd:(x==("__debug__":Str))=false)
  (hb:IsTup s.heap b its.toArray) (hz:its.length<1000) (hj:its[1]?=some (.int j t)) :
  wpAny (model prog w) A (call (.ref f) [.ref b]) (fun v s'=>∃h' tk,s'={ s with heap:=h',toks:=tk }/\v=.int j t/\∀a o,s.heap.get? a=some o->h'.get? a=some o) (fun _ _=>False) s:=by
 refine wpAny_call (PySem.W.kla_callFunE hroom hf rfl hco hgen rfl hcd ?_);rw[hbind];refine wpAny_pure (wpAny_newFunctionEnv hcell (fun y hy=>by rw[List.mem_singleton.mp hy];exact hx) (fun h₁ hns hsb=>⟨hlim.fresh _ hsb,?_⟩) hk);have hk₁:∀b o,s.heap.get? b=some o->h₁.get? b=some o:=fun b o e=>hsb.extBut b o (Nat.ne_of_lt (Heap.lt_size e)) (Heap.get?_push_of_some _ e);refine PySem.W.kla_codeExpr ?_;refine Subscript_ (wpAny_Name (wpAny_loadName_local (m:=fun y=>[(x,Value.ref b)].reverse.lookup y) (v:=.ref b) hk ?_ hns (by simp[List.lookup]) ?_) hd)
 ·exact hx
 ·refine wpAny_Constant_int ?_;have hb1:IsTup h₁ b its.toArray:=let⟨o,e,r⟩:=hb;⟨o,hk₁ b o e,r⟩
  have hi:1<its.length:=(List.getElem?_eq_some_iff.mp hj).1;refine subscriptTail_builtinR (x:=Value.int j t) hb1.typeIs slot_tuple_getitem.lookup (getItem_tuple (k:=1) (j:=1) hb1 (by decide) (by decide) (seqIndex_of (by decide) ?_) (by simpa using hj) ⟨rfl,h₁,_,rfl,rfl,hk₁⟩) rfl;simp;lia
theorem sk{l f L:Addr}{o:Obj}{n:Nat}{T:String}{vs:List Value}{kz:List Int}{m:Str->Option Value}{Q:Value->Shared->Prop}{E:Value->Shared->Prop}
  (hT:T="list"∨T="tuple") (hg:s.heap.get? l=some o) (hcl:o.cls=.type T) (hd:o.data=.seq vs.toArray n) (hL:s.heap.Ns L m) (bG:kz.length=vs.length) (h64:vs.length<64)
  (turn:∀ (i:Nat) (v:Value) (k:Int),vs[i]? = some v → kz[i]? = some k → ∀ (h:Heap) (tk:Nat),(∀ b o,b ≠ L → s.heap.get? b = some o → h.get? b = some o) →
   wpAny (model prog w) A.in1.in1 (call (.ref f) [v]) (fun u s'=>∃h' tk' t',s'={ s with heap:=h',toks:=tk' }/\u=.int k t'/\∀a o,h.get? a=some o->h'.get? a=some o) (fun _ _=>False) { s with heap:=h,toks:=tk })
  (h:∀(h1:Heap) (D:Addr) (h':Heap) (tk:Nat) (out:Array Value) (c:Nat),(∀b o,s.heap.get? b=some o->h1.get? b=some o)->(∀b o,b≠L->h1.get? b=some o->h'.get? b=some o)->h'.Ns L m->h1.objs.size<=D->h'.get? D=some (seqObj "list" out c)->KskOut false kz vs out.toList->Q (.ref D) { s with heap:=h',toks:=tk }) :
  wpAny (model prog w) A (call (.builtin "sorted") [.ref l] [(Str.ofString "key",.ref f)]) Q E s:=by
 refine call_function_entry_kw kind_sorted plain_sorted entry_sorted (ksk_s1 _ _) ?_;unfold Builtin.«sorted»;refine wpAny_bind (m:=checkCount "sorted" 1 1 _) (wpAny_pure ?_);refine wpAny_bind (wpAny_collect_seq l hT hg hcl hd (fun h1 kp0=>?_) (by rw[List.size_toArray,sizeLine_eq];lia));have kp:∀b u,s.heap.get? b=some u->h1.get? b=some u:=kp0;refine wpAny_bind (wpAny_newList ?_ (by rw[sizeLine_eq];simp;lia));have hoL:(h1.push (seqObj "list" vs.toArray 0)).get? h1.objs.size=some (seqObj "list" vs.toArray 0):=Heap.get?_push_size _ rfl;have keep:∀b u,s.heap.get? b=some u->(h1.push (seqObj "list" vs.toArray 0)).get? b=some u:=fun b u e=>Heap.get?_push_of_some _ (kp b u e);have hLs:=hL.keeps keep;have hLl:L<h1.objs.size:=(hL.keeps kp).lt;refine wpAny_bind (wpAny_holding (wpAny_call_entry_kw slot_list_sort ⟨_,hoL,rfl⟩ entry_list_sort ?body (ksk_l1 _ _)))
 case body =>
  show wpAny (model prog w) A.in1.in1 (Builtin.«list.sort» ⟨[.ref h1.objs.size],[(Str.ofString "key",.ref f)]⟩) _ _ _;rw[ksk_t1];refine ksk_sort (h₀:=Att.noObjs (h1.push (seqObj "list" vs.toArray 0))) (L:=L) (m:=m) (news:=kW (Att.noObjs (h1.push (seqObj "list" vs.toArray 0))) h1 L) (kz:=kz) (vs:=vs) (Att.fr_all hLs) (fun p hp=>?_) hoL ?_ (Att.noObjs_get _ _) (fun p hp=>?_) bG h64 (fun i v k hv hk hh tk own F' N'=>?_) fun h' tk out c F' N' k'=>⟨_,rfl,?_⟩
  ·obtain⟨a1,a2,a3⟩:=gD hp;exact⟨Heap.get?_push_of_some _ a3,a1,Att.noObjs_get _ _⟩
  ·exact Nat.ne_of_gt hLl
  ·exact Nat.ne_of_lt (Heap.lt_size (gD hp).2.2)
  ·refine wpAny_mono (turn i v k hv hk hh tk fun b u hb e=>(N' (b,u) (List.mem_append_left _ (j3 hb (Att.noObjs_get _ _) (kp b u e)))).1) (fun u s' ⟨h',tk',t',e1,e2,e3⟩=>?_) fun _ _ z=>z;subst e2;exact⟨h',tk',t',e1,rfl,F'.kept e3,N'.grown e3⟩
  ·refine wpAny_pure ⟨_,rfl,h h1 _ h' tk out c kp (fun b u hb e=>(N' (b,u) (.tail _ (j3 hb (Att.noObjs_get _ _) e))).1) F'.ns (Nat.le_refl _) (N' _ (.head _)).1 k'⟩
end
def kQ(P:Addr) (pos:Pos) (q:Str) (M M':DH):Prop:=M'=M∨∃c,M c=none/\M P=some (kA P pos none)/\M'=aw (aw M P (kA P pos (some c))) c (Bk c q)
theorem kQ.tab{P:Addr}{pos:Pos}{q:Str}{M M':DH}(h:kQ P pos q M M') (t:fH P pos q M):fH P pos q M':=by
 rcases h with rfl|⟨c,h1,h2,rfl⟩
 ·exact t
 ·refine .inr ⟨c,?_,aj⟩;have:P≠c:=fun z=>by rw[z,h1]at h2;cases h2
  rw[av this,aj]
theorem kQ.keep{P:Addr}{pos:Pos}{q:Str}{M M':DH}(h:kQ P pos q M M') {a:Addr}{o:HD}(ha:a≠P) (e:M a=some o):M' a=some o:=by
 rcases h with rfl|⟨c,h1,h2,rfl⟩
 ·exact e
 ·have:a≠c:=fun z=>by rw[z,h1]at e;cases e
  rw[av this,av ha];exact e
section
variable{X:Cx}{ag:List (Addr×Obj)}{σ:St}{H:Hp}{s:Shared}{M:DH}{T c:Addr}{bw:Pos}{qual:Str}{params:Arguments}{body:Expr}{scope:Scope}{clos:List (Str×Addr)}{fl:Nat}
theorem xh{Q:Value->Shared->Prop}(I:Inv X ag σ H s) (hr:HR X.K M H) (hT:fH T bw qual M) (hC:PySem.W.CodeHd X.base c T) (hB:X.base.BuiltinsAt X.mg T) (hcode:X.env.code=.ref c) (hcl:closureFor scope X.env=pure clos)
  (h:∀(f c':Addr) (M':DH) (H':Hp) (s':Shared) (pm ctv:Value),Inv X ag σ H' s'->kQ T bw qual M M'->Ext M H M' H'->HR X.K M' H'->s'.heap.get? f=some (PySem.W.kla_obj "<lambda>" qual params body scope clos pm c' ctv)->s'.heap.CodeRec (.ref c') qual->Q (.ref f) s') :
  wpAny (model X.prog X.w) X.A (makeFunction "<lambda>" qual params (.expr body) scope X.env [] [] [] bw fl) Q X.xe s:=by
 have hgs:s.heap.Ns mainGlobals X.mg:=I.mod.glob.keeps I.bk;have hCs:=hC.keeps I.bk;have hBs:=hB.keeps I.bk;rcases hT with hT|⟨c',hT,hc'⟩
 ·obtain⟨vs,hH,hv⟩:=hr T _ hT;obtain⟨tE,_,_⟩:=I.hok T _ hH;have tE:s.heap.get? T=some (PySem.W.tabObj #[]):=tE;have hgP:mainGlobals≠T:=fun z=>by
   obtain⟨o,es,ep,e,hd,_⟩:=hgs;rw[z,tE]at e;cases e;cases hd
  refine PySem.W.kla_makeFunction (mg:=X.mg) hcl I.ok.glob hgs hcode hCs tE trivial rfl hgP hBs fun c' ctv h' tk hx hge hlt hrec htb=>?_;have nT:br X.prog X.w (upd H T (.ext (jy T bw (some c')))) h' T (.ext (jy T bw (some c'))):=⟨htb,⟨_,htb⟩,fun h1 h2 e k=>k _ e⟩;have I1:Inv X ag σ (upd H T (.ext (jy T bw (some c')))) { s with heap:=h',toks:=tk }:=I.write (by rw[hH];trivial) (.inl rfl) (fun b u hb e=>hx b u hb e) ⟨_,htb⟩ nT;have hn:H c'=none:=I.hok.fresh hge;have hTc:c'≠T:=fun z=>by rw[z,hH]at hn;cases hn
  have hMn:M c'=none:=hr.fresh hn;obtain⟨c2,oc,ovs,t,e2,hoc,hd,hv2⟩:=id hrec;cases e2;have hz:X.s₀.heap.objs.size<=s.heap.objs.size:=I.sz;have I2:Inv X ag σ (upd (upd H T (.ext (jy T bw (some c')))) c' (.ext (CW c' qual))) { s with heap:=h',toks:=tk }:=by
   refine I1.track (by rw[aA hTc];exact hn) ⟨⟨oc,ovs,t,hoc,hd,hv2⟩,⟨_,hoc⟩,fun h1 h2 ⟨o,vs,t,a1,a2,a3⟩ k=>⟨o,vs,t,k _ a1,a2,a3⟩⟩ ?_ ?_ ?_ ?_
   ·exact Heap.get?_none_of_le (Nat.le_trans hz hge)
   ·obtain⟨m,hm,_⟩:=I.loc;exact Nat.ne_of_gt (Nat.lt_of_lt_of_le hm.lt hge)
   ·intro x d e;obtain⟨v,o,ho,_⟩:=I.cell x d e;exact Nat.ne_of_lt (Nat.lt_of_lt_of_le (Heap.lt_size ho) hge)
   ·intro p hp;exact Nat.ne_of_lt (Nat.lt_of_lt_of_le (Heap.lt_size (I.pin p hp).1) hge)
  have I3:=I2.kept (h':=h'.push (PySem.W.kla_obj "<lambda>" qual params body scope clos ((X.mg "__name__").getD .none) c' ctv)) (t':=tk) fun b u e=>Heap.get?_push_of_some _ e;have e1:Ext M H (aw M T (kA T bw (some c'))) (upd H T (.ext (jy T bw (some c')))):=Ext.write hT;have r1:=hr.put e1 ⟨[],aG,ar.nil⟩;have e2:Ext (aw M T (kA T bw (some c'))) (upd H T (.ext (jy T bw (some c')))) (aw (aw M T (kA T bw (some c'))) c' (Bk c' qual)) (upd (upd H T (.ext (jy T bw (some c')))) c' (.ext (CW c' qual))):=Ext.own (by rw[aA hTc];exact hn);have r2:=r1.put e2 ⟨[],aG,ar.nil⟩;exact h h'.objs.size c' _ _ _ _ _ I3 (.inr ⟨c',hMn,hT,rfl⟩) (e1.trans e2) r2 (Heap.get?_push_size _ rfl) (hrec.keeps fun b u e=>Heap.get?_push_of_some _ e)
 ·obtain⟨vs,hH,hv⟩:=hr T _ hT;obtain⟨tE,_,_⟩:=I.hok T _ hH;have tE:s.heap.get? T=some (PySem.W.tabObj #[rawInt bw.line,rawInt bw.col,.ref c']):=tE;obtain⟨vs',hH',hv'⟩:=hr c' _ hc';obtain⟨⟨oc,ovs,t,hoc,hd,hv2⟩,_,_⟩:=I.hok c' _ hH';have hf:codeAmong bw #[rawInt bw.line,rawInt bw.col,Value.ref c'].toList=some (.ref c'):=codeAmong_snoc [] trivial rfl;have ht:TriplesOk #[rawInt bw.line,rawInt bw.col,Value.ref c'].toList:=TriplesOk_snoc bw.line bw.col (.ref c') [] trivial;refine PySem.W.kla_makeFunctionHit (mg:=X.mg) hcl I.ok.glob hgs hcode hCs tE ht hf hBs fun ctv h' tk hk hsz=>?_;have I3:=I.kept (h':=h'.push (PySem.W.kla_obj "<lambda>" qual params body scope clos ((X.mg "__name__").getD .none) c' ctv)) (t':=tk) fun b u e=>Heap.get?_push_of_some _ (hk b u e);exact h h'.objs.size c' M H _ _ _ I3 (.inl rfl) (Ext.refl _ _) hr (Heap.get?_push_size _ rfl) ⟨c',oc,ovs,t,rfl,Heap.get?_push_of_some _ (hk _ _ hoc),hd,hv2⟩
end
def kM(a:Int×Int):D:=.tup [.int a.1,.int a.2]
def yu(T:Addr) (bw:Pos) (q:Str) (t:TAd):TEd:=fun Δ M Q=>t Δ M fun ds M1=>∃arcs:List (Int×Int),ds=[.tup (arcs.map kM)]/\arcs.length<64/\fH T bw q M1 /\
 ∀(arcs':List (Int×Int)) (M2:DH),arcs'.Perm arcs->arcs'.Pairwise (fun x y=>x.2<=y.2)->kQ T bw q M1 M2->Q (.lst (arcs'.map kM)) M2
theorem jk{α β:Type}{f:α->β}{l1 l2:List β}(h:l1.Perm l2):∀L:List α,l2=L.map f->∃L':List α,L'.Perm L/\l1=L'.map f:=by
 induction h with
 |nil=>intro L e;cases L with
  |nil=>exact⟨[],.nil,rfl⟩
  |cons a L=>cases e
 |cons x _ ih=>intro L e;cases L with
  |nil=>cases e
  |cons a L =>
   rw[List.map_cons,List.cons.injEq]at e;obtain⟨L',p,e2⟩:=ih L e.2;exact⟨a::L',p.cons a,by rw[List.map_cons,e.1,e2]⟩
 |swap x y l=>intro L e;cases L with
  |nil=>cases e
  |cons a L=>cases L with
   |nil=>simp at e
   |cons b L =>
    simp only[List.map_cons,List.cons.injEq]at e;exact⟨b::a::L,.swap a b L,by simp[e.1,e.2.1,e.2.2]⟩
 |trans _ _ ih1 ih2 =>
  intro L e;obtain⟨L2,p2,e2⟩:=ih2 L e;obtain⟨L1,p1,e1⟩:=ih1 L2 e2;exact⟨L1,p1.trans p2,e1⟩
section
variable{X:Cx}{ag:List (Addr×Obj)}{σ:St}{H:Hp}{s:Shared}{M:DH}
theorem zg{a:Int×Int}{v:V}{u:Value}(I:Inv X ag σ H s) (r:Rep X.K M H (kM a) v) (ru:aL v u):∃b t1 t2,u=.ref b/\IsTup s.heap b [Value.int a.1 t1,Value.int a.2 t2].toArray:=by
 unfold kM at r;rw[Rep]at r;obtain⟨b,vs,rfl,ta,rl⟩:=r;cases ru;obtain⟨v1,v2,rfl,r1,r2⟩:=rl.two;obtain rfl:v1=.int a.1:=by simpa only[Rep]using r1
 obtain rfl:v2=.int a.2:=by simpa only[Rep]using r2
 obtain⟨its,rv,ht,_⟩:=I.tuple ta.sq;obtain⟨u1,u2,rfl,⟨t1,rfl⟩,⟨t2,rfl⟩⟩:=aB.two rv;exact⟨b,t1,t2,rfl,ht⟩
theorem xN{K:PySem.W.Frag}:∀{arcs:List (Int×Int)}{vs:List V}{its:List Value},ar K M H (arcs.map kM) vs->aB vs its ->
  ∃L:List ((Int×Int)×V×Value),L.map (·.1)=arcs/\L.map (·.2.1)=vs/\L.map (·.2.2)=its/\∀x∈L,Rep K M H (kM x.1) x.2.1/\aL x.2.1 x.2.2
 |[],vs,its,h,r=>by
  have:vs=[]:=by simpa[ar]using h
  subst this;cases r;exact⟨[],rfl,rfl,rfl,fun _ z=>by cases z⟩
 |a::arcs,vs,its,h,r=>by
  rw[List.map_cons,ar]at h;obtain⟨v,ws,rfl,h1,h2⟩:=h;cases r with
  |cons r1 r2 =>
   obtain⟨L,e1,e2,e3,hL⟩:=xN h2 r2;refine⟨(a,v,_)::L,by rw[List.map_cons,e1],by rw[List.map_cons,e2],by rw[List.map_cons,e3],fun x hx=>?_⟩;rcases List.mem_cons.mp hx with rfl|hx
   ·exact⟨h1,r1⟩
   ·exact hL x hx
theorem tG{K:PySem.W.Frag}:∀{L:List ((Int×Int)×V×Value)},(∀x∈L,Rep K M H (kM x.1) x.2.1/\aL x.2.1 x.2.2)->ar K M H ((L.map (·.1)).map kM) (L.map (·.2.1))/\aB (L.map (·.2.1)) (L.map (·.2.2))
 |[],_=>⟨ar.nil,.nil⟩
 |x::L,h=>by
  obtain⟨a,b⟩:=tG (L:=L) fun y hy=>h y (.tail _ hy);exact⟨ar.cons (h x (.head _)).1 a,.cons (h x (.head _)).2 b⟩
end
theorem uN{α:Type}{a c:Nat}(hac:a<=c) {p:Nat->Bool}(hp:∀k,p k=(decide (a<=k)&&decide (k<c))):∀(xs:List α) (n:Nat),((xs.zipIdx n).filterMap fun q=>if p q.2=true then none else some q.1)=xs.take (a-n)++xs.drop (c-n)
 |[],n=>by simp
 |x::xs,n=>by
  rw[List.zipIdx_cons,List.filterMap_cons,uN hac hp xs (n+1),hp]
  by_cases h1:n<a
  ·rw[show a-n=(a-(n+1))+1 by lia,show c-n=(c-(n+1))+1 by lia,List.take_succ_cons,List.drop_succ_cons];simp[show ¬ a<=n by lia]
  ·by_cases h2:n<c
   ·rw[show a-n=0 by lia,show a-(n+1)=0 by lia,show c-n=(c-(n+1))+1 by lia,List.drop_succ_cons];simp[show a<=n by lia,h2]
   ·rw[show a-n=0 by lia,show a-(n+1)=0 by lia,show c-n=0 by lia,show c-(n+1)=0 by lia];simp[h2]
section
variable{prog:Program}{w:World}{A:Around}{s:Shared}{E:Value->Shared->Prop}
theorem mW{l sl:Addr}{items:List Value}{n:Nat}{vl vu:Value}{a c:Nat}{Q:Unit->Shared->Prop}
  (e:s.heap.get? l=some { cls:=.type "list",data:=.seq items.toArray n })
  (hs:s.heap.IsSliceOf sl vl vu .none) (pl:IsPart vl (some (a:Int))) (pu:IsPart vu (some (c:Int))) (hac:a<=c) (hc:c<=items.length)
  (hsz:items.length<=sizeLine) (h:∀f:Array Value->Array Value,f items.toArray=(items.take a++items.drop c).toArray->Q () { s with heap:=s.heap.update l (Obj.mapSeq f) }) :
  wpAny (model prog w) A (delItem (.ref l) (.ref sl)) Q E s:=by
 have hl:s.heap.IsList l items.toArray:=PySem.IsL.isList e;obtain⟨os,hos,hcs,hds⟩:=id hs;have hTs:s.TypeIs (.ref sl) "slice":=⟨os,hos,hcs⟩;have hstep:¬ ((rawPart none==rawInt 0)=true):=Bool.false_ne_true;refine wpAny_delItem_slot hl.typeIs (by decide) F.slot_list_delitem (wpAny_call_entry F.slot_list_delitem hl.typeIs F.entry_list_delitem ?_ (F.args_list_delitem_2 _ _));show wpAny _ _ (Builtin.List.listSubscript? (.ref sl) >>= _) _ _ s;refine wpAny_bind ?_;unfold Builtin.List.listSubscript?;refine wpAny_bind (wpAny_specialOf hTs slice_no_index ?_);simp only[Option.isNone_none,if_true];refine wpAny_pure ?_;show wpAny _ _ (typeOf (.ref sl) >>= _) _ _ s;refine wpAny_bind (wpAny_typeOf hTs ?_)
 first
  |rw[if_neg (by decide)]
  |refine PySem.W.KFB.if_not (by decide) ?_
 rw[listSliceParts_eq];refine wpAny_bind (wpAny_bind (wpAny_field hos hds (x:=.none) rfl (wpAny_bind (wpAny_listPart .none ?_))));rw[if_neg hstep];refine wpAny_bind (wpAny_field hos hds (x:=vl) rfl (wpAny_bind (wpAny_listPart pl ?_)));refine wpAny_bind (wpAny_field hos hds (x:=vu) rfl (wpAny_bind (wpAny_listPart pu (wpAny_pure ?_))));unfold Builtin.List.listItems;refine wpAny_bind (wpAny_bind (wpAny_seqItems e rfl (wpAny_pure ?_)));refine wpAny_bind (wpAny_of_eq ((sliceIndices_raw (some (a:Int)) (some (c:Int)) none items.toArray.size (by simp)).trans (congrArg (pure:Int×Int×Int->Sem (Int×Int×Int)) (sv hac (by simpa using hc)))) ?_);refine wpAny_bind (wpAny_rule ?_);have key:∀p:Nat->Bool,(∀k,p k=(decide (a<=k)&&decide (k<c)))->(List.filterMap (fun q:Value×Nat=>if p q.2=true then none else some q.1) items.zipIdx)=items.take a++items.drop c:=fun p hp=>uN hac hp items 0;refine wpAny_bind (listUpdate_at e rfl ?_ (by simpa using hsz) ?_)
 ·refine wpAny_bind (wpAny_letGo (wpAny_pure ⟨_,rfl,h _ ?_⟩));refine congrArg List.toArray (key _ fun k=>?_);show(if(1:Int) > 0 then(decide ((a:Int)<=(k:Int))&&decide ((k:Int)<(c:Int))&&((k:Int)-(a:Int)) % 1==0)else _)=_;rw[if_pos (by decide),Int.emod_one];rw[Bool.eq_iff_iff];simp
 ·refine Nat.le_trans (Nat.le_of_eq (congrArg (fun l:List Value=>l.toArray.size) (key _ fun k=>?_))) ?_
  ·show(if(1:Int) > 0 then(decide ((a:Int)<=(k:Int))&&decide ((k:Int)<(c:Int))&&((k:Int)-(a:Int)) % 1==0)else _)=_;rw[if_pos (by decide),Int.emod_one];rw[Bool.eq_iff_iff];simp
  ·rw[List.size_toArray,List.length_append,List.length_take,List.length_drop]
   lia
end
section
variable{X:Cx}{pos:Pos}
def AY(to:TEd) (tl th:TOd):TSd:=fun E Δ M=>to Δ M fun o M2=>tl Δ M2 fun l M3=>th Δ M3 fun u M4=>∃a ds i j,o=.ref a/\l=some i/\u=some j/\M4 a=some (.lst ds)/\0<=i/\i<=j/\j<=ds.length/\E.nx Δ (aw M4 a (.lst (ds.take i.toNat++ds.drop j.toNat)))
theorem Cz{o lo hi:Expr}{to:TEd}{tl th:TOd}{p p2:Pos}(ho:QEd X o to) (hl:QOd X (some lo) tl) (hu:QOd X (some hi) th):QSd X (.Delete [.Subscript o (.Slice (some lo) (some hi) none p2) p] pos) (AY to tl th):=by
 simp only[QEd.eq,QSd.eq,QOd.eq]at *
 intro ag s σ H D I hh;obtain⟨Δ,M,E,sr,hr,q,kk⟩:=hh;refine wpAny_Delete (wpAny_deleteEach_cons ?_);rw[arm_delete_Subscript];refine wpAny_bind (thn (ho ag s σ H _ I ⟨Δ,M,_,sr,hr,q,fun o M1 ov H1 q1 e1 hr1 ro=>(⟨o,M1,q1,e1,hr1,ro⟩:∃o M1,(tl Δ M1 fun l M3=>th Δ M3 fun u M4=>∃a ds i j,o=.ref a/\l=some i/\u=some j/\M4 a=some (.lst ds)/\0<=i/\i<=j/\j<=ds.length/\E.nx Δ (aw M4 a (.lst (ds.take i.toNat++ds.drop j.toNat))))/\Ext M H M1 H1/\HR X.K M1 H1/\Rep X.K M1 H1 o ov)⟩) fun ov s1 ⟨x,H1,I1,r1,od,M1,q1,e1,hr1,ro⟩=>?_);refine wpAny_bind (wpAny_holding (wpAny_Slice (thn (hl ag s1 σ H1 _ I1 ⟨Δ,M1,_,sr.ext e1,hr1,q1,fun l M3 H3 q3 e3 hr3=>(⟨M3,q3,e3,hr3⟩:∃M3,(th Δ M3 fun u M4=>∃a ds i j,od=.ref a/\l=some i/\u=some j/\M4 a=some (.lst ds)/\0<=i/\i<=j/\j<=ds.length/\E.nx Δ (aw M4 a (.lst (ds.take i.toNat++ds.drop j.toNat))))/\Ext M1 H1 M3 H3/\HR X.K M3 H3)⟩) fun vl s2 ⟨l,H2,I2,pl,M3,q2,e2,hr2⟩ =>
  thn (hu ag s2 σ H2 _ I2 ⟨Δ,M3,_,(sr.ext e1).ext e2,hr2,q2,fun u M4 H4 q4 e4 hr4=>(⟨M4,q4,e4,hr4⟩:∃M4,(∃a ds i j,od=.ref a/\l=some i/\u=some j/\M4 a=some (.lst ds)/\0<=i/\i<=j/\j<=ds.length/\E.nx Δ (aw M4 a (.lst (ds.take i.toNat++ds.drop j.toNat))))/\Ext M3 H2 M4 H4/\HR X.K M4 H4)⟩) fun vu s3 ⟨u,H3,I3,pu,M4,⟨a,ds,i,j,eo,el,eu,em,b1,b2,b3,q4⟩,e3,hr3⟩=>?_)))
 rw[evalPart_none];refine wpAny_pure ?_;have I4:Inv X ag σ H3 { s3 with heap:=s3.heap.push { cls:=.type "slice",data:=.fields #[vl,vu,.none] } }:=I3.kept (t':=s3.toks) fun b ob q=>Heap.get?_push_of_some _ q;subst eo;subst el;subst eu;simp only[Rep]at ro;subst ro;cases r1;obtain⟨vs,hv,rl⟩:=hr3 a _ em;obtain⟨z,its,n,r,hl2,e⟩:=I4.lstM hv;obtain⟨i',rfl⟩:=Int.eq_ofNat_of_zero_le b1;obtain⟨j',rfl⟩:=Int.eq_ofNat_of_zero_le (Int.le_trans b1 b2);have hln:its.length=ds.length:=by rw[<-r.length,<-rl.length]
 refine wpAny_bind (wpAny_standAt (wpAny_bind (wpAny_holding (mW e (Heap.IsSliceOf.new ..) pl pu (by lia) (by lia) (by rw[<-r.length];exact z) fun f hf=>wpAny_release (wpAny_deleteEach_nil ?_)))));have hzz:(vs.take i'++vs.drop j').length<=sizeLine:=by
  rw[List.length_append,List.length_take,List.length_drop];lia
 have I5:=I4.lset (t':=s3.toks) (ys:=vs.take i'++vs.drop j') hv e hf (aB.append (r.take _) (r.drop _)) hzz;simp only[Int.toNat_natCast]at q4;exact⟨σ,_,I5,kk.nx Δ _ σ _ q4 (((e1.trans e2).trans e3).trans (Ext.write em)) (hr3.write em ((rl.take _).append (rl.drop _))) ((((sr.ext e1).ext e2).ext e3).ext (Ext.write em))⟩
end
section
variable{P:Program}{w:World}{K:PySem.W.Frag}{mg:Str->Option Value}{base:Heap}{f:Addr}{fd:FuncData}
theorem Fun.okRC{x qual:Str}{st:Stmt}{f c:Addr}{fd:FuncData}{N ps:List Str}{k n:Nat}{S:SpD}(F:Fun K x qual st f fd) (hc:fd.code=.ref c) (hn:ps.length=n) (Sc:az N ps (ao st))
  (hbody:∀ (A:Around) (outer:List Env) (s:Shared) (H:Hp) (E:XK),cZ k (A.deeper (envOfC qual (ao st) s.heap.objs.size f (.ref c))) →
   ∃t:TSd,QSs (oV CX0 P w K mg base N qual (ao st) f (.ref c) A outer s H E).nox (cY st) t/\∀ds M R (G:Prop),S ds M R->(t { nx:=fun _ M'=>R .non M',rt:=R } (fW N ds) M->G)->G):bj P w K mg base CX0 (k+1) f fd ps (spD K n S):=by
 obtain⟨oc,od,kV,doc,pm,an,cdv,ct,osl,rfl,lk,hcd⟩:=F.ex;obtain rfl:cdv=.ref c:=hc;refine A4 lk hcd Sc (fun vs H Q E h=>by rw[hn];exact tu h) fun A outer s H vs Q E hr h=>?_;obtain⟨t,ht,hq⟩:=hbody A outer s H E hr;obtain⟨ds,M,R,hl,r,hrr,q,k'⟩:=h;refine⟨_,(show xC _ _ _ from uG ht).nox,fW N ds,M,_,qx r,hrr,hq ds M R _ q id,⟨fun Δ' M' σ' H' q' e' hr' _=>k' .non M' .non H' q' e' hr' (by simp[Rep]),fun _ _ _ _ q'=>False.elim q',fun _ _ _ _ q'=>False.elim q',fun d M' v H' q' e' hr' rv=>k' d M' v H' q' e' hr' rv⟩⟩
theorem zE{h:Heap}{c T:Addr}{d:Option Addr}{vs:Array Value}{sl:Array (Option Value)}{file:Str}{tf tg tt:Tok}{flags text:Int}{inF:Bool}(X:(aY K T).In h) (hT:K.lookup T=some (PySem.W.tabObj #[])) (lc:K.lookup c=some ⟨.type "code",d,.fields vs,sl⟩)
  (h11:vs[11]?=some (.ref T)) (h18:vs.getD 18 .none=.str file tf) (h7:vs.getD 7 .none=.int flags tg) (h9:vs.getD 9 .none=.bool inF) (h10:vs.getD 10 .none=.int text tt):PySem.W.CodeHd h c T:=by
 have hne:c≠T:=fun z=>by rw[z,hT]at lc;cases lc
 exact⟨_,vs,file,tf,flags,tg,inF,text,tt,X c _ ((bN hne K).trans lc),rfl,rfl,h11,by rw[Array.getD_eq_getD_getElem?,h11];rfl,h18,h7,h9,h10,hne⟩
theorem zt{h:Heap}{fa f T c:Addr}{fd:FuncData}{st:Stmt}{sp:Sp}{lp:Program}{k:Nat}{p1:Str}{d:Option Addr}{vs:Array Value}{sl:Array (Option Value)}(X:K.In h) (G:h.Ns mainGlobals mg) (hfa:mg "law"=some (.ref fa)) (i:bz K "law" st f fd) (b:∀a,Bd "law" "law" st [p1] [a])
  (hT:K.lookup T=some (PySem.W.tabObj #[])) (lc:K.lookup c=some ⟨.type "code",d,.fields vs,sl⟩) (h11:vs[11]?=some (.ref T))
  (o:∀base:Heap,(aY K T).In base->base.BuiltinsAt mg T->bj lp w (aY K T) mg base CX0 k f fd [p1] sp) :
  ∃fd:FuncData,(∀(s:Shared) (v:Value),BindsTo s fd ⟨[v],[]⟩ [(p1,v)])/\isCodeTable h T/\∀base:Heap,(aY K T).In base->base.Ns mainGlobals mg->base.BuiltinsAt mg T->bj lp w (aY K T) mg base CX0 k fa fd [p1] sp:=by
 have e:=hfa.symm.trans (PySem.W.mg_of X G i.a);cases e;refine⟨fd,fun s v=>?_,⟨c,_,vs,X c _ lc,rfl,rfl,h11⟩,fun base hb _ hB=>o base hb hB⟩;obtain⟨oc,od,kV,doc,pm,an,cdv,ct,osl,rfl,lk,hcd⟩:=i.F.ex;exact .of_eq (b v kV doc pm an cdv ct)
end
def DK(pos:Pos) (q:Str) (S:Addr->SpD):Prop:=∀(T:Addr) (ns:List Int) (R:D->DH->Prop),ns.length<=63->(∀m∈ns,Few m)->(∀M',fH T pos q M'->R (.bl true) M')->S T [.scr (ns.map .int)] (aw noM T (kA T pos none)) R
theorem sT{K:PySem.W.Frag}{H:Hp}{a T:Addr}{pos:Pos}{ns:List Int}(hO:wj T pos H) (hS:SqL K H a (ns.map V.int)):ar K (aw noM T (kA T pos none)) H [.scr (ns.map D.int)] [.ref a]:=by
 refine ar.cons ?_ ar.nil;simp only[Rep];refine⟨a,ns.map V.int,rfl,?_,qT ns⟩;rcases hS with h|h
 ·left;have haT:a≠T:=fun z=>by
   rcases h with h|⟨o,h⟩<;>rw[z,hO.1]at h<;>cases h
  rcases h with h|h
  ·rcases hO.2 a haT with z|⟨o,xs,z⟩<;>(rw[h]at z;cases z)
  ·exact⟨h,by rw[av haT]⟩
 ·right;exact .inr h
theorem BX{S:Addr->SpD}{pos:Pos}{qn:Str}(hS:DK pos qn S) {k:Nat}{x:Str}{l:PySem.W.OpenLaw}{q:Program}{loose:List Str}{XP:(Str->Option Value)->Heap->Prop}{YP:World->Heap->Prop}{d:DefRec}{K:Params->PySem.W.Frag}(hr:cZ k callerA) (hn:l.most=some 63) (hdf:d.params.defaults=[])
  (hY:∀(w:World) (h:Heap),YP w h->(K w.params).In h)
  (F:∀ (w:World) (mg:Str → Option Value) (fa:Addr) (h:Heap),(K w.params).In h → h.Ns mainGlobals mg → mg d.name = some (.ref fa) →
   ∃T,(K w.params).lookup T=some (PySem.W.tabObj #[])/\∃fd:FuncData,(∀(s:Shared) (u:Value),BindsTo s fd ⟨[u],[]⟩ [(x,u)])/\isCodeTable h T/\∀base:Heap,(aY (K w.params) T).In base->base.Ns mainGlobals mg->base.BuiltinsAt mg T->bj l.prog w (aY (K w.params) T) mg base CX0 k fa fd [x] (spD (aY (K w.params) T) 1 (S T))) :
  PySem.W.WalkO q loose XP YP l.row.toRowW d [] (fun f vs=>PySem.call f vs):=by
 refine Att.attach_callB hn hdf fun w s₀ s₁ mg mb fa o pm cd doc a vs ns G Y ho hd hcd hmg hobj hints bG lb hg=>?_;have KX:=hY w _ Y;obtain⟨T,hT,fd,hb,hct,hF⟩:=F w mg fa _ KX G.T.g hmg;have hTo:=KX T _ hT;have hB:s₁.heap.BuiltinsAt mg T:=by
  obtain⟨bm,ob,b1,b2,b3,b4,b5,b6⟩:=G.T.bmain;refine⟨bm,ob,b1,b2,fun z=>?_,fun z=>?_,b3,b4,b5,b6⟩
  ·obtain⟨o,es,ep,e,hd,_⟩:=G.T.g;rw[z,e]at b3;cases b3;rw[hd]at b6;cases b6
  ·rw[z,hTo]at b3;cases b3;cases b4
 refine vT (pos:=pos) (CX:=CX0) (sp:=spD (aY (K w.params) T) 1 (S T)) KX G.T.g G.T.b G.T.builtins G.T.nolimit hg hobj hints (Nat.le_trans bG (by decide)) hr hT hct hB hF hb (fun H hO hq=>?_) fun _ _ _ z=>z;have hHR:HR (aY (K w.params) T) (aw noM T (kA T pos none)) H:=fun a o e=>by
  by_cases z:a=T
  ·subst z;rw[aj]at e;cases e;exact⟨[],hO.1,ar.nil⟩
  ·rw[av z]at e;cases e
 refine⟨[.scr (ns.map .int)],aw noM T (kA T pos none),fun d M'=>d=.bl true/\fH T pos qn M',rfl,sT hO hq,hHR,hS T ns _ bG lb (fun _ h=>⟨rfl,h⟩),fun d M' v H' hd' _ hr' rv=>?_⟩;obtain⟨e,ht⟩:=hd';subst e;refine⟨by simpa only[Rep]using rv,?_⟩;rcases ht with ht|⟨c,ht,_⟩
 ·obtain⟨vs,hv,_⟩:=hr' T _ ht;exact⟨none,hv⟩
 ·obtain⟨vs,hv,_⟩:=hr' T _ ht;exact⟨some c,hv⟩
section
variable{X:Cx}{a:Expr}{t:TAd}{pos p kq bw p1 p2 p3:Pos}{kj:Nat}{T c:Addr}{qual x:Str}{params:Arguments}{scope:Scope}{clos:List (Str×Addr)}
theorem z8(hu:X.A.units+64<cLine) (hdep:X.A.in1.in1.depth<recursionLimit) (hg:Gl X "sorted") (hm:X.mg "sorted"=none) (ha:QAd X [a] t) (hC:PySem.W.CodeHd X.base c T) (hB:X.base.BuiltinsAt X.mg T) (hcode:X.env.code=.ref c) (hcl:closureFor scope X.env=pure clos) (hq:X.env.qual++"<lambda>"=qual)
  (hdef:defaultsOf params X.env=([],[]))
  (hbind:∀pm c' ctv v,bindArgs (PySem.W.kla_fn "<lambda>" qual params (.Subscript (.Name x p1) (.Constant (.int 1) kj p2) p3) scope clos pm (.ref c') ctv) ⟨[v],[]⟩=pure [(x,v)])
  (hx:scope.names.lookup x=some .local) (hcell:∀y∈scope.names,y.2≠.cell) (hco:scope.isCoroutine=false) (hgen:scope.isGenerator=false) (hk:scope.kind=.function) (hd:(x==("__debug__":Str))=false)
  (he:backTo pos (starEach [a] X.env)=(false,eval a X.env)::backTo pos (starEach [] X.env):=by rfl) (hpl:(backTo pos (starEach [a] X.env)).any (·.1)=false:=by rfl)
  (hall:(backToKw pos (keywordEach [⟨some "key",.Lambda params (.Subscript (.Name x p1) (.Constant (.int 1) kj p2) p3) scope bw,kq⟩] X.env)).all (·.1.isSome)=true:=by rfl)
  (hkw:(backToKw pos (keywordEach [⟨some "key",.Lambda params (.Subscript (.Name x p1) (.Constant (.int 1) kj p2) p3) scope bw,kq⟩] X.env)).any (·.1.isNone)=false:=by rfl)
  (hnm:(backToKw pos (keywordEach [⟨some "key",.Lambda params (.Subscript (.Name x p1) (.Constant (.int 1) kj p2) p3) scope bw,kq⟩] X.env)).filterMap (·.1)=[Str.ofString "key"]:=by rfl) :
  QEd X (.Call (.Name "sorted" p) [a] [⟨some "key",.Lambda params (.Subscript (.Name x p1) (.Constant (.int 1) kj p2) p3) scope bw,kq⟩] pos) (yu T bw qual t):=by
 simp only[QEd.eq,QAd.eq]at *
 intro ag s σ H Q I hh;obtain⟨Δ,M,R,sr,hr,q,k⟩:=hh;refine wpAny_Call_Name_kw (dI (u:=.builtin "sorted") I hg hm (by kernel_rfl) (callWith_kw ?_ he hpl hall hkw));refine thn (ha pos ag s σ H _ I ⟨Δ,M,_,sr,hr,q,fun ds M1 vs H1 hq1 e1 hr1 rv=>(⟨ds,M1,hq1,e1,hr1,rv⟩:∃ds M1,(∃arcs:List (Int×Int),ds=[.tup (arcs.map kM)]/\arcs.length<64/\fH T bw qual M1 /\
  ∀(arcs':List (Int×Int)) (M2:DH),arcs'.Perm arcs->arcs'.Pairwise (fun x y=>x.2<=y.2)->kQ T bw qual M1 M2->R (.lst (arcs'.map kM)) M2)/\Ext M H M1 H1/\HR X.K M1 H1/\ar X.K M1 H1 ds vs)⟩) fun us s1 ⟨vs,H1,I1,r1,ds,M1,⟨arcs,ed,h64,hT,q1⟩,e1,hr1,rv⟩=>?_
 subst ed;refine kws_cons (PySem.W.kla_eval hdef ?_);rw[hq];refine xh I1 hr1 hT hC hB hcode hcl fun f c' M2 H2 s2 pm ctv I2 ts e2 hr2 hf hcd=>kws_nil ?_;rw[hnm];obtain⟨v,rfl,r0⟩:=rv.one;have r0':=r0.ext e2;obtain⟨u,rfl,ru⟩:=aB.one r1;rw[Rep]at r0';obtain⟨l,ws,rfl,ta,rl⟩:=r0';cases ru;obtain⟨its,rvs,⟨o,hgo,hcl2,n,hdo⟩,hz⟩:=I2.tuple ta.sq;obtain⟨L,eL1,eL2,eL3,hL⟩:=xN rl rvs;obtain⟨m,hm2,_⟩:=id I2.loc;have bG:its.length=arcs.length:=by rw[<-eL3,<-eL1,List.length_map,List.length_map]
 show wpAny _ _ (call (.builtin "sorted") [.ref l] [(Str.ofString "key",.ref f)]) _ _ _;refine sk (L:=X.env.locals) (m:=m) (kz:=arcs.map (·.2)) (.inr rfl) hgo hcl2 hdo hm2 (by rw[List.length_map,bG]) (by lia) ?turn ?fin
 case turn =>
  intro i v kk hv hkk h tk keep;have hLd:∀(b:Addr) (ob:Obj),s2.heap.get? b=some ob->(∀es ep,ob.data≠.dict es ep)->b≠X.env.locals:=fun b ob e nd z=>by
   obtain⟨ol,es,ep,el,dl,_⟩:=hm2;rw[z,el]at e;cases e;exact nd es ep dl
  obtain⟨x0,hx0,ex0⟩:∃x0,L[i]?=some x0/\x0.2.2=v:=by
   rw[<-eL3,List.getElem?_map]at hv;cases e:L[i]? with
   |none=>rw[e]at hv;cases hv
   |some x0=>rw[e]at hv;exact⟨x0,rfl,Option.some.inj hv⟩
  have ek:x0.1.2=kk:=by
   rw[<-eL1,List.map_map,List.getElem?_map,hx0]at hkk;exact Option.some.inj hkk
  obtain⟨hx1,hx2⟩:=hL x0 (List.mem_of_getElem? hx0);obtain⟨b,t1,t2,eb,⟨ob,hob,hoc,hod⟩⟩:=zg I2 hx1 hx2;rw[<-ex0,eb,<-ek];obtain⟨no,hod⟩:=hod;have hbL:=hLd b ob hob fun es ep z=>by rw[hod]at z;cases z
  have hfL:=hLd f _ hf fun es ep z=>by cases z
  obtain⟨c2,oc,ovs,tc,ec,hoc2,hdc,hvc⟩:=id hcd;cases ec;have hcL:=hLd c' oc hoc2 fun es ep z=>by rw[hdc]at z;cases z
  have hlim:h.NoLimit:=by
   obtain⟨mc,h1,h2⟩:=I2.mod.nolimit;obtain⟨os0,es,ep,e0,d0⟩:=h1;have b1:=I2.ok.bs _ _ e0;have:cStatics≠X.env.locals:=Nat.ne_of_lt (Nat.lt_of_lt_of_le (Heap.lt_size b1.1) I2.ok.above);exact⟨mc,⟨os0,es,ep,keep _ _ this (I2.bk _ _ e0),d0⟩,h2⟩
  refine wpAny_mono (yd (s:={ s2 with heap:=h,toks:=tk }) (its:=[Value.int x0.1.1 t1,Value.int x0.1.2 t2]) (keep f _ hfL hf) ⟨c',oc,ovs,tc,rfl,keep _ _ hcL hoc2,hdc,hvc⟩ hlim ?_ (hbind pm c' ctv) hx hcell hco hgen hk hd ⟨ob,keep _ _ hbL hob,hoc,no,hod⟩ (by simp) rfl) (fun u s' ⟨h',tk',e1,e2,e3⟩=>⟨h',tk',t2,e1,e2,e3⟩) fun _ _ z=>z;exact hdep
 case fin =>
  intro h1 D h' tk out cc kp keep hns hge hD hout;have I3:Inv X ag σ H2 { s2 with heap:=h1,toks:=tk }:=I2.kept kp;obtain⟨ps,hp,eo,hpw⟩:=hout;have ez:(arcs.map (·.2)).zip its=L.map fun x=>(x.1.2,x.2.2):=by
   rw[<-eL1,<-eL3,List.map_map,List.zip_map'];rfl
  rw[ez]at hp;obtain⟨L',pL,ePs⟩:=jk hp L rfl;have hL':∀x∈L',Rep X.K M2 H2 (kM x.1) x.2.1/\aL x.2.1 x.2.2:=fun x hx=>hL x (pL.mem_iff.mp hx);obtain⟨rp,rvv⟩:=tG hL';have eo':out.toList=L'.map (·.2.2):=by rw[eo,ePs,List.map_map];rfl
  have hDn:H2 D=none:=I3.hok.fresh hge;have hLn:∀b,H2 b≠none->b≠X.env.locals:=fun b hb z=>hb (z▸I3.free);have hzl:(L'.map (·.2.1)).length<=sizeLine:=by rw[List.length_map,pL.length_eq,<-List.length_map (f:=(·.1)),eL1,sizeLine_eq];lia
  have hlt:∀b o,h1.get? b=some o->b≠D:=fun b o e z=>Nat.lt_irrefl _ (Nat.lt_of_lt_of_le (Heap.lt_size (z▸e)) hge);have newD:br X.prog X.w (upd H2 D (.lst (L'.map (·.2.1)))) h' D (.lst (L'.map (·.2.1))):=⟨hzl,L'.map (·.2.2),cc,rvv,by rw[hD,<-eo',Array.toArray_toList]⟩;have I4:Inv X ag σ (upd H2 D (.lst (L'.map (·.2.1)))) { s2 with heap:=h',toks:=tk }:=by
   refine Inv.step (s:={ s2 with heap:=h1,toks:=tk }) (h':=h') (g':=s2.gens) (d':=s2.drawn) (t':=tk) (ch:=[]) I3 (fun _ z=>nomatch z) (fun b o hb _ _ e n=>keep b o hb e) (fun b o hb _ _ e n=>⟨o.slots,keep b o hb e⟩) (fun b o _ e n=>?_) (fun b o _ e=>?_) (fun b xs e=>?_) (fun b o u e=>?_) (fun b ps e=>?_) (fun m' hm'=>?_) (fun b o e=>?_) I2.bare
   ·rw[aA (hlt b o e)];exact n
   ·by_cases hb:b=X.env.locals
    ·obtain⟨ol,_,_,el,_⟩:=hns;exact⟨ol,hb▸el⟩
    ·exact⟨o,keep b o hb e⟩
   ·rw[aA (bc e hDn)];exact e
   ·rw[aA (bc e hDn)];exact e
   ·exact⟨#[],by rw[aA (bc e hDn),e];simp⟩
   ·have q1:=(hm2.keeps kp).eq_nsMap;have q2:=hm'.eq_nsMap;rw[q2,<-q1];exact hns
   ·by_cases hb:b=D
    ·subst hb;rw[aG]at e;cases e;exact newD
    ·rw[aA hb]at e;refine(I3.hok b o e).stay (fun b' u hb' eb=>keep b' u ?_ eb) (fun b' eb=>?_) fun b' xs eb=>?_
     ·rcases hb' with rfl|hb'
      ·exact hLn _ (by rw[e];simp)
      ·exact hLn _ (by rw[hb'];simp)
     ·rw[aA (bc eb hDn)];exact eb
     ·rw[aA (bc eb hDn)];exact eb
  have hr4:HR X.K M2 (upd H2 D (.lst (L'.map (·.2.1)))):=hr2.new hDn;have e4:Ext M2 H2 M2 (upd H2 D (.lst (L'.map (·.2.1)))):=Ext.new hr2 hDn;refine⟨.ref D,_,I4,rfl,k _ M2 _ _ (q1 (L'.map (·.1)) M2 (by rw[<-eL1];exact pL.map _) ?_ ts) ((e1.trans e2).trans e4) hr4 ?_⟩
  ·rw[ePs,List.pairwise_map]at hpw;rw[List.pairwise_map];exact hpw.imp fun h=>by simpa using h
  ·rw[Rep];exact⟨D,_,rfl,⟨aG,hr2.fresh hDn⟩,rp.ext e4⟩
end
end L2
namespace L2
open PySem PySem.Spec PyProof.Rows
section
variable{X:Cx}{a:Expr}{p p2 pos pos2:Pos}
def Eo(ta:TAd):TEd:=fun Δ M Q=>ta Δ M fun ds M1=>∃j:Int,ds=[.int j]/\0<=j/\j<=1000000/\∀l,M1 l=none->Q (.ref l) (aw M1 l (.lst (ie 0 j.toNat)))
theorem oO{ta:TAd}(bA:X.calm=true) (hg:Gl X "list") (hm:X.mg "list"=none) (hg2:Gl X "range") (hm2:X.mg "range"=none) (ha:QAd X [a] ta) (hs:starEach [a] X.env=[(false,eval a X.env)]:=by rfl)
  (hs2:starEach [.Call (.Name "range" p2) [a] [] pos2] X.env=[(false,eval (.Call (.Name "range" p2) [a] [] pos2) X.env)]:=by rfl):QEd X (.Call (.Name "list" p) [.Call (.Name "range" p2) [a] [] pos2] [] pos) (Eo ta):=by
 simp only[QEd.eq,QAd.eq]at *
 exact(oI bA hg hm hg2 hm2 ha hs hs2).conv fun σ H Q hup=>hup.el fun Δ M R sr hr q k=>⟨Δ,M,_,sr,hr,q,fun ds M1 vs H1 ⟨j,e,h0,h1,q2⟩ e1 hr1 rp=>by
   subst e;obtain⟨v,ev,rv1⟩:=rp.one;have ev1:v=.int j:=by simpa only[Rep]using rv1
   subst ev1;subst ev;exact⟨j,rfl,h0,h1,fun l hl=>k _ _ _ _ (q2 l (hr1.fresh hl)) (e1.trans (Ext.own hl)) (hr1.own hl (qf _)) (by simp only[Rep])⟩⟩
end
end L2
namespace L2
open PySem PySem.Spec PyProof.Rows PySem.Calls PySem.SeqAt
end L2
namespace L2
open PySem PySem.Spec PyProof.Rows PySem.Calls PySem.SeqAt PySem.W
def DrF(w:World) (a:Addr) (ks:List (List KD)) (vs:List V) (o:Obj) (ws:List V) (h:Heap):Prop:=ws=vs/\h.get? a=some o/\ks.length=vs.length/\DrE w a ks vs h
def Er(a:Addr) (φ:List V->Heap->Prop) (n:Nat):It :=
 ⟨fun i H=>(∃ws,H a=some (.ext (φ ws)))/\i<n,fun i H x H'=>H'=H/\∀ws,H a=some (.ext (φ ws))->ws[i]?=some x,fun i H=>(∃ws,H a=some (.ext (φ ws)))/\n<=i⟩
section
variable{X:Cx}{ag:List (Addr×Obj)}{σ:St}{H:Hp}{s:Shared}{a:Addr}{o:Obj}{ks:List (List KD)}{vs ws:List V}{es:Array DictEntry}{ep:Nat}
theorem DrF.ok{P:Program}{w w':World}{H:Hp}{h:Heap}(x:DrF w a ks vs o ws h):br P w' H h a (.ext (DrF w a ks vs o ws)) :=
 ⟨x,⟨o,x.2.1⟩,fun h1 h2 ⟨e,a0,al,a1,a2,a3,its,a4,es,ep,a5,a6⟩ k=>⟨e,k _ a0,al,a1,a2,a3,its,a4,es,ep,a5.at' k,a6⟩⟩
theorem DrF.its{w:World}{h:Heap}(x:DrF w a ks vs o ws h) (hd:o.data=.dict es ep):iG h a es ep/\aB vs (es.toList.map (·.key)):=by
 obtain⟨_,ho,hl,_,_,_,its,rv,es',ep',⟨o',ho',hc,hdat⟩,he⟩:=x;rw[ho]at ho';cases ho';rw[hd]at hdat;cases hdat;refine⟨⟨o,ho,hc,hd⟩,?_⟩;have e:es.toList.map (·.key)=its:=by rw[he,List.map_map];exact pf (hl.trans rv.length)
 rw[e];exact rv
theorem yH{P:Program}{w:World}{K:PySem.W.Frag}{tg:Expr}(it:Addr) (hd:o.data=.dict es ep):iD P w K tg (Er a (DrF w a ks vs o) vs.length) [it] it (fun i h=>h.IsKeyIter it a i es.size ep) where
 mem:=by simp
 obj:=fun i h st b hb=>by
  have e:b=it:=by simpa using hb
  subst e;obtain⟨o,e,c,d⟩:=st;exact⟨o,e,fun v z=>by rw[d]at z;cases z⟩
 keep:=fun i h h' st k=>st.at fun o e=>k it (by simp) o e
 item:=by
  intro X hP hw hK hc i ag s σ H E I hf st hg;subst hP hw hK;obtain⟨⟨ws,e⟩,hi⟩:=hg;have dr:∀ws,H a=some (.ext (DrF X.w a ks vs o ws))->DrF X.w a ks vs o ws s.heap:=fun ws e=>(I.hok a _ e).1;obtain⟨de,rv⟩:=(dr ws e).its hd;obtain⟨f0,f1,f2,f3,f4,f5⟩:=hf it (by simp);have hl:vs.length=es.size:=by rw[rv.length,List.length_map,Array.length_toList]
  refine A3 st de (by lia) fun h' hit' hs'=>?_;have I1:Inv X ag σ H { s with heap:=h' }:=I.turned (t':=s.toks) (fun b o hb e=>hs'.extBut b o hb e) f0 f1 f3 f4 f5;obtain⟨u,g,r⟩:=rv.get (List.getElem?_eq_getElem hi);rw[List.getElem?_map,Array.getElem?_toList,Array.getElem?_eq_getElem (show i<es.size by lia),Option.map_some]at g;cases g;obtain⟨ob,e1,c1,d1⟩:=id hit';exact⟨_,rfl,lH (s:={ s with heap:=h' }) e1 c1 d1 (by decide) ⟨vs[i],H,I1,r,⟨rfl,fun ws' e'=>by rw[(dr ws' e').1];exact List.getElem?_eq_getElem hi⟩,hit',fun b hb=>(hf b hb).1⟩⟩
 done:=by
  intro X hP hw hK hc i ag s σ H E I hf st hg;subst hP hw hK;obtain⟨⟨ws,e⟩,hi⟩:=hg;obtain⟨de,rv⟩:=(show DrF X.w a ks vs o ws s.heap from(I.hok a _ e).1).its hd;obtain⟨f0,f1,f2,f3,f4,f5⟩:=hf it (by simp);have hl:vs.length=es.size:=by rw[rv.length,List.length_map,Array.length_toList]
  exact Du (I.ok.hd hc) st de (by lia) fun h' eb=>⟨rfl,I.turned (t':=s.toks) (fun b o hb e=>eb b o hb e) f0 f1 f3 f4 f5⟩
 self:=fun _ _ _ _ _ st h=>wpAny_pyIter_keyiter st h
variable{tg iter elt l:Expr}{pos:Pos}{scope:Scope}{cl:List (Str×Addr)}{ms:List Bool}{am:List Str}{tl:TE}
def iDr(w:World) (tl:TE):TI:=fun σ H R=>tl σ H fun x H1=>∃a ks vs,x=.ref a/\H1 a=some (.ext (DrE w a ks vs))/\ks.length=vs.length/\∀o,R (Er a (DrF w a ks vs o) vs.length) (upd H1 a (.ext (DrF w a ks vs o vs)))
theorem DG(hl:PE X l tl):PI X tg l (iDr X.w tl):=by
 intro ag s σ H R I h;refine thn (hl ag s σ H _ I h) fun v s1 hup=>hup.el fun x H1 I1 r1 q1=>?_;obtain⟨a,ks,vs,e,ea,el,q⟩:=q1;subst e;cases r1;obtain⟨dr,_,_⟩:=I1.hok a _ ea;obtain⟨lo,_,_,its,rv,es,ep,de,he⟩:=id dr;obtain⟨o,ho,hc,hd⟩:=id de;have I2:Inv X ag σ (upd H1 a (.ext (DrF X.w a ks vs o vs))) s1:=I1.write (x:=a) (e:=a) (h':=s1.heap) (t':=s1.toks) (by rw[ea];exact True.intro) (.inl rfl) (fun b u _ q=>q) ⟨o,ho⟩ (DrF.ok ⟨rfl,ho,el,dr⟩);refine AF lo de ?_;refine⟨s1.heap.objs.size,[s1.heap.objs.size],_,_,_,rfl,I2.kept (t':=s1.toks) fun b o e=>Heap.get?_push_of_some _ e,yH _ hd,?_,fun b hb=>?_,q o⟩
 ·exact⟨_,Heap.get?_push_size _ rfl,rfl,rfl⟩
 ·have e:b=s1.heap.objs.size:=by simpa using hb
  subst e;exact I2.fpOk (Nat.le_refl _) (I2.hok.fresh (Nat.le_refl _))
def xi(w:World) (t:TE):TE:=fun σ H Q=>t σ H fun v H1=>∃a ks vs o ws,H1 a=some (.ext (DrF w a ks vs o ws))/\Q v (upd H1 a (.ext (DrE w a ks ws)))
theorem xS{e:Expr}{t:TE}(h:PE X e t):PE X e (xi X.w t):=by
 intro ag s σ H Q I q;refine thn (h ag s σ _ _ I q) fun v s1 ⟨x,H1,I2,r,a,ks,vs,o,ws,e1,q1⟩=>?_;obtain⟨⟨e,ho,_,dr⟩,_,_⟩:=I2.hok a _ e1;subst e;exact⟨x,_,I2.write (x:=a) (e:=a) (h':=s1.heap) (t':=s1.toks) (by rw[e1];exact True.intro) (.inl rfl) (fun b u _ q=>q) ⟨o,ho⟩ dr.ok,r,q1⟩
def De(w:World) (ms:List Bool) (k i:Nat) (g:GD) (te:TEd):TEd:=fun Δ M Q=>∃a ks,Δ[i]?=some (some (.ref a))/\M a=some (dRw w a ks)/\ks.length<=sizeLine/\∀ φ,sG g te (aw M a (.ext φ (ks.map fP))) (ks.map fP) (mH ms k Δ) [] fun ys=>Q (.lst ys) M
theorem wf{w:World}{K:PySem.W.Frag}{i:Nat}{g:GD}{te:TEd}{gv:TG}{kk:Nat}
  (kg:∀(d:D) (v:V) (σ:St) (Δ Δ':DE) (M:DH) (H:Hp) (Q:St->Hp->Prop),SR K M H σ Δ->HR K M H->Rep K M H d v->g d Δ=some Δ'->(∀ σ',SR K M H σ' Δ'->Q σ' H)->gv v σ H Q) :
  ∀ σ H Q,up K (De w ms kk i g te) σ H Q->xi w (tLc ms kk (iDr w (up K (eJ i))) gv (upT K u0) (up K te)) σ H Q:=by
 rintro σ H Q ⟨Δ,M,R,sr,hr,⟨a,ks,ed,em,hz,q⟩,k⟩;refine⟨Δ,M,fun d M'=>d=.ref a/\M'=M,sr,hr,⟨_,ed,rfl,rfl⟩,?_⟩;rintro d M' v H1 ⟨rfl,rfl⟩ e1 hr1 rv;simp only[Rep]at rv;subst rv;obtain⟨vs,ea1,rl⟩:=hr1 a _ em;have elv:ks.length=vs.length:=by rw[<-rl.length,List.length_map]
 refine⟨a,ks,vs,rfl,ea1,elv,fun o=>?_⟩;have q1:=q (DrF w a ks vs o);generalize hM1:aw M' a (.ext (DrF w a ks vs o) (ks.map fP))=M1 at q1;have m1a:M1 a=some (.ext (DrF w a ks vs o) (ks.map fP)):=by rw[<-hM1];exact aj
 have back:aw M1 a (dRw w a ks)=M':=by rw[<-hM1,aE];exact vM em
 have ef:Ext M' H1 M1 (upd H1 a (.ext (DrF w a ks vs o vs))):=by rw[<-hM1];exact Ext.write em
 have hrf:HR K M1 (upd H1 a (.ext (DrF w a ks vs o vs))):=by
  rw[<-hM1]at ef ⊢;exact hr1.put ef ⟨vs,aG,rl.ext ef⟩
 have bG:(ks.map fP).length=ks.length:=List.length_map _;refine⟨fun i m ys σ' H'=>∃ Δ' acc,m=ks.length-i/\i<=ks.length/\Ext M1 (upd H1 a (.ext (DrF w a ks vs o vs))) M1 H'/\HR K M1 H'/\SR K M1 H' σ' Δ'/\ar K M1 H' acc ys/\acc.length<=i/\sG g te M1 ((ks.map fP).drop i) Δ' acc fun ys=>R (.lst ys) M',
  fun ys _ H'=>∃acc,Ext M1 (upd H1 a (.ext (DrF w a ks vs o vs))) M1 H'/\HR K M1 H'/\ar K M1 H' acc ys/\R (.lst acc) M',⟨ks.length,_,[],by simp,Nat.zero_le _,Ext.refl _ _,hrf,((sr.ext e1).ext ef).comp ms kk,ar.nil,by simp,q1⟩,?_,?_⟩
 ·rintro i m ys σ2 H2 ⟨Δ2,acc,rfl,hi2,e2,hr2,sr2,ra,la,f2⟩;have hl:ys.length<=sizeLine:=by rw[<-ra.length];lia
  refine⟨hl,?_⟩;obtain⟨ws,h2a,rl2⟩:=hr2 a _ m1a
  by_cases hlt:i<ks.length
  ·rw[List.drop_eq_getElem_cons (by rw[bG];exact hlt)]at f2;simp only[sG]at f2;obtain⟨Δ3,eg,f3⟩:=f2;refine .inr ⟨⟨⟨ws,h2a⟩,by lia⟩,fun x H' hy=>?_⟩;obtain⟨rfl,hk⟩:=hy;obtain⟨v',hv',r'⟩:=rl2.get (List.getElem?_eq_getElem (show i<(ks.map fP).length by rw[bG];exact hlt));rw[hk ws h2a]at hv';cases hv';refine kg _ _ σ2 Δ2 Δ3 M1 H' _ sr2 hr2 r' eg fun σ3 sr3=>?_;refine⟨Δ3,M1,_,sr3,hr2,show u0 Δ3 M1 (fun b M4=>b=true/\M4=M1)from⟨rfl,rfl⟩,?_⟩;rintro b M4 H4 ⟨rfl,rfl⟩ e4 hr4;simp only[if_true];refine⟨Δ3,M4,_,sr3.ext e4,hr4,f3,?_⟩;rintro y M5 v5 H5 ⟨rfl,q5⟩ e5 hr5 rv5;exact⟨ks.length-(i+1),by lia,Δ3,acc++[y],rfl,hlt,(e2.trans e4).trans e5,hr5,(sr3.ext e4).ext e5,((ra.ext e4).ext e5).append (ar.cons rv5 ar.nil),by simp;lia,q5⟩
  ·rw[List.drop_eq_nil_of_le (by rw[bG];lia)]at f2;exact .inl ⟨⟨⟨ws,h2a⟩,by lia⟩,acc,e2,hr2,ra,f2⟩
 ·rintro ys _ H' p ⟨acc,e',hr',ra,q'⟩ hp;obtain⟨ws,h2a,rl2⟩:=hr' a _ m1a;have hap:a≠p:=bc h2a hp;have en:Ext M1 H' M1 (upd H' p (.lst ys)):=Ext.new hr' hp;have hrn:HR K M1 (upd H' p (.lst ys)):=hr'.new hp;refine⟨a,ks,vs,o,ws,by rw[aA hap];exact h2a,?_⟩;have et:Ext M1 (upd H' p (.lst ys)) (aw M1 a (dRw w a ks)) (upd (upd H' p (.lst ys)) a (.ext (DrE w a ks ws))):=Ext.write m1a;have hrt:=hrn.put et ⟨ws,aG,(rl2.ext en).ext et⟩;rw[back]at et hrt;refine k _ M' _ _ q' ((((e1.trans ef).trans e').trans en).trans et) hrt ?_;have rl:Rep K M1 (upd H' p (.lst ys)) (.lst acc) (.ref p):=by
   simp only[Rep];exact⟨p,ys,rfl,⟨aG,hr'.fresh hp⟩,ra.ext en⟩
  exact rl.ext et
theorem Ep{w:World}{i:Nat}{g:GD}{te:TEd}(S:cT X scope cl ms am) (bA:X.calm=true) (hv:QEd X iter (eJ i)) (hg:PGa X scope cl am tg g)
  (he:∀C s H ex,QEd (aK X scope cl (X.N++am) C s H ex) elt te) (hw:X.w=w:=by rfl)
  (hs:∀x,foldedSetIterable iter X.env x=pure x:=by intro _;rfl):QEd X (.ListComp elt [⟨tg,iter,[],0⟩] scope pos) (De w ms am.length i g te):=by
 subst hw;simp only[QEd.eq]at *
 obtain⟨gv,pg,kg⟩:=hg;exact(xS (wt (tc:=upT X.K u0) S bA (DG hv) pg (fun C s H ex=>AH) (o8 (te:=up X.K te) he) hs)).conv (wf kg)
def tV(w:World) (to:TEd):TEd:=fun Δ M Q=>to Δ M fun x M1=>∃a ks ps,x=.ref a/\M1 a=some (dRw w a ks)/\ks.map fP=ps.map pD/\ps.length<64/\Q (.lst ((gk ps).map pD)) M1
theorem wm{w:World}{o:Expr}{to:TEd}{p0 q0:Pos}(hc:X.calm=true) (hgS:Gl X "sorted") (hmS:X.mg "sorted"=none) (ho:QEd X o to) (hw:X.w=w:=by rfl)
  (he0:starEach [o] X.env=(false,eval o X.env)::starEach [] X.env:=by rfl) (hp0:(backTo q0 (starEach [] X.env)).any (·.1)=false:=by rfl) :
  QEd X (.Call (.Name "sorted" p0) [o] [] q0) (tV w to):=by
 subst hw;simp only[QEd.eq]at *
 intro ag s σ H Q I ⟨Δ,M,R,sr,hr,q,k⟩;refine wpAny_Call_Name_kw (dI I hgS hmS (u:=.builtin "sorted") (by kernel_rfl) ?_ (by decide) (by decide));refine PyProof.Rows.callWith_builtin1 ?_ he0 hp0;rw[he0];show wpAny _ _ (spliced ((false,eval _ X.env)::backTo q0 (starEach [] X.env))) _ _ s;refine Calls.spliced_cons (evD ho I sr hr q fun u s1 v H1 x M1 I1 r1 ⟨a,ks,ps,ex,em,hk,h64,q2⟩ hr1 rv e1=>?_);refine Calls.spliced_nil ?_;subst ex;simp only[Rep]at rv;subst rv;obtain rfl:u=Value.ref a:=r1;obtain⟨vs,hH,rl⟩:=hr1 a _ em;obtain⟨⟨lo,nd,dp,its,rvs,es,ep,de,he⟩,_,_⟩:=I1.hok a _ hH;have hln:ks.length=its.length:=by rw[<-rvs.length,<-rl.length,List.length_map]
 have hsz:es.size=ks.length:=by rw[<-Array.length_toList,he,List.length_map,List.length_zip];lia
 have ek:es.toList.map (·.key)=its:=by rw[he,List.map_map];exact pf hln
 have hn:ps.length=its.length:=by rw[<-hln];have:=congrArg List.length hk;simpa using this.symm
 rw[hk]at rl;have h64':its.length<64:=by lia
 refine call_function_entry kind_sorted plain_sorted entry_sorted (args_sorted1 _) ?_;unfold Builtin.«sorted»;refine wpAny_bind (m:=checkCount "sorted" 1 1 _) (wpAny_pure ?_);have hz':its.length<=sizeLine:=by rw[sizeLine_eq];lia
 refine wpAny_bind (yc (A:=X.A.in1) (I1.ok.hd hc) lo de (by rw[hsz,sizeLine_eq];lia) fun h1 tk kp0=>?_);rw[ek];refine wpAny_bind (wpAny_newList ?_ hz');have I2:Inv X ag σ H1 { s1 with heap:=h1,toks:=tk }:=I1.kept kp0;have kp2:∀b o,h1.get? b=some o->(h1.push (seqObj "list" its.toArray 0)).get? b=some o:=fun b o e=>Heap.get?_push_of_some _ e;have new:(h1.push (seqObj "list" its.toArray 0)).get? h1.objs.size=some (seqObj "list" its.toArray 0):=Heap.get?_push_size _ rfl;have old1:h1.get? h1.objs.size=none:=Heap.get?_none_of_le (Nat.le_refl _);show wpAny _ _ _ _ _ { s1 with heap:=h1.push (seqObj "list" its.toArray 0),toks:=tk };have go1:∀(t:Shared),nO h1.objs.size { s1 with heap:=h1.push (seqObj "list" its.toArray 0),toks:=tk } t->∀b o,h1.get? b=some o->t.heap.get? b=some o:=fun t ht b o e=>ht b o (fun q=>by rw[q,old1]at e;cases e) (kp2 b o e);have at_:=fun i (hi:i<ps.length)=>vX I2 rl rvs hi;have key:∀i (hi:i<ps.length),ps.getD i (0,0)=ps[i]:=fun i hi=>by rw[List.getD_eq_getElem?_getD,List.getElem?_eq_getElem hi];rfl
 refine wpAny_bind (wpAny_holding (wpAny_call_entry slot_list_sort ⟨_,new,rfl⟩ entry_list_sort ?_ (args_list_sort _)));refine xX (O:=DJ) (key:=fun i=>ps.getD i (0,0)) (κ:=tuples' true) new h64' (fun s2 Q' two ht q=>?_) (fun i j s2 C hi hj ht q=>?_) fun p c h' hp hs hst hx=>?_
 ·obtain⟨fs,t1,t2,t3⟩:=oP (h:=s2.heap) hn.symm fun i hi=>let⟨a,t,u,g,z⟩:=at_ i hi;⟨a,t,u,g,dn z (go1 s2 ht)⟩
  exact kat_kind (T:=.type "int") t1 (by lia) (fun f hf=>by obtain⟨i,t,rfl⟩:=t3 f hf;exact Looks.of_pure rfl) rfl q
 ·rw[<-hn]at hi hj;obtain⟨a,t,u,g,z⟩:=at_ i hi;obtain⟨b,t',u',g',z'⟩:=at_ j hj;show wpAny _ _ (keyLt' _ _ _) _ _ _;rw[fV g,fV g'];refine qM (dn z (go1 s2 ht)) (dn z' (go1 s2 ht)) ?_;have q':C (ltP (ps.getD i (0,0)) (ps.getD j (0,0))) s2:=q
  rwa [key i hi,key j hj]at q'
 ·refine⟨_,rfl,wpAny_pure ⟨_,rfl,?_⟩⟩;have kp:∀b o,h1.get? b=some o->h'.get? b=some o:=fun b o e=>go1 { s1 with heap:=h',toks:=tk } hst b o e;have hlt:∀i∈p.toList,i<ps.length:=fun i hi=>by rw[hn];exact List.mem_range.mp (hp.mem_iff.mp hi)
  have hlv:vs.length=its.length:=rvs.length;have lo:(p.toList.map fun i=>vs.getD i .non).length=its.length:=by rw[List.length_map,Array.length_toList];exact hp.size
  have I3:=I2.laid (t':=tk) (o:=.lst (p.toList.map fun i=>vs.getD i .non)) kp (Nat.le_refl _) (show br X.prog X.w _ h' _ (.lst _)from⟨by rw[lo];exact hz',gI its p,c,hJ rvs (fun i hi=>by rw[hlv,<-hn];exact hlt i hi),hx⟩);have es:(p.toList.map fun i=>ps.getD i (0,0))=gk ps:=by
   have hp':p.toList.Perm (List.range ps.length):=by rw[hn];exact hp
   have hm:=hp'.map fun i=>ps.getD i (0,0);rw[ou]at hm;refine lL hm ?_;rw[List.pairwise_iff_getElem];intro i j hi hj hij;have sz:p.size=its.length:=hp.size;rw[List.length_map,Array.length_toList]at hi hj;have:=hs i j (Nat.le_of_lt hij) (by lia);have e1:kp_ p i=p.toList[i]'(by simpa using hi):=by simp[kp_,Array.getD,hi]
   have e2:kp_ p j=p.toList[j]'(by simpa using hj):=by simp[kp_,Array.getD,hj]
   have g:leP (ps.getD (kp_ p i) (0,0)) (ps.getD (kp_ p j) (0,0))=true:=by
    have z:ltP (ps.getD (kp_ p j) (0,0)) (ps.getD (kp_ p i) (0,0))=false:=this;simp only[leP,z,Bool.not_false]
   rw[e1,e2]at g;simpa using g
  refine⟨.ref _,_,I3,rfl,fu hr1 (I2.hok.fresh (Nat.le_refl _)) (jE rl hlt) fun w H' a b c=>?_⟩;rw[es]at c;exact k _ _ _ _ q2 (e1.trans a) b c
end
end L2
namespace My
open PySem PySem.Spec PyProof.Rows L2
noncomputable def top(i:Nat):Stmt:=PySem.Challenge.pw_wordwishes_k32_whole_rows_that_come.main.body.getD i (.Pass ⟨0,0,0,0⟩)
abbrev dm:Stmt:=top 1
abbrev gJ:Stmt:=top 2
abbrev cg:Stmt:=top 3
abbrev eQ:Stmt:=top 5
abbrev iN:Stmt:=top 6
abbrev cM:Stmt:=top 7
abbrev cO:Stmt:=top 9
abbrev gb:Stmt:=top 10
abbrev bx:Stmt:=top 11
abbrev dN:Stmt:=top 12
abbrev cX:Stmt:=top 13
abbrev fb:Stmt:=top 14
abbrev fo:Stmt:=top 15
abbrev e8:Stmt:=top 16
abbrev eS:Stmt:=top 18
abbrev dv:Stmt:=top 19
abbrev cb:Stmt:=top 20
abbrev dD:Stmt:=top 21
abbrev jI:Stmt:=top 22
abbrev jV:Stmt:=top 24
abbrev lY:Stmt:=top 25
abbrev lh:Stmt:=top 26
abbrev jY:Stmt:=top 27
abbrev gX:Stmt:=top 28
abbrev jS:Stmt:=top 29
abbrev jw:Stmt:=top 30
abbrev gF:Stmt:=top 31
abbrev jT:Stmt:=top 32
abbrev ph:Stmt:=top 33
abbrev fF:Stmt:=top 34
abbrev lS:Stmt:=top 35
abbrev mm:Stmt:=top 36
abbrev oZ:Stmt:=top 37
abbrev eP:Stmt:=top 38
abbrev jP:Stmt:=top 39
abbrev i5:Stmt:=top 40
abbrev dW:Stmt:=top 41
abbrev cG:Stmt:=top 42
abbrev gZ:Stmt:=top 43
abbrev lI:Stmt:=top 44
abbrev xb:Stmt:=top 45
noncomputable abbrev jZ:List Str:=["pairs","mark","reached","at","low","high"]
theorem eX:az jZ ["pairs","mark"] (ao dm):=fsc
abbrev qg:List Str:=["order","one","other"]
theorem i8:az qg ["order","one","other"] (ao gJ):=fsc
abbrev cf:List Str:=["order","mark"]
theorem eY:az cf ["order","mark"] (ao cg):=fsc
abbrev lZ:List Str:=["order","turn","one","other"]
theorem gp:az lZ ["order","turn","one","other"] (ao eQ):=fsc
abbrev sh:List Str:=["order","one","other"]
theorem j8:az sh ["order","one","other"] (ao iN):=fsc
abbrev cS:List Str:=["row"]
theorem gc:az cS ["row"] (ao cM):=fsc
abbrev cN:List Str:=["order","row","many"]
theorem ir:az cN ["order","row"] (ao cO):=fsc
abbrev iJ:List Str:=["mates","counts","begin","end"]
theorem j4:az iJ ["mates","counts","begin","end"] (ao gb):=fsc
abbrev bo:List Str:=["mates","many","counts","length","begin","end"]
theorem dO:az bo ["mates"] (ao bx):=fsc
abbrev ku:List Str:=["counts","row"]
theorem fJ:az ku ["counts","row"] (ao dN):=fsc
abbrev cR:List Str:=["order","row","mates","counts","arcs","stretches","begin","end","mate"]
theorem gm:az cR ["order","row"] (ao cX):=fsc
abbrev e9:List Str:=["marks","row"]
theorem ja:az e9 ["marks","row"] (ao fb):=fsc
abbrev mU:List Str:=["order","row","mark"]
theorem gC:az mU ["order","row","mark"] (ao fo):=fsc
abbrev eZ:List Str:=["order","row","counts","mark","turn"]
theorem i3:az eZ ["order","row"] (ao e8):=fsc
abbrev mn:List Str:=["arcs","many","left","walk","begin","end","place"]
theorem gg:az mn ["arcs","many"] (ao eS):=fsc
abbrev cq:List Str:=["strands","one","other"]
theorem gR:az cq ["strands","one","other"] (ao dv):=fsc
abbrev bI:List Str:=["strands","pairs","other","there","walk","left","right","place"]
theorem gi:az bI ["strands","pairs","other"] (ao cb):=fsc
abbrev bX:List Str:=["arcs","one","other","many","last","strands","pairs"]
theorem jc:az bX ["arcs","one","other"] (ao dD):=fsc
abbrev vi:List Str:=["order","one","other","together","arcs"]
theorem mG:az vi ["order","one","other"] (ao jI):=fsc
abbrev vF:List Str:=["_law_cell"]
theorem lC:az vF ["_law_cell"] (ao jV):=fsc
abbrev v7:List Str:=["_law_script","_law_k","_law_found","_law_cell"]
theorem nH:az v7 ["_law_script","_law_k"] (ao lY):=fsc
abbrev wZ:List Str:=["_law_pack_here","_law_size","_law_digit"]
theorem oz:az wZ ["_law_pack_here","_law_size"] (ao lh):=fsc
noncomputable abbrev vf:List Str:=["_law_pack_here","_law_some"]
theorem lJ:az vf ["_law_pack_here"] (ao jY):=fsc
abbrev jH:List Str:=["_law_pack_here","_law_marks_here","_law_found","_law_k","_law_start"]
theorem ma:az jH ["_law_pack_here","_law_marks_here"] (ao gX):=fsc
noncomputable abbrev uV:List Str:=["_law_order_here","_law_mark","_law_found","_law_k","_law_low","_law_high"]
theorem mJ:az uV ["_law_order_here","_law_mark"] (ao jS):=fsc
abbrev uY:List Str:=["_law_order_here","_law_one","_law_other"]
theorem lV:az uY ["_law_order_here","_law_one","_law_other"] (ao jw):=fsc
abbrev qX:List Str:=["_law_order_here","_law_one","_law_other"]
theorem iY:az qX ["_law_order_here","_law_one","_law_other"] (ao gF):=fsc
abbrev vA:List Str:=["_law_order_here","_law_one","_law_other"]
theorem mD:az vA ["_law_order_here","_law_one","_law_other"] (ao jT):=fsc
abbrev zW:List Str:=["_law_pack_here","_law_marks_here","_law_size","_law_turns","_law_found","_law_k","_law_mark"]
theorem pV:az zW ["_law_pack_here","_law_marks_here","_law_size","_law_turns"] (ao ph):=fsc
abbrev eO:List Str:=["_law_pack_here","_law_order_here","_law_marks_here","_law_row_here","_law_most","_law_way","_law_places","_law_place","_law_sign","_law_some","_law_one","_law_other"]
theorem oi:az eO ["_law_pack_here","_law_order_here","_law_marks_here","_law_row_here","_law_most"] (ao fF):=fsc
abbrev wC:List Str:=["_law_row_here","_law_step_here","_law_place"]
theorem nZ:az wC ["_law_row_here","_law_step_here"] (ao lS):=fsc
abbrev wy:List Str:=["_law_pack_here","_law_order_here","_law_marks_here","_law_row_here","_law_steps","_law_most","_law_walk_here","_law_k","_law_step_here"]
theorem nu:az wy ["_law_pack_here","_law_order_here","_law_marks_here","_law_row_here","_law_steps","_law_most"] (ao mm):=fsc
abbrev yX:List Str:=["_law_order_here","_law_row_here","_law_step_here","_law_place"]
theorem qV:az yX ["_law_order_here","_law_row_here","_law_step_here"] (ao oZ):=fsc
abbrev eE:List Str:=["_law_order_here","_law_row_here","_law_walk_here","_law_end","_law_step_here","_law_words","_law_ranks"]
theorem j6:az eE ["_law_order_here","_law_row_here","_law_walk_here","_law_end"] (ao eP):=fsc
abbrev u4:List Str:=["_law_order_here","_law_row_here","_law_good","_law_size","_law_i","_law_k"]
theorem md:az u4 ["_law_order_here","_law_row_here"] (ao jP):=fsc
abbrev iX:List Str:=["_law_row_here","_law_by"]
theorem oj:az iX ["_law_row_here","_law_by"] (ao i5):=fsc
abbrev dU:List Str:=["_law_order_here","_law_mark"]
theorem iq:az dU ["_law_order_here","_law_mark"] (ao dW):=fsc
abbrev bF:List Str:=["_law_order_here","_law_row_here","_law_pairs","_law_some","_law_pair_here","_law_i","_law_j"]
theorem ka:az bF ["_law_order_here","_law_row_here","_law_pairs"] (ao cG):=fsc
abbrev g9:List Str:=["_law_order_here","_law_row_here","_law_paper","_law_some"]
theorem lD:az g9 ["_law_order_here","_law_row_here","_law_paper"] (ao gZ):=fsc
abbrev wU:List Str:=["_law_digits","_law_order_here","_law_marks_here","_law_one","_law_way","_law_other","_law_at","_law_sign"]
theorem oe:az wU ["_law_digits","_law_order_here","_law_marks_here"] (ao lI):=fsc
abbrev DZ:List Str:=["_law_script","_law_pack_here","_law_marks_here","_law_order_here","_law_cell","_law_one","_law_other","_law_told","_law_both"]
theorem yA:az DZ ["_law_script"] (ao xb):=fsc
structure Txt(mg:Str->Option Value):Prop where
 b_len:mg "len"=none
 b_tuple:mg "tuple"=none
 b_reversed:mg "reversed"=none
 b_range:mg "range"=none
 b_sum:mg "sum"=none
 b_sorted:mg "sorted"=none
 b_list:mg "list"=none
 b_enumerate:mg "enumerate"=none
 b_divmod:mg "divmod"=none
 b_max:mg "max"=none
 b_isinstance:mg "isinstance"=none
 b_all:mg "all"=none
 b_bool:mg "bool"=none
 b_int:mg "int"=none
set_option hygiene false in
local macro_rules|`(tactic| walk_at "rd")=>`(tactic| simp only[De,tV,Az,Eo,yu,AY,FH,AM,dDR,A0,uJ,zI,Bo,ER,wR,eJ,dC,B5,xY,EK,AK,AC,dOp,dUn,lO,EM,wB,A7,dCB,fj,rC,DD,AQ,zf,CT,v8,Ey,EA,dIf,lg,D5,xn,wa,A1,wM,DY,Eb,yy,AR,A6,Dc,zF,xA,sf,uu,BF,AS,dDT,Be,A2,yG,EG,D4,yD,HD.dKr.injEq,AB,Eg,dDc,zQ,HD.dT.injEq,HD.dK.injEq,Ej,Dr,BV,CI,oX,wF,dLc,wq,EC,
 yM,CS,zu,zU,Ad,zb,ze,yJ,BC,zM,Ab,zK,zi,EJ,EY,Dy,Bc,DA,D3,wu,CV,BS,BD,Ca,BY,C1,B6,BE,pz,yi,BW,DP,ua,Ed,EH,CQ,Cv,Dk,D9,DB,xD,yo,xa,wx,E3,Eu,DI,EF,Ea,Dv,DM,D7,EB,zy,vQ,CL,aj,aE,
 fW,List.map_cons,List.map_nil,List.cons_append,List.nil_append,List.length_cons,List.length_nil,List.replicate,List.set_cons_zero,List.set_cons_succ,List.getElem?_cons_zero,List.getElem?_cons_succ,Option.some.injEq,exists_eq_left',exists_eq_left,D.int.injEq,D.bl.injEq,D.str.injEq,D.ref.injEq,D.tup.injEq,D.lst.injEq,true_and,and_true,if_true,decide_eq_true_eq,exists_and_left,Nat.zero_add,Nat.reduceAdd,Nat.reduceSub,DU,DL,yz,ES,HD.lst.injEq,List.cons.injEq,or_true,true_or,and_self,↓reduceIte,Int.reduceLT,Int.reduceLE,Int.reducePow,Int.reduceNeg,Int.reduceToNat,Nat.reducePow,Nat.reduceLT,Nat.reduceLeDiff,Int.reduceAdd,Int.reduceMul,Int.reduceSub,Bool.false_eq_true,Bool.true_eq_false,if_false])
section
variable{P:Program}{w:World}{K:PySem.W.Frag}{mg:Str->Option Value}{base:Heap}{f:Addr}{fd:FuncData}
def aC(x:Str×Str):D:=.tup [.str x.1,.str x.2]
theorem dB{bU:List Str}{v:Int}(h0:0<=v) (h1:v<(bU.length:Int)):∃m∈bU,atI (bU.map D.str) v=some (.str m):=by
 obtain⟨n,rfl⟩:=Int.eq_ofNat_of_zero_le h0;have hn:n<bU.length:=by lia
 exact⟨bU[n],List.getElem_mem hn,du (by simp[hn])⟩
theorem dg{M:DH}{p q:Addr}{a b:HD}(h:p≠q):aw (aw M p a) q b=aw (aw M q b) p a:=by
 funext c;unfold aw
 by_cases h1:c=q
 ·subst h1;simp[Ne.symm h]
 ·by_cases h2:c=p
  ·subst h2;simp[h]
  ·simp[h1,h2]
theorem sD{xs:List D}{n:Nat}:L2.c8 xs none (some (n:Int))=xs.take n:=by
 unfold L2.c8;rw[HT.sIx_none,HT.sIx_nat,List.drop_zero,Nat.sub_zero]
 by_cases h:n<=xs.length
 ·rw[Nat.min_eq_left h]
 ·rw[Nat.min_eq_right (by lia),List.take_length,List.take_of_length_le (by lia)]
theorem qE{xs:List D}{n:Nat}:L2.c8 xs (some (n:Int)) none=xs.drop n:=by
 unfold L2.c8;rw[HT.sIx_none,HT.sIx_nat]
 by_cases h:n<=xs.length
 ·rw[Nat.min_eq_left h,List.take_of_length_le (by simp)]
 ·rw[Nat.min_eq_right (by lia),Nat.sub_self,List.take_zero,List.drop_of_length_le (by lia)]
theorem BP{ws:List Str}{n:Nat}:slE (.lst (ws.map .str)) none (some (n:Int))=some (.lst ((ws.take n).map .str)):=by rw[ua,sD,List.map_take]
theorem bS{lo:Int}{n:Nat}:(ie lo n).length=n:=by simp[ie]
section
variable{σ:Type}
noncomputable def iK:List σ->List (List σ×σ×List σ)
 |[]=>[]
 |y::ys=>([],y,ys)::(iK ys).map fun c=>(y::c.1,c.2.1,c.2.2)
theorem eN{xs:List σ}:∀{c:List σ×σ×List σ},c∈iK xs->c.1.length+c.2.2.length+1=xs.length:=by
 induction xs with
 |nil=>intro c h;cases h
 |cons y ys ih =>
  intro c h;rcases List.mem_cons.mp h with rfl|h
  ·simp
  ·obtain⟨d,hd,rfl⟩:=List.mem_map.mp h;have:=ih hd;simp;lia
theorem gT(xs ys:List σ):iK (xs++ys)=((iK xs).map fun c=>(c.1,c.2.1,c.2.2++ys))++(iK ys).map fun c=>(xs++c.1,c.2.1,c.2.2):=by
 induction xs with
 |nil=>simp[iK]
 |cons x xs ih=>simp[iK,ih,List.map_map,Function.comp_def]
def Wf(R:σ->σ->Bool):Nat->List σ->Nat
 |_,[]=>1
 |0,_::_=>0
 |k+1,x::xs=>((iK xs).map fun c=>if R x c.2.1 then Wf R k c.1*Wf R k c.2.2 else 0).sum
def W(R:σ->σ->Bool) (xs:List σ):Nat:=Wf R xs.length xs
theorem AX{R:σ->σ->Bool}:∀{k:Nat}{xs:List σ},xs.length<=k->Wf R k xs=W R xs:=by
 have key:∀(n k j:Nat) (xs:List σ),xs.length<=n->xs.length<=k->xs.length<=j->Wf R k xs=Wf R j xs:=by
  intro n
  induction n with
  |zero =>
   intro k j xs h _ _;have:xs=[]:=List.eq_nil_of_length_eq_zero (by lia);subst this;simp[Wf]
  |succ n ih =>
   intro k j xs h hk hj;cases xs with
   |nil=>simp[Wf]
   |cons x xs =>
    simp only[List.length_cons]at h hk hj;obtain⟨k,rfl⟩:∃m,k=m+1:=⟨k-1,by lia⟩;obtain⟨j,rfl⟩:∃m,j=m+1:=⟨j-1,by lia⟩;simp only[Wf];congr 1;apply List.map_congr_left;intro c hc;have:=eN hc;rw[ih k j c.1 (by lia) (by lia) (by lia),ih k j c.2.2 (by lia) (by lia) (by lia)]
 intro k xs h;exact key k k xs.length xs h h (Nat.le_refl _)
theorem il{R:σ->σ->Bool}:W R []=1:=by simp[W,Wf]
theorem fQ{R:σ->σ->Bool}{x:σ}{xs:List σ}:W R (x::xs)=((iK xs).map fun c=>if R x c.2.1 then W R c.1*W R c.2.2 else 0).sum:=by
 show Wf R (xs.length+1) (x::xs)=_;simp only[Wf];congr 1;apply List.map_congr_left;intro c hc;have:=eN hc;rw[AX (by lia),AX (by lia)]
theorem pE{α:Type}{f g:α->Nat}:∀{l:List α},(∀x∈l,f x<=g x)->(l.map f).sum<=(l.map g).sum
 |[],_=>by simp
 |x::l,h=>by
  simp only[List.map_cons,List.sum_cons];exact Nat.add_le_add (h x (.head _)) (pE fun y hy=>h y (.tail _ hy))
theorem me{α:Type}{f:α->Nat}{m:Nat}:∀{l:List α},(l.map f).sum*m=(l.map fun x=>f x*m).sum
 |[]=>by simp
 |x::l=>by simp only[List.map_cons,List.sum_cons,Nat.add_mul,me (l:=l)]
theorem qB{α:Type}{f:α->Nat}{m:Nat}:∀{l:List α},m*(l.map f).sum=(l.map fun x=>m*f x).sum
 |[]=>by simp
 |x::l=>by simp only[List.map_cons,List.sum_cons,Nat.mul_add,qB (l:=l)]
theorem iQ{α:Type}{f:α->Nat}:∀{l:List α},(∀x∈l,f x=0)->(l.map f).sum=0
 |[],_=>by simp
 |x::l,h=>by
  simp only[List.map_cons,List.sum_cons,h x (.head _),iQ fun y hy=>h y (.tail _ hy)]
theorem FS{R:σ->σ->Bool}(ys:List σ):∀(n:Nat) (as bs:List σ),as.length+bs.length<=n->W R (as++bs)*W R ys<=W R (as++(ys++bs)):=by
 intro n
 induction n with
 |zero =>
  intro as bs h;have h1:as=[]:=List.eq_nil_of_length_eq_zero (by lia);have h2:bs=[]:=List.eq_nil_of_length_eq_zero (by lia);subst h1;subst h2;simp[il]
 |succ n ih =>
  intro as bs h;cases as with
  |nil =>
   -- behind the other
   have key:∀(m:Nat) (zs:List σ),zs.length<=m->W R bs*W R zs<=W R (zs++bs):=by
    intro m
    induction m with
    |zero =>
     intro zs hz;have:zs=[]:=List.eq_nil_of_length_eq_zero (by lia);subst this;simp[il]
    |succ m ihm =>
     intro zs hz;cases zs with
     |nil=>simp[il]
     |cons z zs =>
      simp only[List.length_cons]at hz;rw[List.cons_append,fQ,fQ,gT,List.map_append,List.sum_append,List.map_map,qB];refine Nat.le_trans (pE fun c hc=>?_) (Nat.le_add_right _ _);have:=eN hc;simp only[Function.comp_def]
      by_cases e:R z c.2.1=true
      ·rw[if_pos e,if_pos e];have:=ihm c.2.2 (by lia)
       calc W R bs*(W R c.1*W R c.2.2)=W R c.1*(W R bs*W R c.2.2):=by rw[Nat.mul_left_comm]
        _<=W R c.1*W R (c.2.2++bs):=Nat.mul_le_mul_left _ this
      ·rw[if_neg e];simp
   simpa using key ys.length ys (Nat.le_refl _)
  |cons a as =>
   simp only[List.length_cons]at h;rw[List.cons_append,List.cons_append,fQ,fQ,gT,gT,gT,List.map_append,List.map_append,List.sum_append,List.sum_append,List.map_append,List.map_append,List.sum_append,Nat.add_mul];refine Nat.add_le_add ?_ (Nat.le_trans ?_ (Nat.le_add_left _ _))
   ·rw[List.map_map,List.map_map,me];refine pE fun c hc=>?_;have:=eN hc;simp only[Function.comp_def]
    by_cases e:R a c.2.1=true
    ·rw[if_pos e,if_pos e,Nat.mul_assoc];exact Nat.mul_le_mul_left _ (ih c.2.2 bs (by lia))
    ·rw[if_neg e];simp
   ·rw[List.map_map,List.map_map,List.map_map,me];refine pE fun c hc=>?_;have:=eN hc;simp only[Function.comp_def]
    by_cases e:R a c.2.1=true
    ·rw[if_pos e,if_pos e,Nat.mul_right_comm];exact Nat.mul_le_mul_right _ (ih as c.1 (by lia))
    ·rw[if_neg e];simp
theorem uA{R:σ->σ->Bool}:∀(n:Nat) (xs:List σ),xs.length<=n->xs.length % 2=1->W R xs=0:=by
 intro n
 induction n with
 |zero=>intro xs h o;lia
 |succ n ih =>
  intro xs h o;cases xs with
  |nil=>simp at o
  |cons x xs =>
   simp only[List.length_cons]at h o;rw[fQ];refine iQ fun c hc=>?_;have:=eN hc
   by_cases e:c.1.length % 2=1
   ·rw[ih c.1 (by lia) e];simp
   ·rw[ih c.2.2 (by lia) (by lia)];simp
theorem nS{α:Type}{f:α->Nat}{m:Nat}:∀{l:List α},(∀x∈l,f x<=m)->(l.map f).sum<=l.length*m
 |[],_=>by simp
 |x::l,h=>by
  simp only[List.map_cons,List.sum_cons,List.length_cons,Nat.add_mul,Nat.one_mul];have:=nS (l:=l) fun y hy=>h y (.tail _ hy);have:=h x (.head _)
  lia
theorem qk{xs:List σ}:(iK xs).length=xs.length:=by
 induction xs with
 |nil=>rfl
 |cons x xs ih=>simp[iK,ih]
theorem DT{R:σ->σ->Bool}:∀(n:Nat) (xs:List σ),xs.length<=n->n<=100->W R xs<=100 ^ xs.length:=by
 intro n
 induction n with
 |zero =>
  intro xs h _;have:xs=[]:=List.eq_nil_of_length_eq_zero (by lia);subst this;simp[il]
 |succ n ih =>
  intro xs h hn;cases xs with
  |nil=>simp[il]
  |cons x xs =>
   simp only[List.length_cons]at h ⊢;rw[fQ];refine Nat.le_trans (nS (m:=100 ^ xs.length) fun c hc=>?_) ?_
   ·have:=eN hc
    by_cases e:R x c.2.1=true
    ·rw[if_pos e];refine Nat.le_trans (Nat.mul_le_mul (ih c.1 (by lia) (by lia)) (ih c.2.2 (by lia) (by lia))) ?_;rw[<-Nat.pow_add];exact Nat.pow_le_pow_right (by decide) (by lia)
    ·rw[if_neg e];exact Nat.zero_le _
   ·rw[qk,Nat.pow_succ,Nat.mul_comm];exact Nat.mul_le_mul_left _ (by lia)
end
inductive bV (ord:List (Str×Str)) (a:Str):Str->Prop
 |refl:bV ord a a
 |step {b c:Str}:bV ord a b->(b,c)∈ord->bV ord a c
theorem jq{ord:List (Str×Str)}{a x:Str}{L:List Str}(h0:a∈L) (hc:∀y∈ord,y.1∈L->y.2∈L) (h:bV ord a x):x∈L:=by
 induction h with
 |refl=>exact h0
 |step _ hm ih=>exact hc _ hm ih
def di:SpD:=fun ds M R=>∃(ord:List (Str×Str)) (a:Str),ds=[.tup (ord.map aC),.str a]/\ord.length<=500 /\
 ∀L:List Str,a∈L->(∀y∈ord,y.1∈L->y.2∈L)->(∀x∈L,bV ord a x)->L.length<=ord.length+1->R (.lst (L.map .str)) M
abbrev tIn:TSd:=B5 (wB (lO (dOp eqF (eJ 4) (dOp ixD (eJ 2) (eJ 3)))) (lO (dOp (inE true) (eJ 5) (eJ 2)))) (v8 (CT (eJ 2) (eJ 5))) xY
theorem hV{q:Addr}{E:gn}{M:DH}(hq:M q=none) (ps:D) (a:Str) (ord:List (Str×Str)) (hord:ord.length<=500) (i:Nat) (L0:List Str) (hi:i<L0.length):∀(todo done:List (Str×Str)) (x4 x5:Option D) (L:List Str),ord=done++todo->(∃t,L=L0++t)->L.Nodup->(∀x∈L,bV ord a x)->(∀x∈L,x∈a::ord.map (·.2))->(∀y∈done,y.1=L0[i]->y.2∈L) ->
  (∀(y4 y5:Option D) (L':List Str),(∃t,L'=L0++t)->L'.Nodup->(∀x∈L',bV ord a x)->(∀x∈L',x∈a::ord.map (·.2))->(∀y∈ord,y.1=L0[i]->y.2∈L')->E.nx [some ps,some (.str a),some (.ref q),some (.int i),y4,y5] (aw M q (.lst (L'.map .str)))) ->
  df (jh (fm (bL 4) (fm (bL 5) lM)) 2) tIn E (todo.map aC) [some ps,some (.str a),some (.ref q),some (.int i),x4,x5] (aw M q (.lst (L.map .str)))
 |[],done,x4,x5,L,ho,ht,hn,hs,hb,hd,k=>by
  simp only[List.map_nil,df];exact k x4 x5 L ht hn hs hb (by rw[ho,List.append_nil];exact hd)
 |(b,c)::todo,done,x4,x5,L,ho,⟨t,ht⟩,hn,hs,hb,hd,k=>by
  have hiL:i<L.length:=by rw[ht];simp;lia
  have eL:L[i]=L0[i]:=by subst ht;simp[hi]
  have eat:atI (L.map D.str) (i:Int)=some (.str L[i]):=du (by simp[hiL]);have bG:L.length<=ord.length+1:=by
   have:=dh L (a::ord.map (·.2)) hn hb;simpa using this
  simp only[List.map_cons,aC,df,jh,fm,bL,lM,Option.bind_some];refine⟨_,rfl,?_⟩;walk_at "rd";refine⟨_,eat,?_⟩;walk_at "rd";have ho':ord=(done++[(b,c)])++todo:=by rw[ho];simp
  have hmem:(b,c)∈ord:=by rw[ho];simp
  refine cE (fun h=>?_) (fun h=>?_)
  ·have hbe:b=L0[i]:=by rw[<-eL];simpa using h
   refine⟨_,if_pos ⟨rfl,dA⟩,_,rfl,?_⟩;rw[cW]
   by_cases hc:c∈L
   ·simp only[hc,decide_true,Bool.xor_true,Bool.not_true,Bool.false_eq_true,if_false];exact hV hq ps a ord hord i L0 hi todo (done++[(b,c)]) _ _ L ho' ⟨t,ht⟩ hn hs hb (fun y hy hy1=>by
     rcases List.mem_append.mp hy with h|h
     ·exact hd y h hy1
     ·have:y=(b,c):=by simpa using h
      subst this;exact hc) k
   ·simp only[hc,decide_false,Bool.xor_false,if_true];refine⟨by rw[List.length_map];exact Nat.lt_of_lt_of_le (by lia:L.length<1000) (sz3 1000),?_⟩;have ea:L.map D.str++[D.str c]=(L++[c]).map D.str:=by simp
    rw[ea];refine hV hq ps a ord hord i L0 hi todo (done++[(b,c)]) _ _ (L++[c]) ho' ⟨t++[c],by rw[ht];simp⟩ ?_ (fun x hx=>?_) (fun x hx=>?_) (fun y hy hy1=>?_) k
    ·rw[List.nodup_append];refine⟨hn,by simp,fun u hu v hv=>?_⟩;have:v=c:=by simpa using hv
     subst this;rintro rfl;exact hc hu
    ·rcases List.mem_append.mp hx with h|h
     ·exact hs x h
     ·have:x=c:=by simpa using h
      subst this;exact bV.step (hs b (by rw[hbe,<-eL];exact List.getElem_mem hiL)) hmem
    ·rcases List.mem_append.mp hx with h|h
     ·exact hb x h
     ·have:x=c:=by simpa using h
      subst this;exact List.mem_cons_of_mem _ (List.mem_map.mpr ⟨_,hmem,rfl⟩)
    ·rcases List.mem_append.mp hy with h|h
     ·exact List.mem_append_left _ (hd y h hy1)
     ·have:y=(b,c):=by simpa using h
      subst this;simp
  ·exact hV hq ps a ord hord i L0 hi todo (done++[(b,c)]) _ _ L ho' ⟨t,ht⟩ hn hs hb (fun y hy hy1=>by
    rcases List.mem_append.mp hy with h'|h'
    ·exact hd y h' hy1
    ·have:y=(b,c):=by simpa using h'
     subst this;exact absurd (by rw[eL];simpa using hy1) h) k
theorem iV(F:Fun K "reached_from" "reached_from" dm f fd) (T:Txt mg) :bj P w K mg base CX0 1 f fd ["pairs","mark"] (spD K 2 di):=by
 have nd:=eX.nd;refine F.okR rfl eX (fun cdv A outer s H E hr=>⟨_,(ai (aO (i:=2) nd rfl (Or.inl rfl) (dM (ae (af 1) ah)))
   (ai (aO (i:=3) nd rfl (Or.inl rfl) ak)
   (ai (uS PassesOwn.never (aF nh (af 3) (ax a7 rfl T.b_len (by kernel_rfl) (ae (af 2) ah)) nbh) (ai (cP PassesOwn.never rfl (bp (af 0)) (j7 rfl (cm (bg (i:=4) nd rfl (Or.inl rfl)) (cm (bg (i:=5) nd rfl (Or.inl rfl)) kh))) (au (bh (fZ (eK (aF (ft hr.units) (af 4) (aH aI (af 2) (af 3) (fun _ _=>rfl)) nbh) (eV (aF rg (af 5) (af 2) rfl)))) (au (dH (ix (af 2) (af 5)))) aV)))
   (au (Ei (i:=3) nd rfl (Or.inl rfl) ak Cm))))
   (au (xQ (af 2)))))),fun ds M R _ hS bk=>?_⟩)
 obtain⟨ord,a,rfl,ho,k⟩:=hS;refine bk ?_;clear bk;walk_at "rd";refine⟨sz3 1,fun q hq=>?_⟩;refine⟨fun m Δ M'=>∃(i:Nat) (L:List Str) (x4 x5:Option D),Δ=[some (D.tup (ord.map aC)),some (D.str a),some (D.ref q),some (D.int i),x4,x5]/\M'=aw M q (.lst (L.map .str))/\i<=L.length/\L.Nodup/\a∈L/\(∀x∈L,bV ord a x)/\(∀x∈L,x∈a::ord.map (·.2))/\(∀y∈ord,∀j,j<i->L[j]?=some y.1->y.2∈L)/\m=ord.length+1-i,
  ⟨_,0,[a],none,none,rfl,rfl,Nat.zero_le _,by simp,by simp,fun x hx=>by
   have:x=a:=by simpa using hx
   subst this;exact bV.refl,fun x hx=>by
   have:x=a:=by simpa using hx
   subst this;simp,fun y _ j hj=>absurd hj (by lia),rfl⟩,?_⟩
 intro m Δ M' hI;refine shr fun _ bk=>?_;obtain⟨i,L,x4,x5,rfl,rfl,hiL,hn,ha,hs,hb,hp,rfl⟩:=hI;refine bk ?_;clear bk;have bG:L.length<=ord.length+1:=by
  have:=dh L (a::ord.map (·.2)) hn hb;simpa using this
 walk_at "rd";rw[List.length_map];refine cE (fun h=>?_) (fun h=>?_)
 ·have hi:i<L.length:=by lia
  intro hz;refine hV hq _ a ord ho i L hi ord [] x4 x5 L rfl ⟨[],by simp⟩ hn hs hb (fun y hy=>absurd hy (by simp)) (fun y4 y5 L' hL' hn' hs' hb' hd'=>?_);obtain⟨t,rfl⟩:=hL';walk_at "rd";refine⟨ord.length+1-(i+1),by lia,i+1,L++t,y4,y5,?_,rfl,by simp;lia,hn',List.mem_append_left _ ha,hs',hb',fun y hy j hj hjy=>?_,rfl⟩
  ·simp
  ·by_cases hji:j=i
   ·subst hji;refine hd' y hy ?_;rw[List.getElem?_append_left hi,List.getElem?_eq_getElem hi]at hjy;exact(Option.some.inj hjy).symm
   ·rw[List.getElem?_append_left (by lia)]at hjy;exact List.mem_append_left _ (hp y hy j (by lia) hjy)
 ·rw[lU hq];refine k L ha (fun y hy hy1=>?_) hs bG;obtain⟨j,hj,e⟩:=List.mem_iff_getElem.mp hy1;exact hp y hy j (by lia) (by rw[List.getElem?_eq_getElem hj,e])
def aq(x:Str×Int):D:=.tup [.str x.1,.int x.2]
theorem kR{α:Type}{f:α->D}(hf:∀x y,f x=f y->x=y):∀{xs ys:List α},xs.map f=ys.map f->xs=ys
 |[],[],_=>rfl
 |[],_::_,h=>by simp at h
 |_::_,[],h=>by simp at h
 |x::xs,y::ys,h=>by
  simp only[List.map_cons,List.cons.injEq]at h;rw[hf _ _ h.1,kR hf h.2]
theorem jQ:∀x y,aC x=aC y->x=y:=fun⟨a,b⟩ ⟨c,d⟩ h=>by simpa[aC]using h
def mM(ord:List (Str×Str)) (t:Int) (a b:Str):Prop:=if t % 2=0 then bV ord a b else bV ord b a
open Classical in
def rB(ord:List (Str×Str)) (a b:Str):Bool:=decide (bV ord a b)
open Classical in
def lB(ord:List (Str×Str)) (t:Int) (a b:Str):Bool:=decide (mM ord t a b)
theorem jF{ord:List (Str×Str)}{a b:Str}:rB ord a b=true↔bV ord a b:=by simp[rB]
theorem k8{ord:List (Str×Str)}{t:Int}{a b:Str}:lB ord t a b=true↔mM ord t a b:=by simp[lB]
theorem tH{ord:List (Str×Str)}{t:Int}{a b:Str}(h:t % 2=0):lB ord t a b=rB ord a b:=by rw[Bool.eq_iff_iff,k8,jF,mM,if_pos h]
theorem xw{ord:List (Str×Str)}{t:Int}{a b:Str}(h:¬ t % 2=0):lB ord t a b=rB ord b a:=by rw[Bool.eq_iff_iff,k8,jF,mM,if_neg h]
def gP:SpD:=fun ds M R=>∃(ord:List (Str×Str)) (a b:Str),ds=[.tup (ord.map aC),.str a,.str b]/\ord.length<=500/\R (.bl (rB ord a b)) M
def eM:SpD:=fun ds M R=>∃(ord:List (Str×Str)) (t:Int) (a b:Str),ds=[.tup (ord.map aC),.int t,.str a,.str b]/\ord.length<=500/\R (.bl (lB ord t a b)) M
def fO:SpD:=fun ds M R=>∃(ord:List (Str×Str)) (x y:Str×Int),ds=[.tup (ord.map aC),aq x,aq y]/\ord.length<=500/\R (.bl (x.2+1==y.2&&lB ord x.2 x.1 y.1)) M
theorem mT{ord:List (Str×Str)}{a b:Str}{M:DH}{R:D->DH->Prop}:gP [.tup (ord.map aC),.str a,.str b] M R↔ord.length<=500/\R (.bl (rB ord a b)) M :=
 ⟨fun⟨o,c,d,e,h1,h2⟩=>by
  simp only[List.cons.injEq,D.tup.injEq,D.str.injEq,and_true]at e;obtain⟨e1,e2,e3⟩:=e;rw[kR jQ e1,e2,e3];exact⟨h1,h2⟩,fun h=>⟨ord,a,b,rfl,h⟩⟩
theorem jR{ord:List (Str×Str)}{t:Int}{a b:Str}{M:DH}{R:D->DH->Prop}:eM [.tup (ord.map aC),.int t,.str a,.str b] M R↔ord.length<=500/\R (.bl (lB ord t a b)) M :=
 ⟨fun⟨o,u,c,d,e,h1,h2⟩=>by
  simp only[List.cons.injEq,D.tup.injEq,D.str.injEq,D.int.injEq,and_true]at e;obtain⟨e1,e0,e2,e3⟩:=e;rw[kR jQ e1,e0,e2,e3];exact⟨h1,h2⟩,fun h=>⟨ord,t,a,b,rfl,h⟩⟩
theorem oQ{ord:List (Str×Str)}{a b:Str}{t u:Int}{M:DH}{R:D->DH->Prop}:fO [.tup (ord.map aC),.tup [.str a,.int t],.tup [.str b,.int u]] M R↔ord.length<=500/\R (.bl (t+1==u&&lB ord t a b)) M :=
 ⟨fun⟨o,⟨c,v⟩,⟨d,w⟩,e,h1,h2⟩=>by
  simp only[aq,List.cons.injEq,D.tup.injEq,D.str.injEq,D.int.injEq,and_true]at e;obtain⟨e1,⟨e2,e3⟩,e4,e5⟩:=e;rw[kR jQ e1,e2,e3,e4,e5];exact⟨h1,h2⟩,fun h=>⟨ord,(a,t),(b,u),rfl,h⟩⟩
theorem oG(F:Fun K "at_most" "at_most" gJ f fd) (T:Txt mg) (G5:FnD P w K mg base "reached_from" 1 2 di):bj P w K mg base CX0 2 f fd ["order","one","other"] (spD K 3 gP):=by
 have nd:=i8.nd;refine F.okR rfl i8 (fun cdv A outer s H E hr=>⟨_,(au (aS (gh my (af 2) (qd G5 hr (ae (af 0) (ae (af 1) ah))) rfl))),fun ds M R _ hS bk=>?_⟩);obtain⟨ord,a,b,rfl,ho,k⟩:=hS;refine bk ?_;clear bk;walk_at "rd";refine⟨ord,a,rfl,ho,fun L h1 h2 h3 h4=>?_⟩;refine⟨_,if_pos ⟨rfl,dA⟩,?_⟩;rw[cW];have e:(false ^^ decide (b∈L))=rB ord a b:=by
  rw[Bool.false_xor,Bool.eq_iff_iff,jF,decide_eq_true_eq];exact⟨fun h=>h3 b h,fun h=>jq h1 h2 h⟩
 rw[e];exact k
theorem kG(F:Fun K "mark_leads" "mark_leads" eQ f fd) (T:Txt mg) (Y9:FnD P w K mg base "at_most" 2 3 gP):bj P w K mg base CX0 3 f fd ["order","turn","one","other"] (spD K 4 eM):=by
 have nd:=gp.nd;refine F.okR rfl gp (fun cdv A outer s H E hr=>⟨_,(ai (bh (aF (ft hr.units) (aP qQ (af 1) ak) ak nbh) (au (aS (qd Y9 hr (ae (af 0) (ae (af 2) (ae (af 3) ah)))))) aV)
   (au (aS (qd Y9 hr (ae (af 0) (ae (af 3) (ae (af 2) ah))))))),fun ds M R _ hS bk=>?_⟩)
 obtain⟨ord,t,a,b,rfl,ho,k⟩:=hS;refine bk ?_;clear bk;walk_at "rd";simp only[mT];refine cE (fun h=>?_) (fun h=>?_)
 ·have h':t % 2=0:=by simpa using h
  rw[tH h']at k;exact⟨ho,k⟩
 ·have h':¬ t % 2=0:=by simpa using h
  rw[xw h']at k;exact⟨ho,k⟩
theorem qO(F:Fun K "cancel" "cancel" iN f fd) (T:Txt mg) (Y7:FnD P w K mg base "mark_leads" 3 4 eM):bj P w K mg base CX0 4 f fd ["order","one","other"] (spD K 3 fO):=by
 have nd:=j8.nd;refine F.okR rfl j8 (fun cdv A outer s H E hr=>⟨_,(au (aS (lW (gh (ft hr.units) (aP aM (aH aI (af 1) ak (fun _ _=>rfl)) ak) (aH aI (af 2) ak (fun _ _=>rfl)) nbh) (oy (qd Y7 hr (ae (af 0) (ae (aH aI (af 1) ak (fun _ _=>rfl)) (ae (aH aI (af 1) ak (fun _ _=>rfl)) (ae (aH aI (af 2) ak (fun _ _=>rfl)) ah))))))))),fun ds M R _ hS bk=>?_⟩);obtain⟨ord,⟨a,t⟩,⟨b,u⟩,rfl,ho,k⟩:=hS;refine bk ?_;clear bk;simp only[aq];walk_at "rd";simp only[jR];refine cE (fun h=>?_) (fun h=>?_)
 ·simp only[h,Bool.true_and]at k;exact⟨ho,k⟩
 ·simp only[h,Bool.false_and]at k;exact k
theorem tF{ord:List (Str×Str)}{t:Int}{a:Str}:lB ord t a a=true:=by
 rw[k8,mM];split<;>exact bV.refl
theorem Ay{ord:List (Str×Str)}{t u:Int}{a b:Str}(h:¬ t % 2=u % 2):lB ord t a b=lB ord u b a:=by
 rw[Bool.eq_iff_iff,k8,k8,mM,mM]
 by_cases h1:t % 2=0
 ·have h2:¬ u % 2=0:=by lia
  rw[if_pos h1,if_neg h2]
 ·have h2:u % 2=0:=by lia
  rw[if_neg h1,if_pos h2]
theorem aQ{α:Type}{g:GD}{tc:TTd}{te:TEd}{M:DH}{Q:List D->DH->Prop}(enc:α->D) (b:α->Bool) (y:α->D) (Ok:DE->Prop):∀(xs:List α) (Δ:DE) (acc:List D),
  (∀x∈xs,∀ Δ,Ok Δ->∃ Δ',g (enc x) Δ=some Δ'/\Ok Δ'/\(∀Q1:Bool->DH->Prop,Q1 (b x) M->tc Δ' M Q1)/\(b x=true->∀Q2:D->DH->Prop,Q2 (y x) M->te Δ' M Q2))->Ok Δ ->
  Q (acc++(xs.filter b).map y) M->cJ g tc te (xs.map enc) Δ M acc Q
 |[],Δ,acc,_,_,q=>by simpa[cJ]using q
 |x::xs,Δ,acc,h,hΔ,q=>by
  rw[List.map_cons];simp only[cJ];obtain⟨Δ',e,hΔ',h1,h2⟩:=h x (.head _) Δ hΔ;refine⟨Δ',e,h1 _ ?_⟩;have ih:=fun acc' q'=>aQ (Q:=Q) enc b y Ok xs Δ' acc' (fun z hz=>h z (.tail _ hz)) hΔ' q';cases hb:b x with
  |true =>
   simp only[if_true];refine h2 hb _ (ih _ ?_);rw[List.filter_cons_of_pos hb]at q;simpa using q
  |false =>
   simp only[Bool.false_eq_true,if_false];refine ih _ ?_;rw[List.filter_cons_of_neg (by simp[hb])]at q;exact q
theorem tK{α:Type} [DecidableEq α] (f:α->D) (hf:∀x y,eqD (f x) (f y)=decide (x=y)):∀{a b:List α},cw (a.map f) (b.map f)=decide (a=b)
 |[],[]=>by simp[cw]
 |[],_::_=>by simp[cw]
 |_::_,[]=>by simp[cw]
 |x::a,y::b=>by
  rw[List.map_cons,List.map_cons,cw,tK f hf (a:=a) (b:=b),hf];simp
theorem qS{α:Type}(f:α->D) (hf:∀x,dLe (f x) 59=true) {a:List α}:cK (a.map f) 59=true:=by
 rw[fD];intro d hd;obtain⟨x,_,rfl⟩:=List.mem_map.mp hd;exact hf x
def cB(ord:List (Str×Str)) (x y:Str×Int):Bool:=x.2+1==y.2&&lB ord x.2 x.1 y.1
theorem pU{ord:List (Str×Str)}{x y:Str×Int}{M:DH}{R:D->DH->Prop}:fO [.tup (ord.map aC),aq x,aq y] M R↔ord.length<=500/\R (.bl (cB ord x y)) M:=oQ (a:=x.1) (b:=y.1) (t:=x.2) (u:=y.2)
def sg(row:List (Str×Int)) (i:Nat):Str×Int:=row.getD i ("",0)
theorem gW{row:List (Str×Int)}{i:Nat}(h:i<row.length):atI (row.map aq) (i:Int)=some (aq (sg row i)):=by
 refine du ?_;rw[List.getElem?_map,List.getElem?_eq_getElem h];simp[sg,h]
def stD(s:Nat×Nat):D:=.tup [.int (s.1:Int),.int (s.2:Int)]
def stI(s:Nat×Nat):Int×Int:=((s.1:Int),(s.2:Int))
theorem ub(l:List (Nat×Nat)) (h64:l.length<64):∃L:List (Nat×Nat),j5 (.lst (l.map stD))=some (.lst (L.map stD))/\L.Perm l/\L.Pairwise fun a b=>a.1<=b.1:=by
 have e0:l.map stD=(l.map stI).map pD:=by rw[List.map_map];rfl
 obtain⟨L,p,e⟩:=jk (iL (l.map stI)) l rfl;have h:=lX (l.map stI);rw[e,List.pairwise_map]at h;refine⟨L,by rw[e0,ut (by rw[List.length_map];exact h64),e,List.map_map];rfl,p,h.imp fun {a b} z=>?_⟩;rcases Nat.lt_or_ge b.1 a.1 with y|y
 ·have:ltP (stI b) (stI a)=true:=by
   simp[ltP,stI]
   lia
  simp[leP,this]at z
 ·exact y
structure ig(R:Str×Int->Str×Int->Bool) (row:List (Str×Int)) (arcs:List (Nat×Nat)):Prop where
 len:2*arcs.length=row.length
 arc:∀a∈arcs,a.1<a.2/\a.2<row.length/\R (sg row a.1) (sg row a.2)=true
 pw:arcs.Pairwise fun a b=>a.1<b.1/\b.1≠a.2/\b.2≠a.2/\¬ (b.1<a.2/\a.2<b.2)
def o6(n i:Nat):List Nat:=(List.range ((n-i) / 2)).map fun k=>i+1+2*k
def mts(R:Str×Int->Str×Int->Bool) (row:List (Str×Int)) (i:Nat):List Nat:=(o6 row.length i).filter fun m=>R (sg row i) (sg row m)
def kc(l:List Nat):D:=.lst (l.map fun(m:Nat)=>D.int (m:Int))
def vz(ms:List (List Nat)):D:=.lst (ms.map kc)
def fL:SpD:=fun ds M R=>∃(ord:List (Str×Str)) (row:List (Str×Int)),ds=[.tup (ord.map aC),.tup (row.map aq)]/\ord.length<=500/\row.length<=24/\R (vz ((List.range row.length).map (mts (cB ord) row))) M
theorem Ag{n i m:Nat}(h:m∈o6 n i):m<n:=by
 unfold o6 at h;obtain⟨k,hk,rfl⟩:=List.mem_map.mp h;have:=List.mem_range.mp hk
 lia
theorem Fy{i n:Nat}(h:i<n):szR ((i:Int)+1) n 2=(n-i) / 2:=by
 unfold szR Builtin.Range.rangeSize;simp
 lia
theorem vP{i n:Nat}(h:i<n):oR ((i:Int)+1) 2 (szR ((i:Int)+1) n 2)=(o6 n i).map fun(m:Nat)=>D.int (m:Int):=by
 rw[Fy h];unfold oR o6;rw[List.map_map];apply List.map_congr_left;intro k _;simp;lia
theorem m6(F:Fun K "mates_in" "mates_in" cO f fd) (T:Txt mg) (G8:FnD P w K mg base "cancel" 4 3 fO):bj P w K mg base CX0 5 f fd ["order","row"] (spD K 2 fL):=by
 have nd:=ir.nd;refine F.okR rfl ir (fun cdv A outer s H E hr=>⟨_,(ai (aO (i:=2) nd rfl (Or.inr rfl) (ax a7 rfl T.b_len (by kernel_rfl) (ae (af 1) ah)))
   (au (aS (D0 (ms:=[true,true,true]) (am:=["at"]) (rM rfl (show gA (ao cO) cN _ _=true from by decide +kernel)) rfl (cz rfl T.b_range (ae (af 2) ah)) (wz (i:=3) (show(cN++_).Nodup from by decide +kernel) rfl rfl rfl) (fun S _ _ _ _=>dY) (fun S _ _ _ _=>(gK (ms:=[true,true,false,true]) (am:=["mate"]) (va S (show aR (lr _ (ao cO)) (cN++(["at"]:List Str)) _ _=true from by decide +kernel)) rfl (uL rfl T.b_range (ae (aP aM (af 3) ak) (ae (af 2) (ae ak ah)))) (aD (i:=4) (show((cN++(["at"]:List Str))++_).Nodup from by decide +kernel) rfl rfl) (fun _ _ _ _=>(cI (bt (qd G8 hr (ae (af 0) (ae (aH aI (af 1) (af 3) (fun _ _=>rfl)) (ae (aH aI (af 1) (af 4) (fun _ _=>rfl)) ah))))))) (fun _ _ _ _=>(af 4)))))))),fun ds M R _ hS bk=>?_⟩)
 obtain⟨ord,row,rfl,ho,hl,k⟩:=hS;refine bk ?_;clear bk;walk_at "rd";rw[List.length_map];have hl':(ie 0 (row.length:Int).toNat)=(List.range row.length).map fun(k:Nat)=>D.int (0+(k:Int)):=rfl;rw[hl'];refine⟨by lia,by lia,by rw[List.length_map,List.length_range];exact sz3 _ (by lia),?_⟩;refine aQ (fun(k:Nat)=>D.int (0+(k:Int))) (fun _=>true) (fun i=>kc (mts (cB ord) row i)) (fun Δ=>∃x,Δ=[some (D.tup (ord.map aC)),some (D.tup (row.map aq)),some (D.int row.length),x]) _ _ _ (fun i hi Δ hΔ=>?_) ⟨none,rfl⟩ ?_
 ·obtain⟨x,rfl⟩:=hΔ;have hi':=List.mem_range.mp hi;refine⟨_,rfl,⟨_,rfl⟩,fun Q1 q=>q,fun _ Q2 q=>?_⟩;rw[Int.zero_add];walk_at "rd";refine⟨_,_,_,⟨rfl,rfl,rfl⟩,Or.inl rfl,⟨by lia,by lia,by lia,by lia⟩,?_⟩;rw[vP hi'];refine⟨by rw[List.length_map];unfold o6;rw[List.length_map,List.length_range];exact sz3 _ (by lia),?_⟩;refine aQ (fun(m:Nat)=>D.int (m:Int)) (fun m=>cB ord (sg row i) (sg row m)) (fun(m:Nat)=>D.int (m:Int)) (fun Δ=>∃x,Δ=[some (D.tup (ord.map aC)),some (D.tup (row.map aq)),none,some (D.int i),x]) _ _ _ (fun m hm Δ hΔ=>?_) ⟨none,rfl⟩ q;obtain⟨y,rfl⟩:=hΔ;have hm':m<row.length:=Ag hm;refine⟨_,rfl,⟨_,rfl⟩,fun Q1 q1=>?_,fun _ Q2 q2=>?_⟩
  ·walk_at "rd";refine⟨_,gW hi',_,gW hm',?_⟩;exact pU.mpr ⟨ho,_,rfl,q1⟩
  ·walk_at "rd";exact q2
 ·rw[List.nil_append,List.filter_eq_self.mpr (fun _ _=>rfl)];have e:(List.range row.length).map (fun i=>kc (mts (cB ord) row i))=((List.range row.length).map (mts (cB ord) row)).map kc:=by rw[List.map_map];rfl
  rw[e];exact k
def iM:SpD:=fun ds M R=>∃(ms:List (List Nat)) (p:Addr) (kvs:List (List Key×D)) (b e:Nat) (C:Nat->Nat->Nat),ds=[vz ms,.ref p,.int b,.int e]/\M p=some (.dT kvs) /\
 ∃hb:b<ms.length,(∀m∈ms[b],m<e->cn kvs [.inl ((b:Int)+1),.inl (m:Int)]=some (.int (C (b+1) m))/\cn kvs [.inl ((m:Int)+1),.inl (e:Int)]=some (.int (C (m+1) e))/\Few (C (b+1) m:Nat)/\Few (C (m+1) e:Nat))/\ms[b].length<=1000 /\
 R (.lst ((ms[b].filter fun m=>decide (m<e)).map fun(m:Nat)=>pD ((m:Int),(C (b+1) m*C (m+1) e:Nat)))) M
theorem pN(F:Fun K "splits" "splits" gb f fd) (T:Txt mg) :bj P w K mg base CX0 1 f fd ["mates","counts","begin","end"] (spD K 4 iM):=by
 have nd:=j4.nd;refine F.okR rfl j4 (fun cdv A outer s H E hr=>⟨_,(au (aS (gK (ms:=[false,true,true,true]) (am:=["mate"]) (aJ rfl (show aR (ao gb) iJ _ _=true from by decide +kernel)) rfl (bp (aH aI (af 0) (af 2) (fun _ _=>rfl))) (aD (i:=4) (show(iJ++_).Nodup from by decide +kernel) rfl rfl) (fun _ _ _ _=>(cI (aF nh (af 4) (af 3) nbh))) (fun _ _ _ _=>(aU (ae (af 4) (ae (aP sN (i6 hr.units1 (af 1) (ae (aP aM (af 2) ak) (ae (af 4) ah)) (fun _ _=>rfl)) (i6 hr.units1 (af 1) (ae (aP aM (af 4) ak) (ae (af 3) ah)) (fun _ _=>rfl))) ah))))))),fun ds M R _ hS bk=>?_⟩);obtain⟨ms,p,kvs,b,e,C,rfl,hM,hb,hC,hlb,k⟩:=hS;refine bk ?_;clear bk;walk_at "rd";have e1:ixD (rdM M (vz ms)) (D.int b)=some (kc ms[b]):=by
  show atI (ms.map kc) (b:Int)=_;exact du (by rw[List.getElem?_map,List.getElem?_eq_getElem hb];rfl)
 refine⟨_,e1,_,rfl,fun hz=>⟨hz,?_⟩⟩;refine aQ (fun(m:Nat)=>D.int (m:Int)) (fun m=>decide (m<e)) (fun(m:Nat)=>pD ((m:Int),(C (b+1) m*C (m+1) e:Nat))) (fun Δ=>∃x,Δ=[none,some (D.ref p),some (D.int b),some (D.int e),x]) _ _ _ (fun m hm Δ hΔ=>?_) ⟨none,rfl⟩ ?_
 ·obtain⟨x,rfl⟩:=hΔ;refine⟨_,rfl,⟨_,rfl⟩,fun Q1 q=>?_,fun hme Q2 q=>?_⟩
  ·walk_at "rd";have:decide ((m:Int)<(e:Int))=decide (m<e):=by simp
   rw[this];exact q
  ·obtain⟨c1,c2,c3,c4⟩:=hC m hm (by simpa using hme);walk_at "rd";simp only[hM];walk_at "rd";simp only[c1,c2];walk_at "rd";have hcm:ik (C (b+1) m:Int) (C (m+1) e:Int)=True:=xc ⟨c3,c4⟩;simp only[hcm];walk_at "rd";refine⟨sz3 2,sz3 2,sz3 2,?_⟩;rw[Int.natCast_mul]at q;exact q
 ·exact k
theorem fT{α:Type}{p:α->Bool}{g:α->Nat}:∀{l:List α},((l.filter p).map g).sum=(l.map fun x=>if p x=true then g x else 0).sum
 |[]=>rfl
 |x::l=>by
  cases h:p x with
  |true=>rw[List.filter_cons_of_pos h];simp[h,fT (l:=l)]
  |false=>rw[List.filter_cons_of_neg (by simp[h])];simp[h,fT (l:=l)]
theorem gz{f:Nat->Nat}{a:Nat}:∀{d:Nat},(∀k,a<=k->k<a+d->f k=0)->((List.range (a+d)).map f).sum=((List.range a).map f).sum
 |0,_=>rfl
 |d+1,h=>by
  rw[<-Nat.add_assoc,List.range_succ,List.map_append,List.sum_append,gz (d:=d) fun k h1 h2=>h k h1 (by lia)];simp[h (a+d) (by lia) (by lia)]
theorem qw{f:Nat->Nat}:∀(L:Nat),(∀k,k<L->k % 2=1->f k=0)->((List.range L).map f).sum=((List.range ((L+1) / 2)).map fun j=>f (2*j)).sum
 |0,_=>rfl
 |1,_=>by simp
 |L+2,h=>by
  rw[List.range_succ,List.range_succ,List.map_append,List.map_append,List.sum_append,List.sum_append,qw L fun k h1 h2=>h k (by lia) h2];rw[show(L+2+1) / 2=(L+1) / 2+1 by lia,List.range_succ,List.map_append,List.sum_append];simp only[List.map_cons,List.map_nil,List.sum_cons,List.sum_nil,Nat.add_zero]
  by_cases e:L % 2=1
  ·rw[h L (by lia) e,show 2*((L+1) / 2)=L+1 by lia];lia
  ·rw[h (L+1) (by lia) (by lia),show 2*((L+1) / 2)=L by lia];lia
theorem iF{σ:Type}(d:σ):∀(xs:List σ),iK xs=(List.range xs.length).map fun k=>(xs.take k,xs.getD k d,xs.drop (k+1))
 |[]=>rfl
 |x::xs=>by
  rw[iK,iF d xs,List.length_cons,List.range_succ_eq_map,List.map_cons,List.map_map,List.map_map];rfl
def seg(row:List (Str×Int)) (b e:Nat):List (Str×Int):=(row.drop b).take (e-b)
theorem dS{row:List (Str×Int)}{b e:Nat}(h:e<=row.length):(seg row b e).length=e-b:=by
 unfold seg;rw[List.length_take,List.length_drop];lia
theorem jr{row:List (Str×Int)}{b:Nat}:seg row b b=[]:=by unfold seg;simp
theorem kY{row:List (Str×Int)}:seg row 0 row.length=row:=by unfold seg;simp
theorem jl{row:List (Str×Int)}{b e:Nat}(h:b<e) (he:e<=row.length):seg row b e=sg row b::seg row (b+1) e:=by
 unfold seg;have hb:b<row.length:=by lia
 rw[List.drop_eq_getElem_cons hb,show e-b=(e-(b+1))+1 by lia,List.take_succ_cons];simp[sg,hb]
theorem jt{row:List (Str×Int)}{b e k:Nat}(h:b+k<=e):(seg row b e).take k=seg row b (b+k):=by
 unfold seg;rw[List.take_take,Nat.min_eq_left (by lia),show b+k-b=k by lia]
theorem ji{row:List (Str×Int)}{b e k:Nat}:(seg row b e).drop k=seg row (b+k) e:=by
 unfold seg;rw[List.drop_take,List.drop_drop,show e-b-k=e-(b+k)by lia]
theorem rN{row:List (Str×Int)}{b e k:Nat}(h:b+k<e):(seg row b e).getD k ("",0)=sg row (b+k):=by
 unfold seg sg;rw[List.getD_eq_getElem?_getD,List.getElem?_take,if_pos (by lia),List.getElem?_drop,List.getD_eq_getElem?_getD]
section
variable{R:Str×Int->Str×Int->Bool}{row:List (Str×Int)}
theorem EO{b e:Nat}(h:b<e) (he:e<=row.length):W R (seg row b e)=((List.range ((e-b) / 2)).map fun j=>if R (sg row b) (sg row (b+1+2*j))=true then W R (seg row (b+1) (b+1+2*j))*W R (seg row (b+1+2*j+1) e)else 0).sum:=by
 rw[jl h he,fQ,iF (σ:=Str×Int) ("",0),List.map_map,dS he];have e1:((List.range (e-(b+1))).map ((fun c=>if R (sg row b) c.2.1=true then W R c.1*W R c.2.2 else 0)∘fun k=>((seg row (b+1) e).take k,(seg row (b+1) e).getD k ("",0),(seg row (b+1) e).drop (k+1)))).sum
  =((List.range (e-(b+1))).map fun k=>if R (sg row b) (sg row (b+1+k))=true then W R (seg row (b+1) (b+1+k))*W R (seg row (b+1+k+1) e)else 0).sum:=by
  congr 1;apply List.map_congr_left;intro k hk;have hk':=List.mem_range.mp hk;simp only[Function.comp_def];rw[rN (by lia),jt (by lia),ji];rfl
 rw[e1,qw _ fun k hk ho=>?_,show(e-(b+1)+1) / 2=(e-b) / 2 by lia]
 by_cases c:R (sg row b) (sg row (b+1+k))=true
 ·rw[if_pos c,uA _ (seg row (b+1) (b+1+k)) (Nat.le_refl _) (by rw[dS (by lia)];lia),Nat.zero_mul]
 ·rw[if_neg c]
theorem tJ{b e:Nat}(h:b<e) (he:e<=row.length):(((mts R row b).filter fun m=>decide (m<e)).map fun m=>W R (seg row (b+1) m)*W R (seg row (m+1) e)).sum=W R (seg row b e):=by
 rw[EO h he,fT];unfold mts;rw[fT];unfold o6;rw[List.map_map];rw[show(row.length-b) / 2=(e-b) / 2+((row.length-b) / 2-(e-b) / 2)by lia,gz fun k h1 h2=>?_]
 ·congr 1;apply List.map_congr_left;intro k hk;have hk':=List.mem_range.mp hk;simp only[Function.comp_def];rw[if_pos (show decide (b+1+2*k<e)=true by simp;lia)]
 ·simp only[Function.comp_def];rw[if_neg (show ¬ decide (b+1+2*k<e)=true by simp;lia),ite_self]
end
def tab(R:Str×Int->Str×Int->Bool) (row:List (Str×Int)) (L j b e:Nat):Option D:=if b<=e/\e<=row.length/\(e-b) % 2=0/\(e-b<L∨(e-b=L/\b<j))then some (.int (W R (seg row b e):Nat))else none
def Tab(R:Str×Int->Str×Int->Bool) (row:List (Str×Int)) (L j:Nat) (kvs:List (List Key×D)):Prop:=∀b e:Nat,cn kvs [.inl (b:Int),.inl (e:Int)]=tab R row L j b e
def jg(kvs:List (List Key×D)):Prop:=(kvs.map (·.1)).Nodup/\∀x∈kvs,∃(b e:Nat) (v:Int),x=([.inl (b:Int),.inl (e:Int)],.int v)
theorem jg.nil:jg []:=⟨by simp,fun x h=>absurd h (by simp)⟩
theorem jg.put{kvs:List (List Key×D)}{b e:Nat}{v:Int}(h:jg kvs):jg (kE kvs [.inl (b:Int),.inl (e:Int)] (.int v)):=by
 unfold kE
 split
 ·refine⟨?_,fun x hx=>?_⟩
  ·rw[List.map_map];have e1:((fun x:List Key×D=>x.1)∘fun kv:List Key×D=>if kv.1=[Sum.inl (b:Int),Sum.inl (e:Int)]then(kv.1,D.int v)else kv)=fun x=>x.1:=by
    funext kv;simp only[Function.comp_def]
    split<;>rfl
   rw[e1];exact h.1
  ·obtain⟨y,hy,rfl⟩:=List.mem_map.mp hx;obtain⟨b',e',v',rfl⟩:=h.2 y hy
   split
   ·exact⟨_,_,_,rfl⟩
   ·exact⟨_,_,_,rfl⟩
 ·rename_i hn;refine⟨?_,fun x hx=>?_⟩
  ·rw[List.map_append,List.nodup_append];refine⟨h.1,by simp,fun u hu w hw=>?_⟩;obtain rfl:w=[Sum.inl (b:Int),Sum.inl (e:Int)]:=by simpa using hw
   rintro rfl;obtain⟨y,hy,ey⟩:=List.mem_map.mp hu;exact hn (List.any_eq_true.mpr ⟨y,hy,by simpa using ey⟩)
  ·rcases List.mem_append.mp hx with z|z
   ·exact h.2 x z
   ·exact⟨b,e,v,by simpa using z⟩
def cD:SpD:=fun ds M Q=>∃(R:Str×Int->Str×Int->Bool) (row:List (Str×Int)),ds=[vz ((List.range row.length).map (mts R row))]/\row.length<=24 /\
 ∀p kvs,M p=none->Tab R row (row.length+1) 0 kvs->jg kvs/\kvs.length<=325->Q (.ref p) (aw M p (.dT kvs))
theorem jz{R:Str×Int->Str×Int->Bool}{row:List (Str×Int)}{L j L' j' b e:Nat}(h:∀d,d=e-b->b+d<=row.length->d % 2=0->((d<L∨(d=L/\b<j))↔(d<L'∨(d=L'/\b<j')))):tab R row L j b e=tab R row L' j' b e:=by
 unfold tab;have q:b<=e->e<=row.length->b+(e-b)<=row.length:=fun h1 h2=>by rw[Nat.add_sub_cancel' h1];exact h2
 exact ite_congr (propext ⟨fun⟨x,y,z,d⟩=>⟨x,y,z,(h _ rfl (q x y) z).mp d⟩,fun⟨x,y,z,d⟩=>⟨x,y,z,(h _ rfl (q x y) z).mpr d⟩⟩) (fun _=>rfl) fun _=>rfl
theorem Cr{R:Str×Int->Str×Int->Bool}{row:List (Str×Int)}{L b:Nat}(h1:b+L<=row.length) (h2:L % 2=0):tab R row L (b+1) b (b+L)=some (.int (W R (seg row b (b+L)):Nat)):=by
 unfold tab;have e:b+L-b=L:=Nat.add_sub_cancel_left ..;exact if_pos ⟨Nat.le_add_right _ _,h1,by rw[e];exact h2,.inr ⟨e,Nat.lt_succ_self b⟩⟩
theorem jW{b e b' e':Nat}:([Sum.inl (b:Int),Sum.inl (e:Int)]:List Key)=[Sum.inl (b':Int),Sum.inl (e':Int)]↔b=b'/\e=e':=by
 simp only[List.cons.injEq,Sum.inl.injEq,and_true,Int.natCast_inj]
theorem qj{α:Type}{f:α->Nat}:∀{l:List α},(l.map fun x=>((f x:Nat):Int)).sum=(((l.map f).sum:Nat):Int)
 |[]=>rfl
 |x::l=>by simp only[List.map_cons,List.sum_cons,qj (l:=l),Int.natCast_add]
theorem oH{R:Str×Int->Str×Int->Bool}{row:List (Str×Int)}{i m:Nat}(h:m∈mts R row i):i+1<=m/\m<row.length/\(m-i) % 2=1:=by
 unfold mts o6 at h;obtain⟨k,hk,rfl⟩:=List.mem_map.mp (List.mem_filter.mp h).1;have:=List.mem_range.mp hk
 lia
theorem uB{R:Str×Int->Str×Int->Bool}{row:List (Str×Int)}{i:Nat}:(mts R row i).length<=row.length:=by
 unfold mts;refine Nat.le_trans (List.length_filter_le _ _) ?_;unfold o6;rw[List.length_map,List.length_range]
 lia
theorem uQ{R:Str×Int->Str×Int->Bool}{xs:List (Str×Int)}(h:xs.length<=24):Few (W R xs:Nat):=by
 have h1:=DT (R:=R) 24 xs h (by decide);have h2:(100:Nat) ^ xs.length<=100 ^ 24:=Nat.pow_le_pow_right (by decide) h;have h3:W R xs<10 ^ 60:=Nat.lt_of_le_of_lt (Nat.le_trans h1 h2) (by decide);exact rV (by lia) (by lia)
theorem uM{p:Addr}{M:DH}{Q:DH->Prop}:∀(k done:Nat) (x:Option D) (kvs:List (List Key×D)),(∀b e:Nat,cn kvs [.inl (b:Int),.inl (e:Int)]=if b=e/\b<done then some (.int 1)else none)->kvs.length<=done->jg kvs->done+k<=100 ->
  (∀kvs',(∀b e:Nat,cn kvs' [.inl (b:Int),.inl (e:Int)]=if b=e/\b<done+k then some (.int 1)else none)->kvs'.length<=done+k->jg kvs'->Q (aw M p (.dT kvs'))) ->
  mN (bL 6) (fj (eJ 6) (fj (eJ 6) rC)) (dC (D.int 1)) p ((List.range' done k).map fun(j:Nat)=>D.int (0+(j:Int))) [none,none,none,none,none,none,x] (aw M p (.dT kvs)) Q
 |0,done,x,kvs,h,hl,hk,hz,q=>by simpa[mN]using q kvs h hl hk
 |k+1,done,x,kvs,h,hl,hk,hz,q=>by
  rw[List.range'_succ,List.map_cons];simp only[mN];refine⟨_,rfl,?_⟩;rw[Int.zero_add];walk_at "rd";refine⟨sz3 2,Nat.lt_of_lt_of_le (by lia:kvs.length<1000) (sz3 1000),?_⟩;refine uM k (done+1) _ _ (fun b e=>?_) (Nat.le_trans (fc _ _ _) (by lia)) hk.put (by lia) fun kvs' h' hl' hk'=>q kvs' (fun b e=>by rw[h' b e,show done+1+k=done+(k+1)by lia]) (by lia) hk';rw[fA,h b e]
  by_cases c:b=done/\e=done
  ·rw[if_pos (jW.mpr c),if_pos (by lia)]
  ·rw[if_neg (fun z=>c (jW.mp z))]
   by_cases g:b=e/\b<done
   ·rw[if_pos g,if_pos (by lia)]
   ·rw[if_neg g,if_neg (by lia)]
theorem ij(F:Fun K "stretch_counts" "stretch_counts" bx f fd) (T:Txt mg) (Y0:FnD P w K mg base "splits" 1 4 iM):bj P w K mg base CX0 2 f fd ["mates"] (spD K 1 cD):=by
 have nd:=dO.nd;refine F.okR rfl dO (fun cdv A outer s H E hr=>⟨_,(ai (aO (i:=1) nd rfl (Or.inl rfl) (ax a7 rfl T.b_len (by kernel_rfl) (ae (af 0) ah)))
   (ai (zP (i:=2) (ms:=[false,false,false,false,false,false]) (am:=["at"]) hr.units0 nd rfl rfl rfl (aJ (n0:=0) rfl (show aR (ao bx) bo _ _=true from by decide +kernel)) rfl (cz rfl T.b_range (ae (aP aM (af 1) ak) ah)) (aD (i:=6) (show(bo++_).Nodup from by decide +kernel) rfl rfl) (fun _ _ _ _=>(ae (af 6) (ae (af 6) ah))) (fun _ _ _ _=>ak))
   (ai (cP PassesOwn.never rfl (uL rfl T.b_range (ae ak (ae (aP aM (af 1) ak) (ae ak ah)))) (bg (i:=3) nd rfl (Or.inl rfl)) (au (cP PassesOwn.never rfl (cz rfl T.b_range (ae (aP aM (aP fk (af 1) (af 3)) ak) ah)) (bg (i:=4) nd rfl (Or.inl rfl)) (ai (aO (i:=5) nd rfl (Or.inl rfl) (aP aM (af 4) (af 3)))
   (au (sW hr.units1 (af 2) (ae (af 4) (ae (af 5) ah)) (ax (uF rfl) rfl T.b_sum (by kernel_rfl) (ae (gK (ms:=[false,false,false,false,false,false]) (am:=["mate","count"]) (aJ (n0:=0) rfl (show aR (ao bx) bo _ _=true from by decide +kernel)) rfl (bp (qd Y0 hr (ae (af 0) (ae (af 2) (ae (af 4) (ae (af 5) ah)))))) (cH (n:=2) rfl (aT (aD (i:=6) (show(bo++_).Nodup from by decide +kernel) rfl rfl) (aT (aD (i:=7) (show(bo++_).Nodup from by decide +kernel) rfl rfl) cF))) (fun _ _ _ _=>dY) (fun _ _ _ _=>(af 7))) ah))))))))
   (au (aS (af 2)))))),fun ds M R _ hS bk=>?_⟩)
 obtain⟨r,row,rfl,hl,k⟩:=hS;refine bk ?_;clear bk;simp only[vz];walk_at "rd";simp only[List.length_map,List.length_range];refine⟨by lia,by lia,fun p hp=>?_⟩;have e0:ie 0 ((row.length:Int)+1).toNat=(List.range' 0 (row.length+1)).map fun(j:Nat)=>D.int (0+(j:Int)):=by
  rw[<-List.range_eq_range'];rfl
 rw[e0];refine uM (row.length+1) 0 none [] (fun b e=>by rw[if_neg (by lia)];rfl) (Nat.le_refl _) jg.nil (by lia) fun kvs h0 hl0 hk0=>?_;refine⟨_,_,_,⟨rfl,rfl,rfl⟩,Or.inl rfl,⟨by lia,by lia,by lia,by lia⟩,?_⟩;have hsz:szR 2 ((row.length:Int)+1) 2=row.length / 2:=by
  unfold szR Builtin.Range.rangeSize;simp
  lia
 rw[hsz];have hms:∀b,b<row.length->∃hb:b<((List.range row.length).map (mts r row)).length,((List.range row.length).map (mts r row))[b]=mts r row b:=fun b hb=>⟨by simpa using hb,by simp⟩;refine aZ (fun i Δ M'=>∃(kvs:List (List Key×D)) (x3 x4 x5:Option D),Δ=[some (D.lst (((List.range row.length).map (mts r row)).map kc)),some (D.int row.length),some (D.ref p),x3,x4,x5]/\M'=aw M p (.dT kvs)/\Tab r row (2+2*i) 0 kvs/\kvs.length<=25+25*i/\jg kvs)
  ⟨kvs,none,none,none,rfl,rfl,fun b e=>?_,by lia,hk0⟩ ?_ ?_
 ·rw[h0 b e];unfold tab
  by_cases c:b=e/\b<0+(row.length+1)
  ·rw[if_pos c,if_pos (by lia),c.1,jr,il];rfl
  ·rw[if_neg c,if_neg (by lia)]
 ·intro i d Δ M' X hd hI' k';refine shr fun _ bk=>?_;obtain⟨kvs,x3,x4,x5,rfl,rfl,hT,hkl,hki⟩:=hI';refine bk ?_;clear bk;obtain⟨hi,rfl⟩:=pQ hd;have eL:(2:Int)+(i:Int)*2=((2+2*i:Nat):Int):=by lia
  rw[eL];generalize hL:2+2*i=L at *
  have hLn:L<=row.length:=by lia
  simp only[bL];walk_at "rd";refine⟨by lia,by lia,?_⟩;have e1:((row.length:Int)-(L:Int)+1).toNat=row.length-L+1:=by lia
  rw[e1];refine aZ (fun j Δ M'=>∃(kvs:List (List Key×D)) (x4 x5:Option D),Δ=[some (D.lst (((List.range row.length).map (mts r row)).map kc)),some (D.int row.length),some (D.ref p),some (D.int L),x4,x5]/\M'=aw M p (.dT kvs)/\Tab r row L j kvs/\kvs.length<=25+25*i+j/\jg kvs)
   ⟨kvs,_,_,rfl,rfl,hT,hkl,hki⟩ ?_ ?_
  ·intro j d Δ M' X' hd2 hI' k2;refine shr fun _ bk=>?_;obtain⟨kvs,x4,x5,rfl,rfl,hT,hkl,hki⟩:=hI';refine bk ?_;clear bk;obtain⟨hj,rfl⟩:=cv hd2;rw[Int.zero_add];simp only[bL];walk_at "rd";have ej:(j:Int)+(L:Int)=((j+L:Nat):Int):=by lia
   rw[ej];obtain⟨hb,em⟩:=hms j (by lia);refine⟨_,p,kvs,j,j+L,fun b e=>W r (seg row b e),rfl,aj,hb,?_,?_,?_⟩
   ·intro m hm hme;rw[em]at hm;obtain⟨m1,m2,m3⟩:=oH hm;refine⟨?_,?_,uQ (by rw[dS (by lia)];lia),uQ (by rw[dS (by lia)];lia)⟩
    ·have h:=hT (j+1) m;rw[Int.natCast_add]at h;refine h.trans ?_;unfold tab;rw[if_pos (by lia)]
    ·have h:=hT (m+1) (j+L);rw[Int.natCast_add]at h;refine h.trans ?_;unfold tab;rw[if_pos (by lia)]
   ·rw[em];exact Nat.le_trans uB (by lia)
   ·rw[em];refine⟨_,rfl,fun hz=>⟨hz,?_⟩⟩;refine aQ (fun(m:Nat)=>pD ((m:Int),(W r (seg row (j+1) m)*W r (seg row (m+1) (j+L)):Nat))) (fun _=>true) (fun(m:Nat)=>D.int (W r (seg row (j+1) m)*W r (seg row (m+1) (j+L)):Nat)) (fun Δ=>∃x y,Δ=[none,none,none,none,none,none,x,y]) _ _ _ (fun m hm Δ hΔ=>?_) ⟨none,none,rfl⟩ ?_
    ·obtain⟨x,y,rfl⟩:=hΔ;refine⟨_,rfl,⟨_,_,rfl⟩,fun Q1 q=>q,fun _ Q2 q=>?_⟩;walk_at "rd";exact q
    ·rw[List.nil_append,List.filter_eq_self.mpr (fun _ _=>rfl)];have es:xg (.lst (((mts r row j).filter fun m=>decide (m<j+L)).map fun(m:Nat)=>D.int (W r (seg row (j+1) m)*W r (seg row (m+1) (j+L)):Nat)))=some (.int (W r (seg row j (j+L)):Nat)):=by
      rw[<-tJ (show j<j+L by lia) (show j+L<=row.length by lia),<-qj,<-oE,List.map_map];rfl
     refine⟨_,es,sz3 2,kvs,aj,Nat.lt_of_lt_of_le (by lia:kvs.length<16000000) (szB 16000000),?_⟩;rw[aE];refine k2 _ _ ⟨_,_,_,rfl,rfl,fun b e=>?_,Nat.le_trans (fc _ _ _) (by lia),hki.put⟩;rw[fA,hT b e]
     by_cases c:b=j/\e=j+L
     ·rw[if_pos (jW.mpr c)];obtain⟨rfl,rfl⟩:=c;exact(Cr (by lia) (by lia)).symm
     ·rw[if_neg (fun z=>c (jW.mp z))];exact jz fun d hd _ _=>or_congr_right (and_congr_right fun h=>⟨fun h'=>Nat.lt_succ_of_lt h',fun h'=>Nat.lt_of_le_of_ne (Nat.le_of_lt_succ h') fun z=>c ⟨z,by clear c;lia⟩⟩)
  ·intro Δ M' hI';refine shr fun _ bk=>?_;obtain⟨kvs,x4,x5,rfl,rfl,hT,hkl,hki⟩:=hI';refine bk ?_;clear bk;have e2:(ie 0 (row.length-L+1)).length=row.length-L+1:=by simp[ie]
   rw[e2]at hT hkl;refine k' _ _ ⟨kvs,_,_,_,rfl,rfl,fun b e=>?_,by lia,hki⟩;rw[hT b e];refine jz fun d hd hb h2=>⟨fun h=>.inl ?_,fun h=>?_⟩
   ·rcases h with h|⟨h,_⟩<;>lia
   ·rcases h with h|⟨_,h⟩
    ·rcases Nat.lt_or_ge d L with z|z
     ·exact .inl z
     ·have hdL:d=L:=by clear hd;lia
      exact .inr ⟨hdL,by clear hd h2 h;lia⟩
    ·exact absurd h (Nat.not_lt_zero _)
 ·intro Δ M' hI';refine shr fun _ bk=>?_;obtain⟨kvs,x3,x4,x5,rfl,rfl,hT,hkl,hki⟩:=hI';refine bk ?_;clear bk;walk_at "rd";have e2:(oR 2 2 (row.length / 2)).length=row.length / 2:=by simp[oR]
  rw[e2]at hT hkl;refine k p kvs hp (fun b e=>?_) ⟨hki,by lia⟩;rw[hT b e];refine jz fun d hd hb h2=>⟨fun h=>.inl (Nat.lt_succ_of_le (Nat.le_trans (Nat.le_add_left _ _) hb)),fun h=>.inl (by clear hd h hkl;lia)⟩
def dJ:SpD:=fun ds M Q=>∃(R:Str×Int->Str×Int->Bool) (row:List (Str×Int)) (p:Addr) (kvs:List (List Key×D)),ds=[.ref p,.tup (row.map aq)]/\M p=some (.dT kvs)/\row.length<=24/\Tab R row (row.length+1) 0 kvs/\Q (.int (W R row:Nat)) M
theorem jx(F:Fun K "whole_count" "whole_count" dN f fd) (T:Txt mg) :bj P w K mg base CX0 1 f fd ["counts","row"] (spD K 2 dJ):=by
 have nd:=fJ.nd;refine F.okR rfl fJ (fun cdv A outer s H E hr=>⟨_,(au (aS (za hr.units1 (af 0) (ae ak (ae (ax a7 rfl T.b_len (by kernel_rfl) (ae (af 1) ah)) ah)) ak ⟨rfl,rfl,rfl,rfl⟩))),fun ds M R _ hS bk=>?_⟩);obtain⟨r,row,p,kvs,rfl,hM,hl,hT,k⟩:=hS;refine bk ?_;clear bk;walk_at "rd";refine⟨kvs,hM,sz3 2,kvs,hM,?_⟩;rw[List.length_map];have h:=hT 0 row.length;have e:tab r row (row.length+1) 0 0 row.length=if row.length % 2=0 then some (.int (W r row:Nat))else none:=by
  unfold tab;rw[kY]
  by_cases c:row.length % 2=0
  ·rw[if_pos c,if_pos (by lia)]
  ·rw[if_neg c,if_neg (by lia)]
 have h':cn kvs [Sum.inl 0,Sum.inl (row.length:Int)]=_:=h.trans e;rw[h']
 by_cases c:row.length % 2=0
 ·rw[if_pos c];exact k
 ·rw[if_neg c];rw[uA _ row (Nat.le_refl _) (by lia)]at k;exact k
def Ncr(a b:Nat×Nat):Prop:=a.1≠b.1/\a.1≠b.2/\a.2≠b.1/\a.2≠b.2/\¬ (a.1<b.1/\b.1<a.2/\a.2<b.2)/\¬ (b.1<a.1/\a.1<b.2/\b.2<a.2)
theorem Ncr.symm{a b:Nat×Nat}(h:Ncr a b):Ncr b a:=⟨h.1.symm,h.2.2.1.symm,h.2.1.symm,h.2.2.2.1.symm,h.2.2.2.2.2,h.2.2.2.2.1⟩
def stW(l:List (Nat×Nat)):Nat:=(l.map fun s=>s.2-s.1).sum
structure HDr(R:Str×Int->Str×Int->Bool) (row:List (Str×Int)) (arcs sts:List (Nat×Nat)):Prop where
 len:2*arcs.length+stW sts=row.length
 arc:∀a∈arcs,a.1<a.2/\a.2<row.length/\R (sg row a.1) (sg row a.2)=true
 pw:arcs.Pairwise Ncr
 out:∀a∈arcs,∀s∈sts,(a.1<s.1∨s.2<=a.1)/\(a.2<s.1∨s.2<=a.2)
 ap:sts.Pairwise fun s t=>s.2<=t.1∨t.2<=s.1
theorem uH{l l':List (Nat×Nat)}:stW (l++l')=stW l+stW l':=by simp[stW]
theorem HDr.drop{R:Str×Int->Str×Int->Bool}{row:List (Str×Int)}{arcs sts:List (Nat×Nat)}{b:Nat}(h:HDr R row arcs (sts++[(b,b)])):HDr R row arcs sts :=
 ⟨by have:=h.len;rw[uH]at this;simpa[stW]using this,h.arc,h.pw,fun a ha s hs=>h.out a ha s (List.mem_append_left _ hs),(List.pairwise_append.mp h.ap).1⟩
theorem HDr.more{R:Str×Int->Str×Int->Bool}{row:List (Str×Int)}{arcs sts:List (Nat×Nat)}{b m e:Nat}(h:HDr R row arcs (sts++[(b,e)])) (h1:b+1<=m) (h2:m<e) (h3:e<=row.length) (hR:R (sg row b) (sg row m)=true):HDr R row (arcs++[(b,m)]) (sts++[(b+1,m),(m+1,e)]):=by
 obtain⟨p1,-,p3⟩:=List.pairwise_append.mp h.ap;have hl:=h.len;have hap:∀s∈sts,s.2<=b∨e<=s.1:=fun s hs=>p3 s hs (b,e) (by simp);have hin:∀a∈arcs,(a.1<b∨e<=a.1)/\(a.2<b∨e<=a.2):=fun a ha=>h.out a ha (b,e) (by simp);refine⟨?_,fun a ha=>?_,List.pairwise_append.mpr ⟨h.pw,List.pairwise_singleton _ _,fun a ha c hc=>?_⟩,fun a ha s hs=>?_,List.pairwise_append.mpr ⟨p1,?_,fun s hs t ht=>?_⟩⟩
 ·rw[uH]at hl ⊢;have e1:stW [(b,e)]=e-b:=by simp[stW]
  have e2:stW [(b+1,m),(m+1,e)]=(m-(b+1))+(e-(m+1)):=by simp[stW]
  rw[List.length_append,List.length_singleton];lia
 ·rcases List.mem_append.mp ha with z|z
  ·exact h.arc a z
  ·obtain rfl:a=(b,m):=by simpa using z
   exact⟨h1,by show m<_;lia,hR⟩
 ·obtain rfl:c=(b,m):=by simpa using hc
  have:=hin a ha;have:=h.arc a ha;simp only[Ncr];lia
 ·have hs':s∈sts∨s=(b+1,m)∨s=(m+1,e):=by simpa using hs
  rcases List.mem_append.mp ha with z|z
  ·have:=hin a z;rcases hs' with y|rfl|rfl
   ·exact h.out a z s (List.mem_append_left _ y)
   ·simp only;lia
   ·simp only;lia
  ·obtain rfl:a=(b,m):=by simpa using z
   rcases hs' with y|rfl|rfl
   ·have:=hap s y;simp only;lia
   ·simp only;lia
   ·simp only;lia
 ·simp
 ·have:=hap s hs;have ht':t=(b+1,m)∨t=(m+1,e):=by simpa using ht
  rcases ht' with rfl|rfl
  ·simp only;lia
  ·simp only;lia
theorem HDr.done{R:Str×Int->Str×Int->Bool}{row:List (Str×Int)}{arcs:List (Nat×Nat)}(h:HDr R row arcs []) (h24:row.length<=24):∃l,ig R row l/\j5 (.lst (arcs.map stD))=some (.lst (l.map stD)):=by
 obtain⟨L,e,hP,hs⟩:=ub arcs (by have:=h.len;simp[stW]at this;lia);have hq:L.Pairwise Ncr:=(hP.pairwise_iff Ncr.symm).mpr h.pw;refine⟨L,⟨by have:=h.len;rw[hP.length_eq];simpa[stW]using this,fun a ha=>h.arc a (hP.mem_iff.mp ha),(hq.and hs).imp fun {a b} ⟨n,l⟩=>?_⟩,e⟩;have lt:a.1<b.1:=by have:=n.1;lia
 exact⟨lt,n.2.2.1.symm,n.2.2.2.1.symm,fun h=>n.2.2.2.2.1 ⟨lt,h.1,h.2⟩⟩
def gy:SpD:=fun ds M Q=>∃(ord:List (Str×Str)) (row:List (Str×Int)),ds=[.tup (ord.map aC),.tup (row.map aq)]/\ord.length<=500/\row.length<=24/\(W (cB ord) row=0->Q .non M)/\(0<W (cB ord) row->∀arcs:List (Nat×Nat),ig (cB ord) row arcs->Q (.tup (arcs.map stD)) M)
def stM(l:List (Nat×Nat)):Nat:=(l.map fun s=>2*(s.2-s.1)+1).sum
theorem zl{l:List (Nat×Nat)}:l.length<=stM l:=by
 induction l with
 |nil=>simp
 |cons x l ih =>
  have:stM (x::l)=2*(x.2-x.1)+1+stM l:=by simp[stM]
  rw[this,List.length_cons];lia
theorem DW{X:DH}{p q:Addr}{A A' B B':HD}(h:p≠q):aw (aw (aw (aw X p A) q B) p A') q B'=aw (aw X p A') q B':=by
 funext c;unfold aw
 by_cases h1:c=q
 ·simp[h1]
 ·by_cases h2:c=p
  ·simp[h1,h2,h]
  ·simp[h1,h2]
theorem i9{l l':List (Nat×Nat)}:stM (l++l')=stM l+stM l':=by simp[stM]
theorem kB(F:Fun K "drawing_of" "drawing_of" cX f fd) (T:Txt mg) (G7:FnD P w K mg base "mates_in" 5 2 fL) (G2:FnD P w K mg base "stretch_counts" 2 1 cD) (G6:FnD P w K mg base "whole_count" 1 2 dJ) (Y0:FnD P w K mg base "splits" 1 4 iM):bj P w K mg base CX0 6 f fd ["order","row"] (spD K 2 gy):=by
 have nd:=gm.nd;refine F.okR rfl gm (fun cdv A outer s H E hr=>⟨_,(ai (aO (i:=2) nd rfl (Or.inl rfl) (qd G7 hr (ae (af 0) (ae (af 1) ah))))
   (ai (aO (i:=3) nd rfl (Or.inl rfl) (qd G2 hr (ae (af 2) ah)))
   (bf (ai (bh (aF (ft hr.units) (qd G6 hr (ae (af 3) (ae (af 1) ah))) ak nbh) (au (bT xM)) aV)
   (bf (ai (aO (i:=4) nd rfl (Or.inl rfl) (dM ah))
   (ai (aO (i:=5) nd rfl (Or.inl rfl) (dM (ae (aU (ae ak (ae (ax a7 rfl T.b_len (by kernel_rfl) (ae (af 1) ah)) ah))) ah)))
   (ai (uS PassesOwn.never (aF u5 (ax a7 rfl T.b_len (by kernel_rfl) (ae (af 5) ah)) ak nbh) (ai (AV (ED (af 5)) (j7 rfl (cm (bg (i:=6) nd rfl (Or.inl rfl)) (cm (bg (i:=7) nd rfl (Or.inl rfl)) kh))))
   (bf (au (bh (aF nh (af 6) (af 7) nbh) (ai (aO (i:=8) nd rfl (Or.inl rfl) (aH aI (gK (ms:=[false,false,false,false,false,false,false,false,false]) (am:=["at","count"]) (aJ (n0:=0) rfl (show aR (ao cX) cR _ _=true from by decide +kernel)) rfl (bp (qd Y0 hr (ae (af 2) (ae (af 3) (ae (af 6) (ae (af 7) ah)))))) (cH (n:=2) rfl (aT (aD (i:=9) (show(cR++_).Nodup from by decide +kernel) rfl rfl) (aT (aD (i:=10) (show(cR++_).Nodup from by decide +kernel) rfl rfl) cF))) (fun _ _ _ _=>(cI (aF u5 (af 10) ak nbh))) (fun _ _ _ _=>(af 9))) ak (fun _ _=>rfl)))
   (bf (ai (dH (ix (af 4) (aU (ae (af 6) (ae (af 8) ah)))))
   (au (dH (Bf (af 5) (iu (ae (aU (ae (aP aM (af 6) ak) (ae (af 8) ah))) (ae (aU (ae (aP aM (af 8) ak) (ae (af 7) ah))) ah))))))))) aV)))))
   (pJ 4 (au (bT (bR dq rfl T.b_tuple (by kernel_rfl) (ae (ax kS rfl T.b_sorted (by kernel_rfl) (ae (af 4) ah)) ah))))))))))))),fun ds M R _ hS bk=>?_⟩)
 obtain⟨ord,row,rfl,ho,hl,k0,k1⟩:=hS;refine bk ?_;clear bk;walk_at "rd";refine⟨ord,row,rfl,ho,hl,cB ord,row,rfl,hl,fun pc kvs hpc hT _=>ay ?_⟩;walk_at "rd";refine⟨cB ord,row,pc,kvs,rfl,aj,hl,hT,?_⟩;walk_at "rd";refine cE (fun h=>?_) (fun h=>?_)
 ·exact⟨_,dQ hpc,k0 (by simpa using h)⟩
 ·have hW:0<W (cB ord) row:=by
   have:¬ (W (cB ord) row:Int)=0:=by simpa using h
   lia
  refine ay ?_;walk_at "rd";refine⟨sz3 0,fun p hp=>⟨sz3 2,sz3 1,fun q hq=>?_⟩⟩;have npc:p≠pc:=by rintro rfl;rw[aj]at hp;cases hp
  have npq:q≠p:=by rintro rfl;rw[aj]at hq;cases hq
  have nqc:q≠pc:=by rintro rfl;rw[av (Ne.symm npc),aj]at hq;cases hq
  rw[List.length_map];refine⟨fun m Δ M'=>∃(arcs:List (Nat×Nat)) (sts:List (Nat×Nat)) (x6 x7 x8:Option D),Δ=[some (D.tup (ord.map aC)),some (D.tup (row.map aq)),some (vz ((List.range row.length).map (mts (cB ord) row))),some (D.ref pc),some (D.ref p),some (D.ref q),x6,x7,x8]/\M'=aw (aw (aw M pc (.dT kvs)) p (.lst (arcs.map stD))) q (.lst (sts.map stD))/\(∀s∈sts,s.1<=s.2/\s.2<=row.length/\0<W (cB ord) (seg row s.1 s.2))/\m=stM sts/\arcs.length+m<=49/\HDr (cB ord) row arcs sts,
   ⟨_,[],[(0,row.length)],none,none,none,rfl,rfl,fun s hs=>?_,rfl,?_,⟨by simp[stW],fun a ha=>by simp at ha,.nil,fun a ha=>by simp at ha,List.pairwise_singleton _ _⟩⟩,?_⟩
  ·obtain rfl:s=(0,row.length):=by simpa using hs
   exact⟨Nat.zero_le _,Nat.le_refl _,by rw[kY];exact hW⟩
  ·simp[stM];lia
  ·rintro m Δ M' ⟨arcs,sts,x6,x7,x8,rfl,rfl,hs,rfl,hm,hH⟩;walk_at "rd";rw[List.length_map];refine cE (fun h1=>?_) (fun h1=>?_)
   ·obtain⟨st',⟨b,e⟩,rfl⟩:∃st' s,sts=st'++[s]:=by
     refine⟨sts.dropLast,sts.getLast (by rintro rfl;simp at h1),(List.dropLast_concat_getLast _).symm⟩
    refine⟨st'.map stD,stD (b,e),by rw[List.map_append];rfl,?_⟩;obtain⟨be,en,hWs⟩:=hs (b,e) (by simp);simp only at be en hWs;have hs':∀s∈st',s.1<=s.2/\s.2<=row.length/\0<W (cB ord) (seg row s.1 s.2):=fun s h=>hs s (List.mem_append_left _ h);rw[i9]at hm;have e1:stM [(b,e)]=2*(e-b)+1:=by simp[stM]
    refine⟨_,rfl,ay ?_⟩;walk_at "rd";refine cE (fun hbe=>?_) (fun hbe=>?_)
    ·have hbe':b<e:=by lia
     have hbn:b<((List.range row.length).map (mts (cB ord) row)).length:=by simp;lia
     have em:((List.range row.length).map (mts (cB ord) row))[b]=mts (cB ord) row b:=by simp
     have hev:(e-b) % 2=0:=by
      rcases Nat.mod_two_eq_zero_or_one (e-b)with z|z
      ·exact z
      ·rw[uA _ _ (Nat.le_refl _) (by rw[dS en];exact z)]at hWs;lia
     refine⟨_,pc,kvs,b,e,fun b e=>W (cB ord) (seg row b e),rfl,by rw[av (Ne.symm nqc),av (Ne.symm npc),aj],hbn,?_,?_,?_⟩
     ·intro m hm' hme;rw[em]at hm';obtain⟨m1,m2,m3⟩:=oH hm';refine⟨?_,?_,uQ (by rw[dS (by lia)];lia),uQ (by rw[dS (by lia)];lia)⟩
      ·have h:=hT (b+1) m;rw[Int.natCast_add]at h;refine h.trans ?_;unfold tab;rw[if_pos (by lia)]
      ·have h:=hT (m+1) e;rw[Int.natCast_add]at h;refine h.trans ?_;unfold tab;rw[if_pos (by lia)]
     ·rw[em];exact Nat.le_trans uB (by lia)
     ·rw[em];refine⟨_,rfl,fun hz=>⟨hz,?_⟩⟩;refine aQ (fun(m:Nat)=>pD ((m:Int),(W (cB ord) (seg row (b+1) m)*W (cB ord) (seg row (m+1) e):Nat))) (fun m=>decide (0<W (cB ord) (seg row (b+1) m)*W (cB ord) (seg row (m+1) e))) (fun(m:Nat)=>D.int (m:Int)) (fun Δ=>∃x y,Δ=[none,none,none,none,none,none,none,none,none,x,y]) _ _ _ (fun m hm Δ hΔ=>?_) ⟨none,none,rfl⟩ ?_
      ·obtain⟨x,y,rfl⟩:=hΔ;refine⟨_,rfl,⟨_,_,rfl⟩,fun Q1 q=>?_,fun _ Q2 q=>?_⟩
       ·walk_at "rd";have ez:decide ((0:Int)<((W (cB ord) (seg row (b+1) m)*W (cB ord) (seg row (m+1) e):Nat):Int))=decide (0<W (cB ord) (seg row (b+1) m)*W (cB ord) (seg row (m+1) e)):=decide_eq_decide.mpr (by lia);rw[ez];exact q
       ·walk_at "rd";exact q
      ·rw[List.nil_append];have hF:∀m∈(((mts (cB ord) row b).filter fun m=>decide (m<e)).filter fun m=>decide (0<W (cB ord) (seg row (b+1) m)*W (cB ord) (seg row (m+1) e))),b+1<=m/\m<e/\0<W (cB ord) (seg row (b+1) m)/\0<W (cB ord) (seg row (m+1) e)/\cB ord (sg row b) (sg row m)=true:=fun m hm=>by
        obtain⟨g1,g2⟩:=List.mem_filter.mp hm;obtain⟨g3,g4⟩:=List.mem_filter.mp g1;have g5:=oH g3;have g2':0<W (cB ord) (seg row (b+1) m)*W (cB ord) (seg row (m+1) e):=by simpa using g2
        exact⟨g5.1,by simpa using g4,Nat.pos_of_mul_pos_right g2',Nat.pos_of_mul_pos_left g2',by unfold mts at g3;exact(List.mem_filter.mp g3).2⟩
       have hne:(((mts (cB ord) row b).filter fun m=>decide (m<e)).filter fun m=>decide (0<W (cB ord) (seg row (b+1) m)*W (cB ord) (seg row (m+1) e)))≠[]:=fun z=>by
        rw[<-tJ hbe' en,iQ fun m hm=>?_]at hWs
        ·lia
        ·have:=List.filter_eq_nil_iff.mp z m hm;simpa using this
       cases hFe:(((mts (cB ord) row b).filter fun m=>decide (m<e)).filter fun m=>decide (0<W (cB ord) (seg row (b+1) m)*W (cB ord) (seg row (m+1) e)))with
       |nil=>exact absurd hFe hne
       |cons m0 bZ =>
        obtain⟨w1,w2,w3,w4,w5⟩:=hF m0 (by rw[hFe];exact List.mem_cons_self);rw[List.map_cons];refine⟨_,Bc,ay ?_⟩;walk_at "rd";have a1:aw (aw (aw M pc (.dT kvs)) p (.lst (arcs.map stD))) q (.lst (st'.map stD)) p=some (.lst (arcs.map stD)):=by rw[av (Ne.symm npq),aj]
        have a2:∀A,aw (aw (aw (aw M pc (.dT kvs)) p (.lst (arcs.map stD))) q (.lst (st'.map stD))) p A q=some (.lst (st'.map stD)):=fun A=>by rw[av npq,aj]
        have a3:=zl (l:=st');have e2:stM [(b+1,m0),(m0+1,e)]=2*(m0-(b+1))+1+(2*(e-(m0+1))+1):=by simp[stM]
        refine⟨_,a1,sz3 2,_,a1,?_,_,a2 _,sz3 2,sz3 2,sz3 2,_,a2 _,?_,stM (st'++[(b+1,m0),(m0+1,e)]),?_,arcs++[(b,m0)],st'++[(b+1,m0),(m0+1,e)],_,_,_,⟨rfl,rfl,rfl⟩,?_,?_,rfl,?_,hH.more w1 w2 en w5⟩
        ·rw[List.length_map];exact Nat.lt_of_lt_of_le (by lia:arcs.length<1000) (sz3 1000)
        ·rw[List.length_map];exact sz3 _ (by lia)
        ·rw[i9,i9];lia
        ·rw[DW (Ne.symm npq),List.map_append,List.map_append];rfl
        ·intro s hs2;rcases List.mem_append.mp hs2 with z|z
         ·exact hs' s z
         ·have:s=(b+1,m0)∨s=(m0+1,e):=by simpa using z
          rcases this with rfl|rfl
          ·exact⟨w1,by show m0<=_;lia,w3⟩
          ·exact⟨w2,en,w4⟩
        ·rw[i9,List.length_append,List.length_cons,List.length_nil];lia
    ·obtain rfl:b=e:=by lia
     exact⟨stM st',by rw[i9];lia,arcs,st',_,_,_,⟨rfl,rfl,rfl⟩,rfl,hs',rfl,by lia,hH.drop⟩
   ·have hMp:M p=none:=by rw[av npc]at hp;exact hp
    have hMq:M q=none:=by rw[av npq,av nqc]at hq;exact hq
    obtain rfl:sts=[]:=by
     cases sts with
     |nil=>rfl
     |cons s l=>exact absurd (by simp) h1
    obtain⟨L,hL,eL⟩:=(hH.done hl);refine⟨arcs.map stD,by rw[av (Ne.symm npq),aj],_,eL,_,rfl,M,fun a u ha=>?_,k1 hW _ hL⟩;have n1:a≠p:=by rintro rfl;rw[hMp]at ha;cases ha
    have n2:a≠q:=by rintro rfl;rw[hMq]at ha;cases ha
    have n3:a≠pc:=by rintro rfl;rw[hpc]at ha;cases ha
    rw[iR n1,av n2,av n1,av n3];exact ha
def wsh(row:List (Str×Int)):List (Str×Int):=row.reverse.map fun x=>(x.1,x.2+1)
def gN:SpD:=fun ds M Q=>∃row:List (Str×Int),ds=[.tup (row.map aq)]/\row.length<=24/\Q (.tup ((wsh row).map aq)) M
theorem kF(F:Fun K "right_wish" "right_wish" cM f fd) (T:Txt mg) :bj P w K mg base CX0 1 f fd ["row"] (spD K 1 gN):=by
 have nd:=gc.nd;refine F.okR rfl gc (fun cdv A outer s H E hr=>⟨_,(au (aS (bR dq rfl T.b_tuple (by kernel_rfl) (ae (gK (ms:=[false]) (am:=["mark","turn"]) (aJ (n0:=0) rfl (show aR (ao cM) cS _ _=true from by decide +kernel)) rfl (Bs rfl T.b_reversed (ae (af 0) ah)) (cH (n:=2) rfl (aT (aD (i:=1) (show(cS++_).Nodup from by decide +kernel) rfl rfl) (aT (aD (i:=2) (show(cS++_).Nodup from by decide +kernel) rfl rfl) cF))) (fun _ _ _ _=>dY) (fun _ _ _ _=>(aU (ae (af 1) (ae (aP aM (af 2) ak) ah))))) ah)))),fun ds M R _ hS bk=>?_⟩);obtain⟨row,rfl,hl,k⟩:=hS;refine bk ?_;clear bk;walk_at "rd";intro hz;refine⟨by rw[List.length_reverse];exact hz,?_⟩;rw[<-List.map_reverse];refine aQ aq (fun _=>true) (fun x=>aq (x.1,x.2+1)) (fun Δ=>∃x y,Δ=[none,x,y]) _ _ _ (fun m hm Δ hΔ=>?_) ⟨none,none,rfl⟩ ?_
 ·obtain⟨x,y,rfl⟩:=hΔ;refine⟨_,rfl,⟨_,_,rfl⟩,fun Q1 q=>q,fun _ Q2 q=>?_⟩;walk_at "rd";exact⟨sz3 2,q⟩
 ·rw[List.nil_append,List.filter_eq_self.mpr (fun _ _=>rfl)];unfold wsh at k;rw[List.map_map]at k;exact k
abbrev Sg:=Str×Int
theorem yq{α:Type}{f:α->Nat}:∀{l:List α}{x:α},x∈l->f x<=(l.map f).sum
 |y::l,x,h=>by
  rw[List.map_cons,List.sum_cons];rcases List.mem_cons.mp h with rfl|h
  ·lia
  ·have:=yq (f:=f) h;lia
abbrev bw:Pos:=⟨70,39,70,57⟩
abbrev lq:Str:="cancels_by.<locals>."++"<lambda>"
theorem oW{T p:Addr}{pos:Pos}{q:Str}{M:DH}{o:HD}(h:fH T pos q M) (hp:M p=none):fH T pos q (aw M p o):=by
 rcases h with h|⟨c,h1,h2⟩
 ·exact .inl (by rw[av (fun z=>by rw[z,hp]at h;cases h)];exact h)
 ·exact .inr ⟨c,by rw[av (fun z=>by rw[z,hp]at h1;cases h1)];exact h1,by rw[av (fun z=>by rw[z,hp]at h2;cases h2)];exact h2⟩
theorem zm{T:Addr}{pos:Pos}{q:Str}{M M1 M2:DH}(h:kQ T pos q M1 M2) (hT:fH T pos q M) (hle:LeM M M1):∃M3,kQ T pos q M M3/\LeM M3 M2/\∀a,M1 a≠none->M a=none->M3 a=none:=by
 rcases h with rfl|⟨c,h1,h2,rfl⟩
 ·exact⟨M,.inl rfl,hle,fun _ _ h=>h⟩
 ·have hc:M c=none:=hle.none h1;have hTT:M T=some (kA T pos none):=by
   rcases hT with h|⟨d,h,_⟩
   ·exact h
   ·have:=hle T _ h;exact h.trans (this.symm.trans h2)
  refine⟨_,.inr ⟨c,hc,hTT,rfl⟩,fun a o e=>?_,fun a n1 n2=>?_⟩
  case refine_2 =>
   have a1:a≠c:=fun z=>n1 (z▸h1);have a2:a≠T:=fun z=>by rw[z,hTT]at n2;cases n2
   rw[av a1,av a2];exact n2
  unfold aw at e ⊢
  split
  ·rename_i z;rw[if_pos z]at e;exact e
  ·rename_i z;rw[if_neg z]at e
   split
   ·rename_i z2;rw[if_pos z2]at e;exact e
   ·rename_i z2;rw[if_neg z2]at e;exact hle a o e
theorem nX{many b e:Nat}(hbe:b<e) (he:e<many) {p:Nat->Bool}(pb:p b=true) (pe:p e=true) (mid:∀x,b<x->x<e->p x=false) :
  ∃A B,(List.range many).filter p=A++b::e::B/\((List.range many).filter fun x=>p x&&(x != b&&x != e))=A++B/\b∉A:=by
 have er:List.range many=List.range' 0 b++b::(List.range' (b+1) (e-b-1)++e::List.range' (e+1) (many-e-1)):=by
  rw[List.range_eq_range',show many=b+((e-b-1)+(many-e-1+1)+1)by lia,<-List.range'_append_1,Nat.zero_add,List.range'_succ,<-List.range'_append_1,show b+1+(e-b-1)=e by lia,List.range'_succ];rw[show b+(e-b-1+(many-e-1+1)+1)-e-1=many-e-1 by lia]
 have f1:(List.range' (b+1) (e-b-1)).filter p=[]:=List.filter_eq_nil_iff.mpr fun x hx=>by
  rw[List.mem_range'_1]at hx;simp[mid x (by lia) (by lia)]
 have f2:((List.range' (b+1) (e-b-1)).filter fun x=>p x&&(x != b&&x != e))=[]:=List.filter_eq_nil_iff.mpr fun x hx=>by
  rw[List.mem_range'_1]at hx;simp[mid x (by lia) (by lia)]
 have g1:((List.range' 0 b).filter fun x=>p x&&(x != b&&x != e))=(List.range' 0 b).filter p:=List.filter_congr fun x hx=>by
  rw[List.mem_range'_1]at hx;have h1:(x != b)=true:=by simp;lia
  have h2:(x != e)=true:=by simp;lia
  rw[h1,h2];simp
 have g2:((List.range' (e+1) (many-e-1)).filter fun x=>p x&&(x != b&&x != e))=(List.range' (e+1) (many-e-1)).filter p:=List.filter_congr fun x hx=>by
  rw[List.mem_range'_1]at hx;have h1:(x != b)=true:=by simp;lia
  have h2:(x != e)=true:=by simp;lia
  rw[h1,h2];simp
 refine⟨(List.range' 0 b).filter p,(List.range' (e+1) (many-e-1)).filter p,?_,?_,fun h=>?_⟩
 ·rw[er,List.filter_append,List.filter_cons_of_pos pb,List.filter_append,f1,List.nil_append,List.filter_cons_of_pos pe]
 ·rw[er,List.filter_append,g1,List.filter_cons_of_neg (by simp),List.filter_append,f2,List.nil_append,List.filter_cons_of_neg (by simp),g2]
 ·have:=(List.mem_filter.mp h).1;rw[List.mem_range'_1]at this
  lia
theorem ig.all{R:Str×Int->Str×Int->Bool}{row:List (Str×Int)}{arcs:List (Nat×Nat)}(h:ig R row arcs) {x:Nat}(hx:x<row.length):∃a∈arcs,x=a.1∨x=a.2:=by
 have nd:∀{l:List (Nat×Nat)},(∀a∈l,a.1<a.2)->(l.Pairwise fun a b=>a.1<b.1/\b.1≠a.2/\b.2≠a.2)->(l.flatMap fun a=>[a.1,a.2]).Nodup:=by
  intro l
  induction l with
  |nil=>intro _ _;exact List.nodup_nil
  |cons a l ih =>
   intro h1 h2;rw[List.pairwise_cons]at h2;rw[List.flatMap_cons,List.nodup_append];have ha:=h1 a (.head _);refine⟨by simp;lia,ih (fun b hb=>h1 b (.tail _ hb)) h2.2,fun u hu v hv=>?_⟩;obtain⟨b,hb,hv⟩:=List.mem_flatMap.mp hv;have hab:=h2.1 b hb;have hb2:=h1 b (.tail _ hb);simp only[List.mem_cons,List.not_mem_nil,or_false]at hu hv;rcases hu with rfl|rfl<;>rcases hv with rfl|rfl<;>lia
 have hl:∀l:List (Nat×Nat),(l.flatMap fun a=>[a.1,a.2]).length=2*l.length:=by
  intro l
  induction l with
  |nil=>rfl
  |cons a l ih=>rw[List.flatMap_cons,List.length_append,ih];simp;lia
 have hN:=nd (fun a ha=>(h.arc a ha).1) (h.pw.imp fun z=>⟨z.1,z.2.1,z.2.2.1⟩)
 by_cases c:x∈arcs.flatMap fun a=>[a.1,a.2]
 ·obtain⟨a,ha,hv⟩:=List.mem_flatMap.mp c;simp only[List.mem_cons,List.not_mem_nil,or_false]at hv;exact⟨a,ha,hv⟩
 ·exfalso;have:=dh (x::arcs.flatMap fun a=>[a.1,a.2]) (List.range row.length) (List.nodup_cons.mpr ⟨c,hN⟩) fun y hy=>by
   rw[List.mem_range];rcases List.mem_cons.mp hy with rfl|hy
   ·exact hx
   ·obtain⟨a,ha,hv⟩:=List.mem_flatMap.mp hy;have:=h.arc a ha;simp only[List.mem_cons,List.not_mem_nil,or_false]at hv;rcases hv with rfl|rfl<;>lia
  rw[List.length_cons,hl,List.length_range,h.len]at this
  lia
theorem ig.apart{R:Str×Int->Str×Int->Bool}{row:List (Str×Int)}{arcs:List (Nat×Nat)}(h:ig R row arcs) {a b:Nat×Nat}(ha:a∈arcs) (hb:b∈arcs) (hne:a≠b) :
  a.1≠b.1/\a.1≠b.2/\a.2≠b.1/\a.2≠b.2/\¬ (a.1<b.1/\b.1<a.2/\a.2<b.2)/\¬ (b.1<a.1/\a.1<b.2/\b.2<a.2):=by
 have key:∀{l:List (Nat×Nat)},(l.Pairwise fun a b=>a.1<b.1/\b.1≠a.2/\b.2≠a.2/\¬ (b.1<a.2/\a.2<b.2))->a∈l->b∈l->(a.1<b.1/\b.1≠a.2/\b.2≠a.2/\¬ (b.1<a.2/\a.2<b.2))∨(b.1<a.1/\a.1≠b.2/\a.2≠b.2/\¬ (a.1<b.2/\b.2<a.2)):=by
  intro l
  induction l with
  |nil=>intro _ z;cases z
  |cons c l ih =>
   intro hp h1 h2;rw[List.pairwise_cons]at hp;rcases List.mem_cons.mp h1 with e1|k1
   ·rcases List.mem_cons.mp h2 with e2|k2
    ·exact absurd (e1.trans e2.symm) hne
    ·exact .inl (e1▸hp.1 b k2)
   ·rcases List.mem_cons.mp h2 with e2|k2
    ·exact .inr (e2▸hp.1 a k1)
    ·exact ih hp.2 k1 k2
 have a1:=(h.arc a ha).1;have b1:=(h.arc b hb).1;rcases key h.pw ha hb with z|z<;>lia
theorem leU{M M':DH}{p:Addr}{o:HD}(h:LeM M M') (hp:M p=none):LeM M (aw M' p o):=fun a u e=>by
 unfold aw
 split
 ·rename_i z;rw[z,hp]at e;cases e
 ·exact h a u e
def En(T:Addr) (M M':DH):Prop:=fH T bw lq M'/\∀a o,M a=some o->a≠T->M' a=some o
theorem E6{T:Addr}{M M1:DH}(hT:fH T bw lq M) (h:kQ T bw lq M M1):En T M M1:=⟨h.tab hT,fun a o e n=>h.keep n e⟩
theorem tQ{l:List (Nat×Nat)}:l.map stD=(l.map stI).map kM:=by rw[List.map_map];rfl
def oK(many:Nat) (l:List (Nat×Nat)) (x:Nat):Bool:=!(l.any fun a=>decide (a.2<many)&&(a.1==x || a.2==x))
def lft(many:Nat) (l:List (Nat×Nat)):List Nat:=(List.range many).filter (oK many l)
theorem uR{many:Nat}:lft many []=List.range many:=List.filter_eq_self.mpr fun _ _=>rfl
theorem Co{many:Nat}{l:List (Nat×Nat)}{a:Nat×Nat}(h:¬ a.2<many):lft many (l++[a])=lft many l:=by
 unfold lft;refine List.filter_congr fun x _=>?_;unfold oK;rw[List.any_append];simp[h]
theorem wH{R:Str×Int->Str×Int->Bool}{row:List (Str×Int)}{arcs L:List (Nat×Nat)}{many:Nat}(h:ig R row arcs) (hm:many<=row.length) (hp:L.Perm arcs) (hs:L.Pairwise fun x y=>x.2<=y.2) {i:Nat}{a:Nat×Nat}(hi:L[i]?=some a) (ha:a.2<many) :
  ∃A B,lft many (L.take i)=A++a.1::a.2::B/\lft many (L.take (i+1))=A++B/\a.1∉A:=by
 have haL:a∈arcs:=hp.mem_iff.mp (List.mem_of_getElem? hi);have h1:=h.arc a haL;have nd:arcs.Nodup:=by
  rw[List.nodup_iff_pairwise_ne];exact h.pw.imp fun z e=>by rw[e]at z;lia
 have ndL:L.Nodup:=hp.nodup_iff.mpr nd;have hil:i<L.length:=(List.getElem?_eq_some_iff.mp hi).1;have hia:L[i]=a:=by
  have:=List.getElem?_eq_getElem hil;rw[hi]at this;exact(Option.some.inj this).symm
 have nin:a∉L.take i:=fun z=>by
  obtain⟨j,hj,e⟩:=List.mem_take_iff_getElem.mp z;have hj2:j<i:=by lia
  have:=(List.getElem_inj (h₀:=by lia) (h₁:=hil) ndL).mp (e.trans hia.symm)
  lia
 have oth:∀b∈L.take i,b∈arcs/\a≠b:=fun b hb=>⟨hp.mem_iff.mp (List.mem_of_mem_take hb),fun z=>nin (z▸hb)⟩;have free:∀x,(x=a.1∨x=a.2)->oK many (L.take i) x=true:=fun x hx=>by
  unfold oK;rw[Bool.not_eq_true',List.any_eq_false];intro b hb;obtain⟨b1,b2⟩:=oth b hb;have:=h.apart haL b1 b2;simp;intro _;rcases hx with rfl|rfl<;>lia
 obtain⟨A,B,e1,e2,e3⟩:=nX (many:=many) (p:=oK many (L.take i)) h1.1 ha (free _ (.inl rfl)) (free _ (.inr rfl)) fun x x1 x2=>by
  obtain⟨b,hb,hx⟩:=h.all (x:=x) (by lia);have hbn:a≠b:=fun z=>by rw[<-z]at hx;lia
  have hap:=h.apart haL hb hbn;have b1:=h.arc b hb;have hb2:b.2<a.2:=by rcases hx with rfl|rfl<;>lia
  obtain⟨j,hj,ej⟩:=List.getElem_of_mem (hp.mem_iff.mpr hb);have hji:j<i:=by
   rcases Nat.lt_or_ge j i with z|z
   ·exact z
   ·exfalso;rcases Nat.lt_or_ge i j with y|y
    ·have:=List.pairwise_iff_getElem.mp hs i j hil hj y;rw[hia,ej]at this;lia
    ·have:i=j:=by lia
     subst this;exact hbn (hia.symm.trans ej)
  unfold oK;rw[Bool.not_eq_false',List.any_eq_true];refine⟨b,List.mem_take_iff_getElem.mpr ⟨j,by lia,ej⟩,?_⟩;simp;exact⟨by lia,by rcases hx with rfl|rfl<;>simp⟩
 refine⟨A,B,e1,?_,e3⟩;rw[<-e2];unfold lft;refine List.filter_congr fun x _=>?_;unfold oK;rw[List.take_add_one,hi,List.any_append];rw[Bool.eq_iff_iff];simp[ha];intro _;constructor
 ·rintro⟨v,w⟩;exact⟨fun z=>v z.symm,fun z=>w z.symm⟩
 ·rintro⟨v,w⟩;exact⟨fun z=>v z.symm,fun z=>w z.symm⟩
theorem Ct{A B:List Nat}{b:Nat}(h:b∉A) (hl:(A++b::B).length<=1000):qC ((A++b::B).map fun(k:Nat)=>D.int (k:Int)) (.int (b:Int))=some A.length:=by
 unfold qC;rw[if_pos ⟨rfl,by rw[fD];intro d hd;obtain⟨x,_,rfl⟩:=List.mem_map.mp hd;rfl,by rw[List.length_map];lia⟩];rw[List.map_append,List.map_cons,List.findIdx?_append];have n1:List.findIdx? (fun d=>eqD d (D.int (b:Int))) (A.map fun(k:Nat)=>D.int (k:Int))=none:=by
  rw[List.findIdx?_eq_none_iff];intro d hd;obtain⟨x,hx,rfl⟩:=List.mem_map.mp hd;have:x≠b:=fun z=>h (z▸hx);simp[eqD];lia
 rw[n1];simp[List.findIdx?_cons,eqD]
inductive Stp
 |can (k:Nat)
 |ord (k:Nat) (m:Str)
 |gro (k:Nat) (x y:Str×Int)
def cx:Stp->D
 |.can k=>.tup [.str "cancel",.int k]
 |.ord k m=>.tup [.str "order",.int k,.str m]
 |.gro k x y=>.tup [.str "grow",.int k,aq x,aq y]
def cj(row:List (Str×Int)):Stp->List (Str×Int)
 |.can k=>row.take k++row.drop (k+2)
 |.ord k m=>row.take k++[(m,(row.getD k ("",0)).2)]++row.drop (k+1)
 |.gro k x y=>row.take k++[x,y]++row.drop k
theorem Dq:((Str.ofString "cancel")==(Str.ofString "cancel"))=true:=by decide +kernel
theorem Ez:¬ ((Str.ofString "order")==(Str.ofString "cancel"))=true:=by decide +kernel
theorem EX:((Str.ofString "order")==(Str.ofString "order"))=true:=by decide +kernel
theorem Dn:¬ ((Str.ofString "grow")==(Str.ofString "cancel"))=true:=by decide +kernel
theorem EW:¬ ((Str.ofString "grow")==(Str.ofString "order"))=true:=by decide +kernel
theorem nW{row:List (Str×Int)}{i:Nat}:L2.c8 (row.map aq) none (some (i:Int))=(row.take i).map aq:=by rw[sD,List.map_take]
theorem so{row:List (Str×Int)}{i:Nat}:L2.c8 (row.map aq) (some (i:Int)) none=(row.drop i).map aq:=by rw[qE,List.map_drop]
theorem sL{row:List (Str×Int)}{i:Nat}:L2.c8 (row.map aq) (some ((i:Int)+1)) none=(row.drop (i+1)).map aq:=by
 rw[show(i:Int)+1=((i+1:Nat):Int)by lia,so]
theorem C3{row:List (Str×Int)}{i:Nat}:L2.c8 (row.map aq) (some ((i:Int)+2)) none=(row.drop (i+2)).map aq:=by
 rw[show(i:Int)+2=((i+2:Nat):Int)by lia,so]
theorem fM{row:List (Str×Int)}{i:Nat}{x:Str×Int}(h:row[i]?=some x):atI (row.map aq) (i:Int)=some (aq x):=du (by rw[List.getElem?_map,h];rfl)
def okD(row:List (Str×Int)):Stp->Prop
 |.can k=>k+1<row.length
 |.ord k _=>k<row.length
 |.gro k _ _=>k<=row.length
def lE:SpD:=fun ds M R=>∃(row:List (Str×Int)) (st:Stp),ds=[.tup (row.map aq),cx st]/\okD row st/\row.length<=500/\R (.tup ((cj row st).map aq)) M
theorem vI(F:Fun K "_law_done" "_law_done" lS f fd) (T:Txt mg) :bj P w K mg base CX0 1 f fd ["_law_row_here","_law_step_here"] (spD K 2 lE):=by
 have nd:=nZ.nd;refine F.okR rfl nZ (fun cdv A outer s H E hr=>⟨_,(ai (aO (i:=2) nd rfl (Or.inl rfl) (aH aI (af 1) ak (fun _ _=>rfl)))
   (ai (bh (aF (ft hr.units) (aH aI (af 1) ak (fun _ _=>rfl)) aW nbh) (bf (au (aS (aP aM (bB (af 0) cL (bu (af 2))) (bB (af 0) (bu (aP aM (af 2) ak)) cL))))) aV)
   (bf (ai (bh (aF (ft hr.units) (aH aI (af 1) ak (fun _ _=>rfl)) aW nbh) (bf (au (aS (aP aM (aP aM (bB (af 0) cL (bu (af 2))) (aU (ae (aU (ae (aH aI (af 1) ak (fun _ _=>rfl)) (ae (aH aI (aH aI (af 0) (af 2) (fun _ _=>rfl)) ak (fun _ _=>rfl)) ah))) ah))) (bB (af 0) (bu (aP aM (af 2) ak)) cL))))) aV)
   (bf (au (aS (aP aM (aP aM (bB (af 0) cL (bu (af 2))) (aU (ae (aH aI (af 1) ak (fun _ _=>rfl)) (ae (aH aI (af 1) ak (fun _ _=>rfl)) ah)))) (bB (af 0) (bu (af 2)) cL))))))))),fun ds M R _ hS bk=>?_⟩)
 obtain⟨row,st,rfl,hok,hl,k⟩:=hS;refine bk ?_;clear bk;cases st with
 |can i =>
  simp only[cx];walk_at "rd";rw[if_pos Dq];refine ay ?_;walk_at "rd";rw[nW,C3];refine⟨_,if_pos (sz3 _ (by simp;lia)),?_⟩;rw[<-List.map_append];exact k
 |ord i m =>
  obtain⟨x,hx⟩:∃x,row[i]?=some x:=⟨_,List.getElem?_eq_getElem hok⟩;have e:(row.getD i ("",0)).2=x.2:=by rw[List.getD_eq_getElem?_getD,hx];rfl
  simp only[cx];walk_at "rd";rw[if_neg Ez];refine ay ?_;walk_at "rd";rw[if_pos EX];refine ay ?_;walk_at "rd";rw[nW,sL];refine⟨_,fM hx,.int x.2,rfl,sz3 2,sz3 1,_,if_pos (sz3 _ (by simp;lia)),_,(if_pos (sz3 _ (by simp;lia)):kl (D.tup ((row.take i).map aq++[D.tup [D.str m,D.int x.2]])) (D.tup ((row.drop (i+1)).map aq))=_),?_⟩;simp only[cj,e,List.map_append,List.map_cons,List.map_nil,aq]at k;exact k
 |gro i x y =>
  have hi:i<=row.length:=hok;simp only[cx,aq];walk_at "rd";rw[if_neg Dn];refine ay ?_;walk_at "rd";rw[if_neg EW];refine ay ?_;walk_at "rd";simp only[<-aq.eq_1]at *
  rw[nW,so];refine⟨aq y,rfl,sz3 2,_,if_pos (sz3 _ (by simp;lia)),_,(if_pos (sz3 _ (by simp;lia)):kl (D.tup ((row.take i).map aq++[aq x,aq y])) (D.tup ((row.drop i).map aq))=_),?_⟩;simp only[cj,List.map_append,List.map_cons,List.map_nil]at k;exact k
def okW(o:List (Str×Str)) (row:List Sg):Stp->Prop
 |.can k=>∃x y,row[k]?=some x/\row[k+1]?=some y/\cB o x y=true
 |.ord k m=>∃x,row[k]?=some x/\lB o x.2 x.1 m=true
 |.gro k x y=>k<=row.length/\x.2=y.2+1/\lB o y.2 x.1 y.1=true
theorem Ck{o:List (Str×Str)}{row:List Sg}{st:Stp}(h:okW o row st):okD row st:=by
 cases st with
 |can k =>
  obtain⟨x,y,_,hy,_⟩:=h;exact(List.getElem?_eq_some_iff.mp hy).1
 |ord k m =>
  obtain⟨x,hx,_⟩:=h;exact(List.getElem?_eq_some_iff.mp hx).1
 |gro k x y=>exact h.1
theorem Dj{row:List Sg}{st:Stp}:(cj row st).length<=row.length+2:=by
 cases st<;>simp[cj]<;>lia
def Wk(o:List (Str×Str)):List Sg->List Stp->List Sg->Prop
 |row,[],e=>row=e
 |row,s::r,e=>okW o row s/\Wk o (cj row s) r e
theorem Wk.app{o:List (Str×Str)}:∀{s t:List Stp}{a b c:List Sg},Wk o a s b->Wk o b t c->Wk o a (s++t) c
 |[],t,a,b,c,h1,h2=>by
  have h1:a=b:=h1;subst h1;exact h2
 |s::r,t,a,b,c,h1,h2=>⟨h1.1,Wk.app h1.2 h2⟩
theorem Wk.snoc{o:List (Str×Str)}{s:List Stp}{st:Stp}{a b c:List Sg}(h:Wk o a s b) (h1:okW o b st) (h2:cj b st=c):Wk o a (s++[st]) c:=h.app ⟨h1,h2⟩
theorem kX:∀{a b:List Nat},a.Pairwise (·<·)->b.Pairwise (·<·)->(∀x,x∈a↔x∈b)->a=b
 |[],[],_,_,_=>rfl
 |[],y::b,_,_,h=>absurd ((h y).mpr (.head _)) (by simp)
 |x::a,[],_,_,h=>absurd ((h x).mp (.head _)) (by simp)
 |x::a,y::b,ha,hb,h=>by
  rw[List.pairwise_cons]at ha hb;have e:x=y:=by
   rcases List.mem_cons.mp ((h x).mp (.head _))with z|z
   ·exact z
   ·rcases List.mem_cons.mp ((h y).mpr (.head _))with w|w
    ·exact w.symm
    ·have:=ha.1 y w;have:=hb.1 x z;lia
  subst e;rw[kX ha.2 hb.2 fun z=>⟨fun hz=>?_,fun hz=>?_⟩]
  ·rcases List.mem_cons.mp ((h z).mp (.tail _ hz))with w|w
   ·have:=ha.1 z hz;lia
   ·exact w
  ·rcases List.mem_cons.mp ((h z).mpr (.tail _ hz))with w|w
   ·have:=hb.1 z hz;lia
   ·exact w
theorem eG{p:Nat->Bool}{n:Nat}:((List.range n).filter p).Pairwise (·<·):=List.pairwise_lt_range.filter _
theorem vn{T:List Nat}{n:Nat}(h:T.Pairwise (·<·)) (hn:∀x∈T,x<n):(List.range n).filter (fun x=>decide (x∈T))=T :=
 kX eG h fun x=>by
  rw[List.mem_filter,List.mem_range,decide_eq_true_eq];exact⟨fun z=>z.2,fun z=>⟨hn x z,z⟩⟩
theorem tT{o:List (Str×Str)}{f:Nat->Sg}{A B:List Nat}{x y:Nat}(h:cB o (f x) (f y)=true):okW o ((A++x::y::B).map f) (.can A.length)/\cj ((A++x::y::B).map f) (.can A.length)=(A++B).map f:=by
 have hl:(A.map f).length=A.length:=List.length_map _;constructor
 ·refine⟨f x,f y,?_,?_,h⟩
  ·rw[List.map_append,List.getElem?_append_right (by lia),hl,Nat.sub_self];rfl
  ·rw[List.map_append,List.getElem?_append_right (by lia),hl,Nat.add_sub_cancel_left];rfl
 ·simp only[cj];rw[List.map_append,List.map_append,List.take_append_of_le_length (by lia),List.take_of_length_le (by lia),List.drop_append,List.drop_of_length_le (by lia),hl,Nat.add_sub_cancel_left];rfl
def gG(one other:List Sg):Nat->List (Nat×Nat)->List Stp
 |_,[]=>[]
 |i,s::r=>(if(sg one s.1).1=(sg other s.2).1 then[]else[.ord i (sg other s.2).1])++gG one other (i+1) r
theorem xv{o:List (Str×Str)}{one other:List Sg}:∀(ss:List (Nat×Nat)) (pre:List Sg),(∀s∈ss,(sg one s.1).2=(sg other s.2).2/\lB o (sg one s.1).2 (sg one s.1).1 (sg other s.2).1=true)->Wk o (pre++ss.map fun s=>sg one s.1) (gG one other pre.length ss) (pre++ss.map fun s=>sg other s.2)
 |[],pre,_=>rfl
 |s::ss,pre,h=>by
  have h0:=h s (.head _);have ih:=xv ss (pre++[sg other s.2]) fun s hs=>h s (.tail _ hs);rw[List.length_append,List.length_singleton,List.append_assoc,List.append_assoc]at ih;rw[gG,List.map_cons,List.map_cons]
  split
  ·rename_i e;rw[show sg one s.1=sg other s.2 from Prod.ext e h0.1];exact ih
  ·have hg:(pre++sg one s.1::ss.map fun s=>sg one s.1)[pre.length]?=some (sg one s.1):=by
    rw[List.getElem?_append_right (Nat.le_refl _),Nat.sub_self];rfl
   refine⟨⟨_,hg,h0.2⟩,?_⟩;have e:cj (pre++sg one s.1::ss.map fun s=>sg one s.1) (.ord pre.length (sg other s.2).1)=pre++([sg other s.2]++ss.map fun s=>sg one s.1):=by
    simp only[cj];rw[List.getD_eq_getElem?_getD,hg,List.take_left,show pre.length+1=(pre++[sg one s.1]).length by simp,show pre++sg one s.1::ss.map (fun s=>sg one s.1)=(pre++[sg one s.1])++ss.map (fun s=>sg one s.1)by simp,List.drop_left,List.append_assoc];rw[Option.getD_some,h0.1]
   rw[e];exact ih
theorem ue{o:List (Str×Str)}{f:Nat->Sg}{A B:List Nat}{x y:Nat}(h:(f x).2=(f y).2+1) (h2:lB o (f y).2 (f x).1 (f y).1=true):okW o ((A++B).map f) (.gro A.length (f x) (f y))/\cj ((A++B).map f) (.gro A.length (f x) (f y))=(A++x::y::B).map f:=by
 have hl:(A.map f).length=A.length:=List.length_map _;constructor
 ·exact⟨by rw[List.length_map,List.length_append];lia,h,h2⟩
 ·simp only[cj];rw[List.map_append,List.map_append,<-hl,List.take_left,List.drop_left,List.append_assoc];rfl
theorem Cu{many b e:Nat}(hbe:b<e) (he:e<many) {p:Nat->Bool}(pb:p b=true) (pe:p e=true) (mid:∀x,b<x->x<e->p x=false) :
  ∃B,(List.range many).filter p=(List.range b).filter p++b::e::B/\((List.range many).filter fun x=>p x&&(x != b&&x != e))=(List.range b).filter p++B:=by
 obtain⟨A,B,h1,h2,h3⟩:=nX hbe he pb pe mid;have hA:A=(List.range b).filter p:=by
  have hi:=eG (p:=p) (n:=many);rw[h1,List.pairwise_append]at hi;refine kX hi.1 eG fun x=>?_;rw[List.mem_filter,List.mem_range];constructor
  ·intro hx;have:=hi.2.2 x hx b (.head _);have hm:x∈(List.range many).filter p:=by rw[h1];exact List.mem_append_left _ hx
   exact⟨this,(List.mem_filter.mp hm).2⟩
  ·rintro⟨hx1,hx2⟩;have hm:x∈(List.range many).filter p:=List.mem_filter.mpr ⟨List.mem_range.mpr (by lia),hx2⟩;rw[h1]at hm;rcases List.mem_append.mp hm with z|z
   ·exact z
   ·have hB:=(List.pairwise_cons.mp hi.2.1).1;rcases List.mem_cons.mp z with z|z
    ·lia
    ·have:=hB x z;lia
 exact⟨B,by rw[h1,hA],by rw[h2,hA]⟩
def dR(m n:Nat) (arcs:List (Nat×Nat)):List (Nat×Nat):=(arcs.filter fun a=>decide (a.1<m)&&decide (m<=a.2)).map fun a=>(a.1,m+n-1-a.2)
def jv(m n:Nat) (arcs:List (Nat×Nat)):List (Nat×Nat):=(arcs.filter fun a=>decide (m<=a.1)).map fun a=>(m+n-1-a.2,m+n-1-a.1)
theorem mR{m n:Nat}{arcs:List (Nat×Nat)}{s:Nat×Nat}:s∈dR m n arcs↔∃a∈arcs,a.1<m/\m<=a.2/\s=(a.1,m+n-1-a.2):=by
 unfold dR;simp only[List.mem_map,List.mem_filter,Bool.and_eq_true,decide_eq_true_eq];constructor
 ·rintro⟨a,⟨h1,h2,h3⟩,rfl⟩;exact⟨a,h1,h2,h3,rfl⟩
 ·rintro⟨a,h1,h2,h3,rfl⟩;exact⟨a,⟨h1,h2,h3⟩,rfl⟩
theorem pB{m n:Nat}{arcs:List (Nat×Nat)}{s:Nat×Nat}:s∈jv m n arcs↔∃a∈arcs,m<=a.1/\s=(m+n-1-a.2,m+n-1-a.1):=by
 unfold jv;simp only[List.mem_map,List.mem_filter,decide_eq_true_eq];constructor
 ·rintro⟨a,⟨h1,h2⟩,rfl⟩;exact⟨a,h1,h2,rfl⟩
 ·rintro⟨a,h1,h2,rfl⟩;exact⟨a,⟨h1,h2⟩,rfl⟩
theorem Bh{a b:List Sg}{i:Nat}(h:i<a.length):sg (a++b) i=sg a i:=by
 unfold sg;rw[List.getD_eq_getElem?_getD,List.getD_eq_getElem?_getD,List.getElem?_append_left h]
theorem Df{a b:List Sg}{i:Nat}(h:a.length<=i):sg (a++b) i=sg b (i-a.length):=by
 unfold sg;rw[List.getD_eq_getElem?_getD,List.getD_eq_getElem?_getD,List.getElem?_append_right h]
theorem bH{r:List Sg}:(wsh r).length=r.length:=by unfold wsh;simp
theorem sJ{r:List Sg}{j:Nat}(h:j<r.length):sg (wsh r) j=((sg r (r.length-1-j)).1,(sg r (r.length-1-j)).2+1):=by
 unfold sg wsh;rw[List.getD_eq_getElem?_getD,List.getD_eq_getElem?_getD,List.getElem?_map,List.getElem?_reverse h,List.getElem?_eq_getElem (by lia)];rfl
section
variable{ord:List (Str×Str)}{one other:List Sg}{arcs:List (Nat×Nat)}
theorem tU(h:ig (cB ord) (one++wsh other) arcs) {s:Nat×Nat}(hs:s∈dR one.length other.length arcs):s.1<one.length/\s.2<other.length/\(sg one s.1).2=(sg other s.2).2/\lB ord (sg one s.1).2 (sg one s.1).1 (sg other s.2).1=true:=by
 obtain⟨a,ha,h1,h2,rfl⟩:=mR.mp hs;obtain⟨g1,g2,g3⟩:=h.arc a ha;rw[List.length_append,bH]at g2;rw[Bh h1,Df h2,sJ (by lia),show other.length-1-(a.2-one.length)=one.length+other.length-1-a.2 by lia]at g3;unfold cB at g3;rw[Bool.and_eq_true,beq_iff_eq]at g3;exact⟨h1,by simp only;lia,by simp only at g3 ⊢;lia,g3.2⟩
theorem AE(h:ig (cB ord) (one++wsh other) arcs) {s:Nat×Nat}(hs:s∈jv one.length other.length arcs):s.1<s.2/\s.2<other.length/\(sg other s.1).2=(sg other s.2).2+1/\lB ord (sg other s.2).2 (sg other s.1).1 (sg other s.2).1=true:=by
 obtain⟨a,ha,h1,rfl⟩:=pB.mp hs;obtain⟨g1,g2,g3⟩:=h.arc a ha;rw[List.length_append,bH]at g2;rw[Df h1,Df (by lia),sJ (by lia),sJ (by lia),show other.length-1-(a.1-one.length)=one.length+other.length-1-a.1 by lia,show other.length-1-(a.2-one.length)=one.length+other.length-1-a.2 by lia]at g3;unfold cB at g3;rw[Bool.and_eq_true,beq_iff_eq]at g3;simp only at g3 ⊢;refine⟨by lia,by lia,by lia,?_⟩;rw[<-Ay (t:=(sg other (one.length+other.length-1-a.1)).2+1) (by lia)];exact g3.2
theorem An(h:ig (cB ord) (one++wsh other) arcs) {L:List (Nat×Nat)}(hp:L.Perm arcs):lft one.length L=(dR one.length other.length arcs).map (·.1):=by
 refine kX eG ?_ fun x=>?_
 ·unfold dR;rw[List.map_map,List.pairwise_map];exact(h.pw.imp fun z=>z.1).filter _
 ·unfold lft;rw[List.mem_filter,List.mem_range,List.mem_map];constructor
  ·rintro⟨h1,h2⟩;obtain⟨a,ha,hx⟩:=h.all (x:=x) (by rw[List.length_append];lia);unfold oK at h2;rw[Bool.not_eq_true',List.any_eq_false]at h2;have h3:=h2 a (hp.mem_iff.mpr ha);have:=(h.arc a ha).1;simp only[Bool.and_eq_true,Bool.or_eq_true,decide_eq_true_eq,beq_iff_eq,not_and,not_or]at h3;have h4:one.length<=a.2:=by
    rcases Nat.lt_or_ge a.2 one.length with z|z
    ·have:=h3 z;lia
    ·exact z
   have h5:x=a.1:=by lia
   exact⟨_,mR.mpr ⟨a,ha,by lia,h4,rfl⟩,h5.symm⟩
  ·rintro⟨s,hs,rfl⟩;obtain⟨a,ha,h1,h2,rfl⟩:=mR.mp hs;refine⟨h1,?_⟩;unfold oK;rw[Bool.not_eq_true',List.any_eq_false];intro b hb;have hb':=hp.mem_iff.mp hb;simp only[Bool.and_eq_true,Bool.or_eq_true,decide_eq_true_eq,beq_iff_eq,not_and,not_or];intro hb2;have hne:a≠b:=fun z=>by rw[z]at h2;lia
   have:=h.apart ha hb' hne
   lia
def thr(S Q:List (Nat×Nat)):List Nat:=S.map (·.2)++Q.flatMap fun q=>[q.1,q.2]
theorem uy{S Q:List (Nat×Nat)}{x:Nat}:x∈thr S Q↔(∃s∈S,x=s.2)∨∃q∈Q,x=q.1∨x=q.2:=by
 unfold thr;rw[List.mem_append,List.mem_map,List.mem_flatMap];refine or_congr ⟨fun⟨s,h1,h2⟩=>⟨s,h1,h2.symm⟩,fun⟨s,h1,h2⟩=>⟨s,h1,h2.symm⟩⟩ ?_;simp
theorem wo{S Q:List (Nat×Nat)}{q:Nat×Nat}:thr S (Q++[q])=thr S Q++[q.1,q.2]:=by
 unfold thr;rw[List.flatMap_append];simp
theorem BI(h:ig (cB ord) (one++wsh other) arcs) {Q:List (Nat×Nat)}(hp:Q.Perm (jv one.length other.length arcs)) (hs:Q.Pairwise fun a b=>a.1<=b.1) {i:Nat}{q:Nat×Nat}(hi:Q[i]?=some q) :
  ∀x∈thr (dR one.length other.length arcs) (Q.take i),x≠q.1/\x≠q.2/\¬ (q.1<x/\x<q.2):=by
 intro x hx;have hq:=hp.mem_iff.mp (List.mem_of_getElem? hi);obtain⟨a,ha,h1,rfl⟩:=pB.mp hq;have a2:=h.arc a ha;rw[List.length_append,bH]at a2;have ndA:arcs.Nodup:=by
  rw[List.nodup_iff_pairwise_ne];exact h.pw.imp fun z e=>by rw[e]at z;lia
 have hil:i<Q.length:=(List.getElem?_eq_some_iff.mp hi).1;have hia:Q[i]=(one.length+other.length-1-a.2,one.length+other.length-1-a.1):=by
  have:=List.getElem?_eq_getElem hil;rw[hi]at this;exact(Option.some.inj this).symm
 rcases uy.mp hx with⟨s,hs1,rfl⟩|⟨q',hq1,hx'⟩
 ·obtain⟨b,hb,b1,b2,rfl⟩:=mR.mp hs1;have b3:=h.arc b hb;rw[List.length_append,bH]at b3;have hne:a≠b:=fun z=>by rw[z]at h1;lia
  have:=h.apart ha hb hne;simp only
  lia
 ·obtain⟨j,hj,ej⟩:=List.mem_take_iff_getElem.mp hq1;have hji:j<i:=by lia
  have hle:=List.pairwise_iff_getElem.mp hs j i (by lia) hil hji;obtain⟨b,hb,b1,rfl⟩:=pB.mp (hp.mem_iff.mp (List.mem_of_mem_take hq1));have b3:=h.arc b hb;rw[List.length_append,bH]at b3;have ndQ:Q.Nodup:=by
   refine hp.nodup_iff.mpr ?_;unfold jv;rw[List.nodup_iff_pairwise_ne,List.pairwise_map];have:=List.Pairwise.and_mem.mp (h.pw.filter fun a:Nat×Nat=>decide (one.length<=a.1));refine this.imp ?_;rintro u v ⟨hu,hv,z⟩ e;have u1:=h.arc u (List.mem_filter.mp hu).1;have v1:=h.arc v (List.mem_filter.mp hv).1;rw[List.length_append,bH]at u1 v1;simp only[Prod.mk.injEq]at e
   lia
  have hne:a≠b:=fun z=>by
   subst z;have:=(List.getElem_inj (h₀:=by lia) (h₁:=hil) ndQ).mp (ej.trans hia.symm)
   lia
  rw[ej,hia]at hle;have:=h.apart ha hb hne;simp only at hle hx' ⊢;rcases hx' with rfl|rfl<;>lia
theorem BG{T:List Nat}{n l r:Nat}(nd:T.Nodup) (h1:l<r) (h2:r<n) (hx:∀x∈T,x≠l/\x≠r/\¬ (l<x/\x<r)) :
  ∃A B,(List.range n).filter (fun x=>decide (x∈T))=A++B/\(List.range n).filter (fun x=>decide (x∈T++[l,r]))=A++l::r::B/\A.length=(T.filter fun x=>decide (x<l)).length/\(T++[l,r]).Nodup:=by
 obtain⟨B,e1,e2⟩:=Cu (many:=n) (p:=fun x=>decide (x∈T++[l,r])) h1 h2 (by simp) (by simp) fun x x1 x2=>by
  rw[decide_eq_false_iff_not,List.mem_append];rintro(z|z)
  ·have:=hx x z;lia
  ·simp at z;lia
 have hl:l∉T:=fun z=>(hx l z).1 rfl;have hr:r∉T:=fun z=>(hx r z).2.1 rfl;refine⟨_,B,?_,e1,?_,?_⟩
 ·rw[<-e2];refine List.filter_congr fun x _=>?_;rw[Bool.eq_iff_iff];simp;constructor
  ·intro z;exact⟨.inl z,fun w=>hl (w▸z),fun w=>hr (w▸z)⟩
  ·rintro⟨z|z|z,w1,w2⟩
   ·exact z
   ·exact absurd z w1
   ·exact absurd z w2
 ·have hA:∀x,x∈(List.range l).filter (fun x=>decide (x∈T++[l,r]))↔x∈T.filter fun x=>decide (x<l):=fun x=>by
   rw[List.mem_filter,List.mem_filter,List.mem_range,decide_eq_true_eq,decide_eq_true_eq,List.mem_append];constructor
   ·rintro⟨z1,z2|z2⟩
    ·exact⟨z2,z1⟩
    ·simp at z2;lia
   ·rintro⟨z1,z2⟩;exact⟨z2,.inl z1⟩
  have n1:((List.range l).filter (fun x=>decide (x∈T++[l,r]))).Nodup:=by
   rw[List.nodup_iff_pairwise_ne];exact(eG).imp fun z=>by lia
  have n2:(T.filter fun x=>decide (x<l)).Nodup:=nd.sublist List.filter_sublist;have l1:=dh _ _ n1 fun x hx=>(hA x).mp hx;have l2:=dh _ _ n2 fun x hx=>(hA x).mpr hx
  lia
 ·rw[List.nodup_append];refine⟨nd,by simp;lia,fun x hx' y hy=>?_⟩;have:=hx x hx';simp at hy;rcases hy with rfl|rfl<;>lia
theorem wN(h:ig (cB ord) (one++wsh other) arcs):((dR one.length other.length arcs).map (·.2)).Pairwise (·<·):=by
 unfold dR;rw[List.map_map,List.pairwise_map];have hf:=List.Pairwise.and_mem.mp (h.pw.filter fun a:Nat×Nat=>decide (a.1<one.length)&&decide (one.length<=a.2));refine hf.imp ?_;rintro u v ⟨hu,hv,z⟩;obtain⟨u1,u2⟩:=List.mem_filter.mp hu;obtain⟨v1,v2⟩:=List.mem_filter.mp hv;have u3:=h.arc u u1;have v3:=h.arc v v1;rw[List.length_append,bH]at u3 v3;simp only[Bool.and_eq_true,decide_eq_true_eq]at u2 v2;simp only[Function.comp]
 lia
theorem Al(h:ig (cB ord) (one++wsh other) arcs) {Q:List (Nat×Nat)}(hp:Q.Perm (jv one.length other.length arcs)) {x:Nat}(hx:x<other.length):x∈thr (dR one.length other.length arcs) Q:=by
 obtain⟨a,ha,e⟩:=h.all (x:=one.length+other.length-1-x) (by rw[List.length_append,bH];lia);have a1:=h.arc a ha;rw[List.length_append,bH]at a1;rw[uy]
 by_cases hc:a.1<one.length
 ·exact .inl ⟨_,mR.mpr ⟨a,ha,hc,by lia,rfl⟩,by simp only;lia⟩
 ·exact .inr ⟨_,hp.mem_iff.mpr (pB.mpr ⟨a,ha,by lia,rfl⟩),by simp only;lia⟩
end
def rk:Stp->Nat
 |.can _=>0
 |.ord _ _=>1
 |.gro _ _ _=>2
theorem n9{r:List Sg}:(List.range r.length).map (sg r)=r:=by
 apply List.ext_getElem?;intro i
 by_cases h:i<r.length
 ·rw[List.getElem?_map,List.getElem?_range h];simp[sg,h]
 ·rw[List.getElem?_eq_none (by simpa using h),List.getElem?_eq_none (by lia)]
theorem tY{sts:List Stp}{st:Stp}{n:Nat}(h:∀s∈sts,rk s=n) (h1:rk st=n):∀s∈sts++[st],rk s=n:=fun s hs=>by
 rcases List.mem_append.mp hs with z|z
 ·exact h s z
 ·rw[List.mem_singleton.mp z];exact h1
def gE(Tb:Addr):SpD:=fun ds M R=>∃(ord:List (Str×Str)) (arcs:List (Nat×Nat)) (one other:List Sg),ds=[.tup (arcs.map stD),.int one.length]/\ig (cB ord) (one++wsh other) arcs/\one.length+other.length<=24/\fH Tb bw lq M/\∀sts M',kQ Tb bw lq M M'->sts.length<=12->(∀s∈sts,rk s=0)->Wk ord one sts ((dR one.length other.length arcs).map fun s=>sg one s.1)->R (.lst (sts.map cx)) M'
theorem kJ(F:Fun K "cancels_by" "cancels_by" eS f fd) (T:Txt mg) {cc Tb:Addr} (hC:PySem.W.CodeHd base cc Tb) (hB:base.BuiltinsAt mg Tb) (hcode:fd.code=.ref cc) :bj P w K mg base CX0 1 f fd ["arcs","many"] (spD K 2 (gE Tb)):=by
 have nd:=gg.nd;refine F.okRC hcode rfl gg (fun A outer s H E hr=>⟨_,(ai (aO (i:=2) nd rfl (Or.inl rfl) (oO rfl rfl T.b_list rfl T.b_range (ae (af 1) ah)))
   (ai (aO (i:=3) nd rfl (Or.inl rfl) (dM ah))
   (ai (cP PassesOwn.never rfl (bp (z8 (c:=cc) (T:=Tb) hr.units hr.depth rfl T.b_sorted (ae (af 0) ah) hC hB rfl rfl rfl rfl (fun _ _ _ _=>rfl) rfl (by decide) rfl rfl rfl (by decide))) (j7 rfl (cm (bg (i:=4) nd rfl (Or.inl rfl)) (cm (bg (i:=5) nd rfl (Or.inl rfl)) kh))) (au (bh (aF nh (af 5) (af 1) nbh) (ai (aO (i:=6) nd rfl (Or.inl rfl) (rH hr.units (af 2) (af 4)))
   (ai (dH (ix (af 3) (aU (ae aW (ae (af 6) ah)))))
   (au (Cz (af 2) (bu (af 6)) (bu (aP aM (af 6) ak)))))) aV)))
   (pJ 3 (au (bT (af 3))))))),fun ds M R _ hS bk=>?_⟩)
 obtain⟨ord,arcs,one,other,rfl,hD,h24,hT,k⟩:=hS;refine bk ?_;clear bk;have hrl:(one++wsh other).length=one.length+other.length:=by rw[List.length_append,bH]
 have hal:arcs.length<=12:=by have:=hD.len;lia
 have hmr:one.length<=(one++wsh other).length:=by lia
 walk_at "rd";refine⟨by lia,by lia,fun l hl=>⟨sz3 0,fun p hp=>⟨arcs.map stI,tQ,by rw[List.length_map];lia,oW (oW hT hl) hp,fun arcs' M2 hP hs hS hz=>?_⟩⟩⟩;have hlp:l≠p:=fun z=>by rw[z,aj]at hp;cases hp
 have hpM:M p=none:=by rw[av (Ne.symm hlp)]at hp;exact hp
 obtain⟨L,pL,rfl⟩:=jk hP arcs rfl;have hs':L.Pairwise fun x y=>x.2<=y.2:=by
  rw[List.pairwise_map]at hs;exact hs.imp fun z=>Int.ofNat_le.mp z
 have hTl:Tb≠l:=fun z=>by
  rcases hT with h|⟨_,h,_⟩<;>rw[z,hl]at h<;>cases h
 have hTp:Tb≠p:=fun z=>by
  rcases hT with h|⟨_,h,_⟩<;>rw[z,hpM]at h<;>cases h
 have m1:M2 l=some (.lst ((lft one.length (L.take 0)).map fun(k:Nat)=>D.int (k:Int))):=by
  refine hS.keep (Ne.symm hTl) ?_;rw[av hlp,aj,List.take_zero,uR,Int.toNat_natCast];congr 2;unfold ie;exact List.map_congr_left fun x _=>by rw[Int.zero_add]
 have m2:M2 p=some (.lst []):=hS.keep (Ne.symm hTp) aj;obtain⟨M3,hS3,hle3,hn3⟩:=zm hS hT (fun a o e=>by
  have n1:a≠l:=fun z=>by rw[z,hl]at e;cases e
  have n2:a≠p:=fun z=>by rw[z,hpM]at e;cases e
  rw[av n2,av n1];exact e)
 have n3l:M3 l=none:=hn3 l (by rw[av hlp,aj];simp) hl;have n3p:M3 p=none:=hn3 p (by rw[aj];simp) hpM;rw[<-tQ];refine aZ (fun i Δ M'=>∃x4 x5 x6 sts,Δ=[some (D.tup (arcs.map stD)),some (D.int (one.length:Int)),some (D.ref l),some (D.ref p),x4,x5,x6]/\LeM M3 M'/\M' l=some (.lst ((lft one.length (L.take i)).map fun(k:Nat)=>D.int (k:Int)))/\M' p=some (.lst (sts.map cx))/\sts.length<=i/\(∀s∈sts,rk s=0)/\Wk ord one sts ((lft one.length (L.take i)).map (sg one))) ⟨none,none,none,[],rfl,hle3,m1,m2,Nat.le_refl _,(fun s hs=>by cases hs),by rw[List.take_zero,uR];exact n9.symm⟩ ?_ ?_
 ·rintro i d Δ M' X hd ⟨x4,x5,x6,sts,rfl,hle,hMl,hMp,hwl,hrk,hWk⟩ k';obtain⟨a,hi,rfl⟩:=eW hd;have hil:i<L.length:=(List.getElem?_eq_some_iff.mp hi).1;rw[pL.length_eq]at hil;refine⟨_,rfl,?_⟩;walk_at "rd";refine cE (fun ha=>?_) (fun ha=>?_)
  ·obtain⟨A,B,e1,e2,e3⟩:=wH hD hmr pL hs' hi (Int.ofNat_lt.mp ha);have bG:(A++a.1::a.2::B).length<=one.length:=by
    rw[<-e1];unfold lft;exact Nat.le_trans (List.length_filter_le _ _) (Nat.le_of_eq List.length_range)
   have er:rdM M' (D.ref l)=.lst ((A++a.1::a.2::B).map fun(k:Nat)=>D.int (k:Int)):=by simp only[rdM,hMl,e1]
   rw[er];have hl1:aw M' p (HD.lst (sts.map cx++[D.tup [D.str (Str.ofString "cancel"),D.int (A.length:Int)]])) l=some (.lst ((A++a.1::a.2::B).map fun(k:Nat)=>D.int (k:Int))):=by rw[av hlp,hMl,e1]
   refine⟨⟨_,rfl⟩,_,rfl,_,Ct e3 (by lia),_,hMp,sz3 2,_,hMp,by rw[List.length_map];exact Nat.lt_of_lt_of_le (by lia:sts.length<1000) (sz3 1000),_,hl1,by lia,by lia,?_,k' _ _ ⟨_,_,_,sts++[.can A.length],rfl,leU (leU hle n3p) n3l,?_,?_,?_,tY hrk rfl,?_⟩⟩
   ·rw[List.length_map,List.length_append,List.length_cons,List.length_cons];lia
   ·rw[aj,e2,Int.toNat_natCast,show((A.length:Int)+2).toNat=A.length+2 by lia,<-List.map_take,<-List.map_drop,List.take_left,List.map_append];congr 3;rw[show A.length+2=(A++[a.1,a.2]).length by simp,show A++a.1::a.2::B=(A++[a.1,a.2])++B by simp,List.drop_left]
   ·rw[av (Ne.symm hlp),aj,List.map_append];rfl
   ·rw[List.length_append,List.length_singleton];lia
   ·rw[e1]at hWk;rw[e2];have ha1:=hD.arc a (pL.mem_iff.mp (List.mem_of_getElem? hi));have ha2:a.2<one.length:=Int.ofNat_lt.mp ha;have hc:=ha1.2.2;rw[Bh (by lia),Bh ha2]at hc;exact hWk.snoc (tT hc).1 (tT hc).2
  ·have e0:lft one.length (L.take (i+1))=lft one.length (L.take i):=by
    rw[List.take_add_one,hi];exact Co (fun z=>ha (Int.ofNat_lt.mpr z))
   refine k' _ _ ⟨_,_,_,sts,rfl,hle,by rw[hMl,e0],hMp,by lia,hrk,by rw[e0];exact hWk⟩
 ·rintro Δ M' ⟨x4,x5,x6,sts,rfl,hle,hMl,hMp,hwl,hrk,hWk⟩;walk_at "rd";rw[List.length_map,pL.length_eq]at hwl;refine⟨sts.map cx,hMp,M3,fun a o e=>?_,k sts M3 hS3 (by lia) hrk (by
   rw[List.length_map,List.take_length,An hD pL,List.map_map]at hWk;exact hWk)⟩
  have:a≠p:=fun z=>by rw[z,n3p]at e;cases e
  rw[iR this];exact hle a o e
theorem zj{ds:List D}{i:Nat}{d:D}(h:(lK 0 ds)[i]?=some d):∃e,ds[i]?=some e/\d=.tup [.int (i:Int),e]:=by
 rw[mS]at h;cases e:ds[i]? with
 |none=>rw[e]at h;cases h
 |some x =>
  rw[e,Option.map_some,Nat.zero_add]at h;exact⟨x,rfl,(Option.some.inj h).symm⟩
def iw:SpD:=fun ds M R=>∃(sts:List (Nat×Nat)) (one other:List (Str×Int)),ds=[.lst (sts.map stD),.tup (one.map aq),.tup (other.map aq)]/\(∀s∈sts,s.1<one.length/\s.2<other.length)/\sts.length<=100/\R (.lst ((gG one other 0 sts).map cx)) M
theorem ot{one other:List Sg}{s:Nat×Nat}:∀{l:List (Nat×Nat)}{j:Nat},gG one other j (l++[s])=gG one other j l++(if(sg one s.1).1=(sg other s.2).1 then[]else[.ord (j+l.length) (sg other s.2).1])
 |[],j=>by simp[gG]
 |x::l,j=>by
  rw[List.cons_append,gG,gG,ot,List.append_assoc,List.length_cons,show j+1+l.length=j+(l.length+1)by lia]
theorem mv(F:Fun K "orders_by" "orders_by" dv f fd) (T:Txt mg) :bj P w K mg base CX0 1 f fd ["strands","one","other"] (spD K 3 iw):=by
 have nd:=gR.nd;refine F.okR rfl gR (fun cdv A outer s H E hr=>⟨_,(au (aS (gK (ms:=[false,true,true]) (am:=["place","begin","at"]) (aJ rfl (show aR (ao dv) cq _ _=true from by decide +kernel)) rfl (xG rfl T.b_enumerate (ae (af 0) ah)) (cH (n:=2) rfl (aT (aD (i:=3) (show(cq++_).Nodup from by decide +kernel) rfl rfl) (aT (cH (n:=2) rfl (aT (aD (i:=4) (show(cq++_).Nodup from by decide +kernel) rfl rfl) (aT (aD (i:=5) (show(cq++_).Nodup from by decide +kernel) rfl rfl) cF))) cF))) (fun _ _ _ _=>(cI (aF (gu hr.units) (aH aI (aH aI (af 1) (af 4) (fun _ _=>rfl)) ak (fun _ _=>rfl)) (aH aI (aH aI (af 2) (af 5) (fun _ _=>rfl)) ak (fun _ _=>rfl)) nbh))) (fun _ _ _ _=>(aU (ae aW (ae (af 3) (ae (aH aI (aH aI (af 2) (af 5) (fun _ _=>rfl)) ak (fun _ _=>rfl)) ah)))))))),fun ds M R _ hS bk=>?_⟩);obtain⟨sts,one,other,rfl,hs,hl,k⟩:=hS;refine bk ?_;clear bk;walk_at "rd";refine fun hz=>⟨by rw[jm];exact hz,?_⟩;refine mO (fun i acc Δ M'=>M'=M/\(∃x y z,Δ=[none,some (.tup (one.map aq)),some (.tup (other.map aq)),x,y,z])/\acc=(gG one other 0 (sts.take i)).map cx) ⟨rfl,⟨none,none,none,rfl⟩,rfl⟩ ?_ ?_
 ·rintro i d acc Δ M' X hd ⟨rfl,⟨x,y,z,rfl⟩,rfl⟩ k';obtain⟨e,he,rfl⟩:=zj hd;obtain⟨s,hs',rfl⟩:=eW he;have hb:=hs s (List.mem_of_getElem? hs');have hil:i<sts.length:=(List.getElem?_eq_some_iff.mp hs').1;have e1:gG one other 0 (sts.take (i+1))=gG one other 0 (sts.take i)++(if(sg one s.1).1=(sg other s.2).1 then[]else[.ord i (sg other s.2).1]):=by
   rw[List.take_add_one,hs',show(some s).toList=[s]from rfl,ot,List.length_take,Nat.min_eq_left (by lia),Nat.zero_add]
  refine⟨_,rfl,?_⟩;walk_at "rd";refine⟨_,gW hb.1,_,rfl,_,gW hb.2,_,rfl,_,yi,_,rfl,cE (fun h=>⟨_,gW hb.2,_,rfl,sz3 3,k' _ _ _ ⟨rfl,⟨_,_,_,rfl⟩,?_⟩⟩) (fun h=>k' _ _ _ ⟨rfl,⟨_,_,_,rfl⟩,?_⟩)⟩
  ·rw[e1,if_neg (by simpa using h),List.map_append];rfl
  ·rw[e1,if_pos (by simpa using h),List.append_nil]
 ·rintro acc Δ M' ⟨rfl,_,rfl⟩;rw[jm,List.length_map,List.take_length];exact k
def gO:SpD:=fun ds M R=>∃(ord:List (Str×Str)) (arcs:List (Nat×Nat)) (one other:List Sg),ds=[.lst ((dR one.length other.length arcs).map stD),.lst ((jv one.length other.length arcs).map stD),.tup (other.map aq)]/\ig (cB ord) (one++wsh other) arcs/\one.length+other.length<=24/\∀sts,sts.length<=20->(∀s∈sts,rk s=2)->Wk ord ((dR one.length other.length arcs).map fun s=>sg other s.2) sts other->R (.lst (sts.map cx)) M
theorem kn(F:Fun K "growths_by" "growths_by" cb f fd) (T:Txt mg) :bj P w K mg base CX0 1 f fd ["strands","pairs","other"] (spD K 3 gO):=by
 have nd:=gi.nd;refine F.okR rfl gi (fun cdv A outer s H E hr=>⟨_,(ai (rj (i:=3) nd rfl rfl rfl (ms:=[false,false,false,false,false,false,false,false]) (am:=["begin","at"]) (aJ rfl (show aR (ao cb) bI _ _=true from by decide +kernel)) rfl (bp (af 0)) (cH (n:=2) rfl (aT (aD (i:=8) (show(bI++_).Nodup from by decide +kernel) rfl rfl) (aT (aD (i:=9) (show(bI++_).Nodup from by decide +kernel) rfl rfl) cF))) (fun _ _ _ _=>dY) (fun _ _ _ _=>(af 9)))
   (ai (aO (i:=4) nd rfl (Or.inl rfl) (dM ah))
   (ai (cP PassesOwn.never rfl (bp (ax kS rfl T.b_sorted (by kernel_rfl) (ae (af 1) ah))) (j7 rfl (cm (bg (i:=5) nd rfl (Or.inr rfl)) (cm (bg (i:=6) nd rfl (Or.inl rfl)) kh))) (ai (aO (i:=7) nd rfl (Or.inl rfl) (Da (ax a7 rfl T.b_len (by kernel_rfl) (ae (gK (ms:=[false,false,false,false,false,true,false,false]) (am:=["at"]) (aJ rfl (show aR (ao cb) bI _ _=true from by decide +kernel)) rfl (bp (af 3)) (aD (i:=8) (show(bI++_).Nodup from by decide +kernel) rfl rfl) (fun _ _ _ _=>(cI (aF nh (af 8) (af 5) nbh))) (fun _ _ _ _=>(af 8))) ah))))
   (ai (dH (ix (af 4) (aU (ae aW (ae (af 7) (ae (aH aI (af 2) (af 5) (fun _ _=>rfl)) (ae (aH aI (af 2) (af 6) (fun _ _=>rfl)) ah)))))))
   (au (dH (Bf (af 3) (iu (ae (af 5) (ae (af 6) ah)))))))))
   (pJ 4 (au (bT (af 4))))))),fun ds M R _ hS bk=>?_⟩)
 obtain⟨ord,arcs,one,other,rfl,hD,h24,k⟩:=hS;refine bk ?_;clear bk;have hal:arcs.length<=12:=by have:=hD.len;rw[List.length_append,bH]at this;lia
 have hs:∀s∈jv one.length other.length arcs,s.1<other.length/\s.2<other.length:=fun s hs=>by have:=AE hD hs;lia
 have hl:(dR one.length other.length arcs).length<=20:=by
  unfold dR;rw[List.length_map];exact Nat.le_trans (List.length_filter_le _ _) (by lia)
 have hl2:(jv one.length other.length arcs).length<=20:=by
  unfold jv;rw[List.length_map];exact Nat.le_trans (List.length_filter_le _ _) (by lia)
 generalize hS0:dR one.length other.length arcs=S at hl k ⊢;generalize hP0:jv one.length other.length arcs=prs at hs hl2 ⊢;walk_at "rd";refine fun hz=>⟨hz,aQ stD (fun _=>true) (fun s=>D.int (s.2:Int)) (fun Δ=>∃x y,Δ=[none,none,none,none,none,none,none,none,x,y]) S _ _ (fun s hs' Δ hΔ=>?_) ⟨none,none,rfl⟩ ?_⟩
 ·obtain⟨x,y,rfl⟩:=hΔ;refine⟨_,rfl,⟨_,_,rfl⟩,fun Q1 q=>q,fun _ Q2 q=>?_⟩;walk_at "rd";exact q
 ·rw[List.nil_append,List.filter_eq_self.mpr (fun _ _=>rfl)];intro p hp;refine⟨sz3 0,fun q hq=>?_⟩;have hpq:p≠q:=fun z=>by rw[z,aj]at hq;cases hq
  have hqM:M q=none:=by rw[av (Ne.symm hpq)]at hq;exact hq
  obtain⟨qs,eqs,hperm,hsrt⟩:=ub prs (by lia);have hperm':=hP0▸hperm;refine⟨_,eqs,_,rfl,fun hz2=>?_⟩;refine aZ (fun i Δ M'=>∃x5 x6 x7 sts,Δ=[some (D.lst (S.map stD)),some (D.lst (prs.map stD)),some (D.tup (other.map aq)),some (D.ref p),some (D.ref q),x5,x6,x7]/\LeM M M'/\M' p=some (.lst ((thr S (qs.take i)).map fun(x:Nat)=>D.int (x:Int)))/\M' q=some (.lst (sts.map cx))/\sts.length<=i/\(thr S (qs.take i)).Nodup/\(thr S (qs.take i)).length<=20+2*i/\(∀s∈sts,rk s=2)/\Wk ord (S.map fun s=>sg other s.2) sts (((List.range other.length).filter fun x=>decide (x∈thr S (qs.take i))).map (sg other))) ⟨none,none,none,[],rfl,leU (leU LeM.refl hp) hqM,by rw[av hpq,aj];simp[thr],aj,Nat.le_refl _,?_,by simp[thr];lia,(fun s hs=>by cases hs),?_⟩ ?_ ?_
  ·rw[List.take_zero];have:(thr S [])=S.map (·.2):=by simp[thr]
   rw[this,<-hS0,List.nodup_iff_pairwise_ne];exact(wN hD).imp fun z=>by lia
  ·rw[List.take_zero];have:(thr S [])=S.map (·.2):=by simp[thr]
   rw[this,<-hS0,vn (wN hD) fun x hx=>by
    obtain⟨s,hs,rfl⟩:=List.mem_map.mp hx;exact(tU hD hs).2.1,List.map_map]
   rfl
  ·rintro i d Δ M' X hd ⟨x5,x6,x7,sts,rfl,hle,hMp,hMq,hwl,hnd,htl,hrk,hWk⟩ k';obtain⟨a,ha,rfl⟩:=eW hd;have hil:=(List.getElem?_eq_some_iff.mp ha).1;rw[hperm.length_eq]at hil;have hma:=hperm.mem_iff.mp (List.mem_of_getElem? ha);have hb':=hs a hma;have hpa:=AE hD (hP0▸hma);have hga:=BI hD hperm' hsrt ha;rw[hS0]at hga;obtain⟨A,B,eA,eB,eL,nd'⟩:=BG hnd hpa.1 hpa.2.1 hga;have eT:thr S (qs.take (i+1))=thr S (qs.take i)++[a.1,a.2]:=by
    rw[List.take_add_one,ha];exact wo
   have er:rdM M' (D.ref p)=.lst ((thr S (qs.take i)).map fun(x:Nat)=>D.int (x:Int)):=by simp only[rdM,hMp]
   refine⟨_,rfl,?_⟩;walk_at "rd";refine⟨_,rfl,_,by rw[er];rfl,fun hz3=>⟨hz3,aQ (fun(x:Nat)=>D.int (x:Int)) (fun t=>decide (t<a.1)) (fun(x:Nat)=>D.int (x:Int)) (fun Δ=>∃x,Δ=[none,none,none,none,none,some (D.int (a.1:Int)),none,none,x]) (thr S (qs.take i)) _ _ (fun t ht Δ hΔ=>?_) ⟨none,rfl⟩ ⟨rfl,rfl,_,hMq,_,gW hb'.1,_,gW hb'.2,sz3 4,_,hMq,by rw[List.length_map];exact Nat.lt_of_lt_of_le (by lia:sts.length<1000) (sz3 1000),_,by rw[av hpq];exact hMp,sz3 2,_,by rw[av hpq];exact hMp,?_,k' _ _ ⟨_,_,_,sts++[.gro ((thr S (qs.take i)).filter fun t=>decide (t<a.1)).length (sg other a.1) (sg other a.2)],rfl,leU (leU hle hqM) hp,?_,?_,?_,?_,?_,tY hrk rfl,?_⟩⟩⟩⟩
   ·obtain⟨x,rfl⟩:=hΔ;refine⟨_,rfl,⟨_,rfl⟩,fun Q1 q=>?_,fun _ Q2 q=>?_⟩
    ·walk_at "rd";rw[show decide ((t:Int)<(a.1:Int))=decide (t<a.1)by rw[Bool.eq_iff_iff];simp];exact q
    ·walk_at "rd";exact q
   ·rw[List.length_map];exact szB _ (by lia)
   ·rw[aj,eT,List.map_append];rfl
   ·rw[av (Ne.symm hpq),aj,List.map_append,List.nil_append,List.length_map];rfl
   ·rw[List.length_append,List.length_singleton];lia
   ·rw[eT];exact nd'
   ·rw[eT,List.length_append];simp;lia
   ·rw[eA]at hWk;rw[eT,eB,<-eL];exact hWk.snoc (ue hpa.2.2.1 hpa.2.2.2).1 (ue hpa.2.2.1 hpa.2.2.2).2
  ·rintro Δ M' ⟨x5,x6,x7,sts,rfl,hle,hMp,hMq,hwl,hnd,htl,hrk,hWk⟩;rw[List.length_map,List.take_length]at hWk;rw[List.length_map,hperm.length_eq]at hwl;walk_at "rd";refine⟨sts.map cx,hMq,M,fun a o e=>?_,k sts (by lia) hrk ?_⟩
   ·have:a≠q:=fun z=>by rw[z,hqM]at e;cases e
    rw[iR this];exact hle a o e
   ·rw[List.filter_eq_self.mpr (fun x hx=>by
     rw[decide_eq_true_eq,<-hS0];exact Al hD hperm' (List.mem_range.mp hx)),n9]at hWk
    exact hWk
theorem yk{one other:List Sg}:∀{l:List (Nat×Nat)}{j:Nat},(∀s∈gG one other j l,rk s=1)/\(gG one other j l).length<=l.length
 |[],j=>⟨(fun s hs=>by cases hs),Nat.le_refl _⟩
 |x::l,j=>by
  have ih:=yk (one:=one) (other:=other) (l:=l) (j:=j+1);rw[gG]
  split
  ·exact⟨ih.1,by rw[List.nil_append,List.length_cons];lia⟩
  ·refine⟨fun s hs=>?_,by rw[List.length_append,List.length_cons,List.length_cons,List.length_nil];lia⟩;rcases List.mem_append.mp hs with z|z
   ·rw[List.mem_singleton.mp z];rfl
   ·exact ih.1 s z
def SWk(ord:List (Str×Str)) (one other:List Sg) (sts:List Stp):Prop:=Wk ord one sts other/\(sts.map rk).Pairwise (·<=·)/\sts.length<=60
def j9(Tb:Addr):SpD:=fun ds M R=>∃(ord:List (Str×Str)) (arcs:List (Nat×Nat)) (one other:List Sg),ds=[.tup (arcs.map stD),.tup (one.map aq),.tup (other.map aq)]/\one.length+other.length<=24/\ig (cB ord) (one++wsh other) arcs/\fH Tb bw lq M/\∀sts M',kQ Tb bw lq M M'->SWk ord one other sts->R (.tup (sts.map cx)) M'
theorem oJ(F:Fun K "walk_by" "walk_by" dD f fd) (T:Txt mg) {Tb:Addr} (Y8:FnD P w K mg base "growths_by" 1 3 gO) (Y6:FnD P w K mg base "cancels_by" 1 2 (gE Tb)) (ga0:FnD P w K mg base "orders_by" 1 3 iw):bj P w K mg base CX0 2 f fd ["arcs","one","other"] (spD K 3 (j9 Tb)):=by
 have nd:=jc.nd;refine F.okR rfl jc (fun cdv A outer s H E hr=>⟨_,(ai (aO (i:=3) nd rfl (Or.inr rfl) (ax a7 rfl T.b_len (by kernel_rfl) (ae (af 1) ah)))
   (ai (aO (i:=4) nd rfl (Or.inr rfl) (aP fk (aP aM (af 3) (ax a7 rfl T.b_len (by kernel_rfl) (ae (af 2) ah))) ak))
   (ai (g6 (i:=5) nd rfl rfl rfl (ms:=[false,false,false,true,true,false,false]) (am:=["begin","end"]) (aJ rfl (show aR (ao dD) bX _ _=true from by decide +kernel)) rfl (bp (af 0)) (cH (n:=2) rfl (aT (aD (i:=7) (show(bX++_).Nodup from by decide +kernel) rfl rfl) (aT (aD (i:=8) (show(bX++_).Nodup from by decide +kernel) rfl rfl) cF))) (fun _ _ _ _=>(cI (p7 nh oC (af 7) (af 3) (af 8)))) (fun _ _ _ _=>(aU (ae (af 7) (ae (aP fk (af 4) (af 8)) ah)))))
   (ai (g6 (i:=6) nd rfl rfl rfl (ms:=[false,false,false,true,true,false,false]) (am:=["begin","end"]) (aJ rfl (show aR (ao dD) bX _ _=true from by decide +kernel)) rfl (bp (af 0)) (cH (n:=2) rfl (aT (aD (i:=7) (show(bX++_).Nodup from by decide +kernel) rfl rfl) (aT (aD (i:=8) (show(bX++_).Nodup from by decide +kernel) rfl rfl) cF))) (fun _ _ _ _=>(cI (aF oC (af 3) (af 7) nbh))) (fun _ _ _ _=>(aU (ae (aP fk (af 4) (af 8)) (ae (aP fk (af 4) (af 7)) ah)))))
   (au (aS (bR dq rfl T.b_tuple (by kernel_rfl) (ae (aP aM (aP aM (qd Y6 hr (ae (af 0) (ae (af 3) ah))) (qd ga0 hr (ae (af 5) (ae (af 1) (ae (af 2) ah))))) (qd Y8 hr (ae (af 5) (ae (af 6) (ae (af 2) ah))))) ah)))))))),fun ds M R _ hS bk=>?_⟩)
 obtain⟨ord,arcs,one,other,rfl,h24,hD,hT,k⟩:=hS;refine bk ?_;clear bk;have hrl:(one++wsh other).length=one.length+other.length:=by rw[List.length_append,bH]
 have hal:arcs.length<=12:=by have:=hD.len;lia
 walk_at "rd";simp only[List.length_map];have toN:∀a∈arcs,one.length<=a.2->(one.length:Int)+(other.length:Int)-1-(a.2:Int)=((one.length+other.length-1-a.2:Nat):Int):=fun a ha h=>by
  have:=(hD.arc a ha).2.1;lia
 refine fun hz=>⟨hz,aQ stD (fun a=>decide (a.1<one.length)&&decide (one.length<=a.2)) (fun a=>stD (a.1,one.length+other.length-1-a.2)) (fun Δ=>∃x y,Δ=[none,none,none,some (.int (one.length:Int)),some (.int ((one.length:Int)+(other.length:Int)-1)),none,none,x,y]) arcs _ _ (fun a ha Δ hΔ=>?_) ⟨none,none,rfl⟩ ?_⟩
 ·obtain⟨x,y,rfl⟩:=hΔ;have ha2:=hD.arc a ha;refine⟨_,rfl,⟨_,_,rfl⟩,fun Q1 q=>?_,fun hb Q2 q=>?_⟩
  ·walk_at "rd";refine cE (fun h1=>?_) (fun h1=>?_)
   ·rw[show decide ((one.length:Int)<=(a.2:Int))=(decide (a.1<one.length)&&decide (one.length<=a.2))by rw[Bool.eq_iff_iff];simp;lia];exact q
   ·rw[show(decide (a.1<one.length)&&decide (one.length<=a.2))=false by simp;lia]at q;exact q
  ·walk_at "rd";simp at hb;rw[toN a ha hb.2];exact⟨sz3 2,q⟩
 ·rw[List.nil_append];intro hz2;refine⟨hz2,aQ stD (fun a=>decide (one.length<=a.1)) (fun a=>stD (one.length+other.length-1-a.2,one.length+other.length-1-a.1)) (fun Δ=>∃x y,Δ=[none,none,none,some (.int (one.length:Int)),some (.int ((one.length:Int)+(other.length:Int)-1)),none,none,x,y]) arcs _ _ (fun a ha Δ hΔ=>?_) ⟨none,none,rfl⟩ ?_⟩
  ·obtain⟨x,y,rfl⟩:=hΔ;have ha2:=hD.arc a ha;refine⟨_,rfl,⟨_,_,rfl⟩,fun Q1 q=>?_,fun hb Q2 q=>?_⟩
   ·walk_at "rd";rw[show decide ((one.length:Int)<=(a.1:Int))=decide (one.length<=a.1)by rw[Bool.eq_iff_iff];simp];exact q
   ·walk_at "rd";simp at hb;rw[toN a ha (by lia),show(one.length:Int)+(other.length:Int)-1-(a.1:Int)=((one.length+other.length-1-a.1:Nat):Int)by lia];exact⟨sz3 2,q⟩
  ·rw[List.nil_append];have e1:(arcs.filter fun a=>decide (a.1<one.length)&&decide (one.length<=a.2)).map (fun a=>stD (a.1,one.length+other.length-1-a.2))=(dR one.length other.length arcs).map stD:=by unfold dR;rw[List.map_map];rfl
   have e2:(arcs.filter fun a=>decide (one.length<=a.1)).map (fun a=>stD (one.length+other.length-1-a.2,one.length+other.length-1-a.1))=(jv one.length other.length arcs).map stD:=by unfold jv;rw[List.map_map];rfl
   rw[e1,e2];have hsl:(dR one.length other.length arcs).length<=12:=by
    unfold dR;rw[List.length_map];exact Nat.le_trans (List.length_filter_le _ _) (by lia)
   refine⟨ord,arcs,one,other,rfl,hD,h24,hT,fun s1 M1 hS1 hl1 hk1 hw1=>?_⟩;have hor:=yk (one:=one) (other:=other) (l:=dR one.length other.length arcs) (j:=0);refine⟨dR one.length other.length arcs,one,other,rfl,fun s hs=>⟨(tU hD hs).1,(tU hD hs).2.1⟩,by lia,?_⟩;refine⟨.lst ((s1++gG one other 0 (dR one.length other.length arcs)).map cx),?_,?_⟩
   ·rw[List.map_append];exact if_pos (szB _ (by rw[List.length_map,List.length_map];lia))
   refine⟨ord,arcs,one,other,rfl,hD,h24,fun s3 hl3 hk3 hw3=>?_⟩;refine⟨.lst ((s1++gG one other 0 (dR one.length other.length arcs)++s3).map cx),?_,_,rfl,k _ M1 hS1 ⟨?_,?_,?_⟩⟩
   ·rw[List.map_append (l₂:=s3)];exact if_pos (szB _ (by rw[List.length_map,List.length_map,List.length_append];lia))
   ·refine(hw1.app ?_).app hw3;have:=xv (o:=ord) (one:=one) (other:=other) (dR one.length other.length arcs) [] fun s hs=>(tU hD hs).2.2;exact this
   ·rw[List.map_append,List.map_append,List.pairwise_append,List.pairwise_append];have same:∀{l:List Stp} {n:Nat},(∀s∈l,rk s=n)->(l.map rk).Pairwise (·<=·):=fun {l n} h=>by
     rw[List.pairwise_map];exact List.pairwise_iff_getElem.mpr fun i j hi hj _=>by rw[h _ (List.getElem_mem hi),h _ (List.getElem_mem hj)];exact Nat.le_refl _
    have at_:∀{l:List Stp} {n:Nat},(∀s∈l,rk s=n)->∀x∈l.map rk,x=n:=fun {l n} h x hx=>by
     obtain⟨s,hs,rfl⟩:=List.mem_map.mp hx;exact h s hs
    refine⟨⟨same hk1,same hor.1,fun x hx y hy=>by rw[at_ hk1 x hx];lia⟩,same hk3,fun x hx y hy=>?_⟩;rw[at_ hk3 y hy];rcases List.mem_append.mp hx with z|z
    ·rw[at_ hk1 x z];lia
    ·rw[at_ hor.1 x z];lia
   ·rw[List.length_append,List.length_append];lia
def sw(ord:List (Str×Str)):List (Str×Str):=ord++ord.map fun y=>(y.2,y.1)
def fE:SpD:=fun ds M R=>∃(ord:List (Str×Str)) (a:Str),ds=[.tup (ord.map aC),.str a]/\ord.length<=200/\∀L:List Str,L.length<=401->(∀x,x∈L↔bV (sw ord) a x)->R (.lst (L.map .str)) M
theorem ju(F:Fun K "hanging_with" "hanging_with" cg f fd) (T:Txt mg) (G5:FnD P w K mg base "reached_from" 1 2 di):bj P w K mg base CX0 2 f fd ["order","mark"] (spD K 2 fE):=by
 have nd:=eY.nd;refine F.okR rfl eY (fun cdv A outer s H E hr=>⟨_,(au (aS (qd G5 hr (ae (aP aM (af 0) (bR dq rfl T.b_tuple (by kernel_rfl) (ae (gK (ms:=[false,false]) (am:=["low","high"]) (aJ (n0:=0) rfl (show aR (ao cg) cf _ _=true from by decide +kernel)) rfl (bp (af 0)) (cH (n:=2) rfl (aT (aD (i:=2) (show(cf++_).Nodup from by decide +kernel) rfl rfl) (aT (aD (i:=3) (show(cf++_).Nodup from by decide +kernel) rfl rfl) cF))) (fun _ _ _ _=>dY) (fun _ _ _ _=>(aU (ae (af 3) (ae (af 2) ah))))) ah))) (ae (af 1) ah))))),fun ds M R _ hS bk=>?_⟩);obtain⟨ord,a,rfl,ho,k⟩:=hS;refine bk ?_;clear bk;walk_at "rd";refine fun hz=>⟨hz,aQ aC (fun _=>true) (fun y=>aC (y.2,y.1)) (fun Δ=>∃x y,Δ=[none,none,x,y]) _ _ _ (fun y hy Δ hΔ=>?_) ⟨none,none,rfl⟩ ?_⟩
 ·obtain⟨x,z,rfl⟩:=hΔ;refine⟨_,rfl,⟨_,_,rfl⟩,fun Q1 q=>q,fun _ Q2 q=>?_⟩;walk_at "rd";exact⟨sz3 2,q⟩
 ·rw[List.nil_append,List.filter_eq_self.mpr (fun _ _=>rfl)];have e:ord.map (fun y=>aC (y.2,y.1))=(ord.map fun y=>(y.2,y.1)).map aC:=by rw[List.map_map];rfl
  rw[e,<-List.map_append,List.length_map,List.length_map,List.length_map];refine⟨_,if_pos (sz3 _ (by lia)),_,a,rfl,by simp;lia,fun L h1 h2 h3 hL=>k L ?_ fun x=>⟨h3 x,jq h1 h2⟩⟩;simp at hL;lia
def hs(ord:List (Str×Str)) (row:List (Str×Int)) (a:Str):Int:=((row.filter fun y=>rB (sw ord) a y.1).map fun y=>if y.2 % 2=1 then(1:Int)else -1).sum
def kf:SpD:=fun ds M R=>∃(ord:List (Str×Str)) (a:Str) (L:List Str) (row:List (Str×Int)),ds=[.lst (L.map .str),.tup (row.map aq)]/\L.length<=401/\row.length<=24/\(∀x,x∈L↔bV (sw ord) a x)/\R (.int (hs ord row a)) M
theorem oU(F:Fun K "surplus" "surplus" fb f fd) (T:Txt mg) :bj P w K mg base CX0 1 f fd ["marks","row"] (spD K 2 kf):=by
 have nd:=ja.nd;refine F.okR rfl ja (fun cdv A outer s H E hr=>⟨_,(au (aS (ax (uF rfl) rfl T.b_sum (by kernel_rfl) (ae (gK (ms:=[true,false]) (am:=["mark","turn"]) (aJ rfl (show aR (ao fb) e9 _ _=true from by decide +kernel)) rfl (bp (af 1)) (cH (n:=2) rfl (aT (aD (i:=2) (show(e9++_).Nodup from by decide +kernel) rfl rfl) (aT (aD (i:=3) (show(e9++_).Nodup from by decide +kernel) rfl rfl) cF))) (fun _ _ _ _=>(cI (aF my (af 2) (af 0) rfl))) (fun _ _ _ _=>(Fk (aF (ft hr.units) (aP qQ (af 3) ak) ak nbh) ak (DF E1 ak)))) ah)))),fun ds M R _ hS bk=>?_⟩);obtain⟨ord,a,L,row,rfl,hL,hl,hm,k⟩:=hS;refine bk ?_;clear bk;walk_at "rd";refine fun hz=>⟨hz,aQ aq (fun y=>decide (y.1∈L)) (fun y=>D.int (if y.2 % 2=1 then 1 else -1)) (fun Δ=>∃x y,Δ=[some (D.lst (L.map .str)),none,x,y]) _ _ _ (fun y hy Δ hΔ=>?_) ⟨none,none,rfl⟩ ?_⟩
 ·obtain⟨x,z,rfl⟩:=hΔ;refine⟨_,rfl,⟨_,_,rfl⟩,fun Q1 q=>?_,fun _ Q2 q=>?_⟩
  ·walk_at "rd";refine⟨_,if_pos ⟨rfl,dA⟩,_,rfl,?_⟩;rw[cW,Bool.false_xor];exact q
  ·walk_at "rd"
   by_cases c:y.2 % 2=1
   ·rw[if_pos c]at q;rw[if_pos (by simpa using c)];exact q
   ·rw[if_neg c]at q;rw[if_neg (by simpa using c)];exact q
 ·rw[List.nil_append];have e:∀l:List (Str×Int),l.map (fun y=>D.int (if y.2 % 2=1 then 1 else -1))=(l.map fun y=>if y.2 % 2=1 then(1:Int)else -1).map D.int:=fun l=>by rw[List.map_map];rfl
  have e2:(fun y:Str×Int=>decide (y.1∈L))=fun y=>rB (sw ord) a y.1:=by
   funext y;rw[Bool.eq_iff_iff,decide_eq_true_eq,jF,hm]
  rw[e,e2];exact⟨_,oE,k⟩
def ip:SpD:=fun ds M R=>∃(ord:List (Str×Str)) (row:List (Str×Int)) (a:Str),ds=[.tup (ord.map aC),.tup (row.map aq),.str a]/\ord.length<=200/\row.length<=24/\R (.bl (!decide (hs ord row a=0))) M
theorem lF(F:Fun K "is_uneven" "is_uneven" fo f fd) (T:Txt mg) (ga5:FnD P w K mg base "surplus" 1 2 kf) (Y1:FnD P w K mg base "hanging_with" 2 2 fE):bj P w K mg base CX0 3 f fd ["order","row","mark"] (spD K 3 ip):=by
 have nd:=gC.nd;refine F.okR rfl gC (fun cdv A outer s H E hr=>⟨_,(au (aS (gh (gu hr.units) (qd ga5 hr (ae (qd Y1 hr (ae (af 0) (ae (af 2) ah))) (ae (af 1) ah))) ak nbh))),fun ds M R _ hS bk=>?_⟩);obtain⟨ord,row,a,rfl,ho,hl,k⟩:=hS;refine bk ?_;clear bk;walk_at "rd";refine⟨ord,a,rfl,ho,fun L hL hm=>⟨ord,a,L,row,rfl,hL,hl,hm,_,pz,?_⟩⟩;have e:(!(hs ord row a==0))=!decide (hs ord row a=0):=by rfl
 first|exact k|(rw[e];exact k)|(simpa using k)
abbrev nD:=stD
def Clo(R:Str×Int->Str×Int->Bool) (row:List (Str×Int)) (ps:List (Nat×Nat)):Prop:=ps.Nodup/\gk (ps.map stI)=ps.map stI/\(∀b e,(b,e)∈ps↔b<=e/\e<=row.length/\0<W R (seg row b e))/\ps.length<64
def evs:List (Nat×Nat):=(List.range 14).flatMap fun b=>((List.range 14).filter fun e=>decide (b<=e/\(e-b) % 2=0)).map fun e=>(b,e)
theorem Au{qs:List (Nat×Nat)}(hd:qs.Nodup) (h:∀b e,(b,e)∈qs->b<=e/\e<=13/\(e-b) % 2=0):qs.length<64:=by
 have:qs.length<=evs.length:=List.Nodup.length_le_of_subset hd fun⟨b,e⟩ hx=>by
  obtain⟨h1,h2,h3⟩:=h b e hx;unfold evs;rw[List.mem_flatMap];exact⟨b,List.mem_range.mpr (by lia),List.mem_map.mpr ⟨e,List.mem_filter.mpr ⟨List.mem_range.mpr (by lia),decide_eq_true ⟨h1,h3⟩⟩,rfl⟩⟩
 have e:evs.length=56:=by decide +kernel
 lia
def ke:SpD:=fun ds M Q=>∃(ord:List (Str×Str)) (row:List (Str×Int)),ds=[.tup (ord.map aC),.tup (row.map aq)]/\ord.length<=200/\row.length<=13/\(0<W (cB ord) row->Q .non M) /\
 (W (cB ord) row=0->(∀m,¬ hs ord row m=0->Q (.tup [.str "counted",.str m]) M)/\∀ps,Clo (cB ord) row ps->Q (.tup [.str "closed",.tup (ps.map nD)]) M)
def stV(t:(Nat×Nat)×Int):List Key×D:=([.inl (t.1.1:Int),.inl (t.1.2:Int)],.int t.2)
theorem jg.list:∀{kvs:List (List Key×D)},(∀x∈kvs,∃(b e:Nat) (v:Int),x=([.inl (b:Int),.inl (e:Int)],.int v))->∃ts:List ((Nat×Nat)×Int),kvs=ts.map stV
 |[],_=>⟨[],rfl⟩
 |x::kvs,h=>by
  obtain⟨b,e,v,rfl⟩:=h x (.head _);obtain⟨ts,rfl⟩:=jg.list (kvs:=kvs) fun y hy=>h y (.tail _ hy);exact⟨((b,e),v)::ts,rfl⟩
theorem z3{kvs:List (List Key×D)}(hn:(kvs.map (·.1)).Nodup) {x:List Key×D}(h:x∈kvs):cn kvs x.1=some x.2:=by
 induction kvs with
 |nil=>cases h
 |cons y kvs ih =>
  rw[List.map_cons,List.nodup_cons]at hn;rcases List.mem_cons.mp h with rfl|h
  ·exact bP rfl
  ·rw[bQ (fun e=>hn.1 (by rw[e];exact List.mem_map_of_mem h)),ih hn.2 h]
theorem yQ{kvs:List (List Key×D)}{k:List Key}{d:D}(h:cn kvs k=some d):(k,d)∈kvs:=by
 induction kvs with
 |nil=>cases h
 |cons y kvs ih =>
  by_cases e:y.1=k
  ·rw[bP e]at h;cases h;rw[<-e];exact .head _
  ·rw[bQ e]at h;exact .tail _ (ih h)
theorem CY{R:Str×Int->Str×Int->Bool}{row:List (Str×Int)}{ts:List ((Nat×Nat)×Int)}(hT:Tab R row (row.length+1) 0 (ts.map stV)) (hn:((ts.map stV).map (·.1)).Nodup) (hl:row.length<=13) :
  ∃ps,((ts.filter fun t=>decide (0<t.2)).map fun t=>t.1).length<64/\gk (((ts.filter fun t=>decide (0<t.2)).map fun t=>t.1).map stI)=ps.map stI/\Clo R row ps:=by
 have hn1:(ts.map fun t=>t.1).Nodup:=by
  rw[List.map_map]at hn;rw[List.nodup_iff_pairwise_ne,List.pairwise_map]at hn ⊢;exact hn.imp fun h e=>h (by simp[stV,e])
 have hev:∀b e,e<=row.length->0<W R (seg row b e)->(e-b) % 2=0:=fun b e h2 h3=>by
  rcases Nat.mod_two_eq_zero_or_one (e-b)with z|z
  ·exact z
  ·rw[uA _ (seg row b e) (Nat.le_refl _) (by rw[dS h2];exact z)]at h3
   lia
 have hmem:∀b e,(b,e)∈((ts.filter fun t=>decide (0<t.2)).map fun t=>t.1)↔b<=e/\e<=row.length/\0<W R (seg row b e):=fun b e=>by
  have h:=hT b e;unfold tab at h;constructor
  ·intro hm;obtain⟨⟨x,v⟩,hx,ex⟩:=List.mem_map.mp hm;obtain⟨h1,h2⟩:=List.mem_filter.mp hx;simp only at ex;subst ex;have hv:=z3 hn (List.mem_map_of_mem (f:=stV) h1);simp only[stV]at hv;rw[h]at hv
   split at hv
   ·rename_i c;simp only[Option.some.injEq,D.int.injEq]at hv;have h3:0<v:=by simpa using h2
    exact⟨c.1,c.2.1,by lia⟩
   ·cases hv
  ·intro hI';refine shr fun _ bk=>?_;obtain⟨h1,h2,h3⟩:=hI';refine bk ?_;clear bk;rw[if_pos ⟨h1,h2,hev b e h2 h3,.inl (by lia)⟩]at h;obtain⟨t,ht,et⟩:=List.mem_map.mp (yQ h);obtain⟨⟨b',e'⟩,v⟩:=t;simp only[stV,Prod.mk.injEq,List.cons.injEq,Sum.inl.injEq,Int.natCast_inj,and_true,D.int.injEq]at et;obtain⟨⟨rfl,rfl⟩,rfl⟩:=et;exact List.mem_map.mpr ⟨_,List.mem_filter.mpr ⟨ht,by simpa using h3⟩,rfl⟩
 have hnd:((ts.filter fun t=>decide (0<t.2)).map fun t=>t.1).Nodup:=hn1.sublist (List.filter_sublist.map _);generalize ((ts.filter fun t=>decide (0<t.2)).map fun t=>t.1)=qs at hmem hnd;have h64:qs.length<64:=Au hnd fun b e h=>let⟨h1,h2,h3⟩:=(hmem b e).mp h;⟨h1,by lia,hev b e h2 h3⟩
 obtain⟨ps,hp,eps⟩:=jk (iL (qs.map stI)) qs rfl;have hw:=lX (qs.map stI);rw[eps]at hw;exact⟨ps,h64,eps,hp.nodup_iff.mpr hnd,(lL (List.Perm.refl _) hw).symm,fun b e=>hp.mem_iff.trans (hmem b e),by rw[hp.length_eq];exact h64⟩
theorem oN(F:Fun K "why_not" "why_not" e8 f fd) (T:Txt mg) (G2:FnD P w K mg base "stretch_counts" 2 1 cD) (G7:FnD P w K mg base "mates_in" 5 2 fL) (G6:FnD P w K mg base "whole_count" 1 2 dJ) (ga1:FnD P w K mg base "is_uneven" 3 3 ip):bj P w K mg base CX0 6 f fd ["order","row"] (spD K 2 ke):=by
 have nd:=i3.nd;refine F.okR rfl i3 (fun cdv A outer s H E hr=>⟨_,(ai (aO (i:=2) nd rfl (Or.inl rfl) (qd G2 hr (ae (qd G7 hr (ae (af 0) (ae (af 1) ah))) ah)))
   (ai (bh (aF u5 (qd G6 hr (ae (af 2) (ae (af 1) ah))) ak nbh) (au (bT xM)) aV)
   (ai (cP PassesOwn.never rfl (bp (af 1)) (j7 rfl (cm (bg (i:=3) nd rfl (Or.inl rfl)) (cm (bg (i:=4) nd rfl (Or.inl rfl)) kh))) (au (bh (bt (qd ga1 hr (ae (af 0) (ae (af 1) (ae (af 3) ah))))) (au (bT (aU (ae aW (ae (af 3) ah))))) aV)))
   (au (bT (aU (ae aW (ae (bR dq rfl T.b_tuple (by kernel_rfl) (ae (ax kS rfl T.b_sorted (by kernel_rfl) (ae (gK (ms:=[false,false,false,false,false]) (am:=["stretch","count"]) (aJ (n0:=0) rfl (show aR (ao e8) eZ _ _=true from by decide +kernel)) rfl (xO (af 2)) (cH (n:=2) rfl (aT (aD (i:=5) (show(eZ++_).Nodup from by decide +kernel) rfl rfl) (aT (aD (i:=6) (show(eZ++_).Nodup from by decide +kernel) rfl rfl) cF))) (fun _ _ _ _=>(cI (aF u5 (af 6) ak nbh))) (fun _ _ _ _=>(af 5))) ah)) ah)) ah)))))))),fun ds M R _ hS bk=>?_⟩)
 obtain⟨ord,row,rfl,ho,hl,k0,k1⟩:=hS;refine bk ?_;clear bk;walk_at "rd";refine⟨ord,row,rfl,by lia,by lia,cB ord,row,rfl,by lia,fun p kvs hp hT hk=>⟨cB ord,row,p,kvs,rfl,aj,by lia,hT,_,rfl,_,rfl,?_⟩⟩;refine cE (fun h=>⟨M,dQ hp,k0 (by simpa using h)⟩) (fun h hz=>?_);have hW:W (cB ord) row=0:=by
  have:¬ (0:Int)<((W (cB ord) row:Nat):Int):=by simpa using h
  lia
 refine aZ (fun i Δ M'=>∃x3 x4:Option D,Δ=[some (D.tup (ord.map aC)),some (D.tup (row.map aq)),some (D.ref p),x3,x4]/\M'=aw M p (.dT kvs)) ⟨_,_,rfl,rfl⟩ ?_ ?_
 ·intro i d Δ M' X hd hI' k';refine shr fun _ bk=>?_;obtain⟨x3,x4,rfl,rfl⟩:=hI';refine bk ?_;clear bk;obtain⟨⟨a,t⟩,hy,rfl⟩:=eW hd;simp only[aq,jh,fm,bL,lM,Option.bind_some];refine⟨_,rfl,?_⟩;walk_at "rd";refine⟨ord,row,a,rfl,ho,by lia,_,rfl,?_⟩;refine cE (fun h=>⟨sz3 2,M,dQ hp,(k1 hW).1 a (by simpa using h)⟩) (fun h=>k' _ _ ⟨_,_,rfl,rfl⟩)
 ·intro Δ M' hI';refine shr fun _ bk=>?_;obtain⟨x3,x4,rfl,rfl⟩:=hI';refine bk ?_;clear bk;walk_at "rd";obtain⟨ts,rfl⟩:=jg.list hk.1.2;have hlt:ts.length<=325:=by have:=hk.2;simpa using this
  obtain⟨ps,h64,eps,hps⟩:=CY hT hk.1.1 hl;rw[List.length_map,List.length_map,List.map_map,lU hp];refine⟨sz3 _ (by lia),aQ (fun(t:(Nat×Nat)×Int)=>D.tup [D.tup [D.int t.1.1,D.int t.1.2],D.int t.2]) (fun t=>decide (0<t.2)) (fun t=>nD t.1) (fun Δ=>∃x y,Δ=[none,none,none,none,none,x,y]) ts _ _ (fun t ht Δ hΔ=>?_) ⟨none,none,rfl⟩ ?_⟩
  ·obtain⟨x,y,rfl⟩:=hΔ;refine⟨_,rfl,⟨_,_,rfl⟩,fun Q1 q=>?_,fun _ Q2 q=>?_⟩
   ·walk_at "rd";exact q
   ·walk_at "rd";exact q
  ·rw[List.nil_append];have e:∀l:List ((Nat×Nat)×Int),l.map (fun t=>nD t.1)=((l.map fun t=>t.1).map stI).map pD:=fun l=>by rw[List.map_map,List.map_map];rfl
   rw[e];refine⟨_,ut (by rw[List.length_map];exact h64),?_⟩;rw[eps];have e2:(ps.map stI).map pD=ps.map nD:=by rw[List.map_map];rfl
   rw[e2];exact⟨_,rfl,sz3 2,M,LeM.refl,(k1 hW).2 ps hps⟩
def ow(Tb:Addr):SpD:=fun ds M R=>∃(ord:List (Str×Str)) (one other:List (Str×Int)),ds=[.tup (ord.map aC),.tup (one.map aq),.tup (other.map aq)]/\ord.length<=200/\one.length+other.length<=13/\fH Tb bw lq M /\
 (0<W (cB ord) (one++wsh other)->∀sts M',En Tb M M'->SWk ord one other sts->R (.tup [.str "comes",.tup (sts.map cx)]) M') /\
 (W (cB ord) (one++wsh other)=0->(∀m,¬ hs ord (one++wsh other) m=0->R (.tup [.str "none",.tup [.str "counted",.str m]]) M)/\∀ps,Clo (cB ord) (one++wsh other) ps->R (.tup [.str "none",.tup [.str "closed",.tup (ps.map nD)]]) M)
theorem rY(F:Fun K "comes" "comes" jI f fd) (T:Txt mg) {Tb:Addr} (Y4:FnD P w K mg base "drawing_of" 6 2 gy) (Y5:FnD P w K mg base "right_wish" 1 1 gN) (ga3:FnD P w K mg base "walk_by" 2 3 (j9 Tb)) (ga4:FnD P w K mg base "why_not" 6 2 ke):bj P w K mg base CX0 7 f fd ["order","one","other"] (spD K 3 (ow Tb)):=by
 have nd:=mG.nd;refine F.okR rfl mG (fun cdv A outer s H E hr=>⟨_,(ai (aO (i:=3) nd rfl (Or.inl rfl) (aP aM (af 1) (qd Y5 hr (ae (af 2) ah))))
   (ai (aO (i:=4) nd rfl (Or.inl rfl) (qd Y4 hr (ae (af 0) (ae (af 3) ah))))
   (ai (bh (aF Fl (af 4) xM nbh) (au (aS (aU (ae aW (ae (qd ga4 hr (ae (af 0) (ae (af 3) ah))) ah))))) aV)
   (au (aS (aU (ae aW (ae (qd ga3 hr (ae (af 4) (ae (af 1) (ae (af 2) ah)))) ah)))))))),fun ds M R _ hS bk=>?_⟩)
 obtain⟨ord,one,other,rfl,ho,h24,hT,k1,k0⟩:=hS;refine bk ?_;clear bk;walk_at "rd";have hl:(one++wsh other).length<=13:=by rw[List.length_append,bH];exact h24
 refine⟨other,rfl,by lia,.tup ((one++wsh other).map aq),?_,ord,one++wsh other,rfl,by lia,by lia,fun z=>?_,fun z arcs hD=>?_⟩
 ·rw[List.map_append];exact if_pos (szB _ (by rw[List.length_map,List.length_map,bH];lia))
 ·show if(false ^^ lQ D.non)=true then _ else _
  rw[if_pos (by simp[lQ])];exact⟨ord,one++wsh other,rfl,ho,hl,fun h=>by lia,fun h=>⟨fun m hm=>⟨sz3 2,(k0 h).1 m hm⟩,fun ps hps=>⟨sz3 2,(k0 h).2 ps hps⟩⟩⟩
 ·show if(false ^^ lQ (D.tup (arcs.map stD)))=true then _ else _
  rw[if_neg (by simp[lQ])];exact⟨ord,arcs,one,other,rfl,by lia,hD,hT,fun sts M' hS hw=>⟨sz3 2,k1 z sts M' (E6 hT hS) hw⟩⟩
def bY(l:List D):Prop:=∃N:Int,l=[.int N]
def jA:SpD:=fun ds M R=>∃c,ds=[.int c]/\Few c/\∀v,0<=v->v<10 ^ 60->R (.int v) M
def qR:SpD:=fun ds M R=>∃(ns:List Int) (k:Int),ds=[.scr (ns.map .int),.int k]/\(∀m∈ns,Few m)/\ns.length<=63/\0<=k/\k<=100/\∀p l,M p=none->bY l->R (.ref p) (aw M p (.lst l))
def fI:SpD:=fun ds M R=>∃p l n,ds=[.ref p,.int n]/\M p=some (.lst l)/\bY l/\0<n/\n<1073741824/\∀v l',0<=v->v<n->bY l'->R (.int v) (aw M p (.lst l'))
theorem rE(F:Fun K "_law_mixed" "_law_mixed" jV f fd) (T:Txt mg) :bj P w K mg base CX0 1 f fd ["_law_cell"] (spD K 1 jA):=by
 have nd:=lC.nd;refine F.okR rfl lC (fun cdv A outer s H E hr=>⟨_,(au (aS (aP qQ (aP sN (af 0) ak) (aP AD ak ak)))),fun ds M R _ hS bk=>?_⟩);obtain⟨c,rfl,hc,k⟩:=hS;refine bk ?_;clear bk;have hm:ik c 577215664901532860606512090082402431042159335939923598805767=True:=xc ⟨hc,rV (by decide) (by decide)⟩;walk_at "rd";simp only[hm];walk_at "rd";exact k _ (by lia) (by lia)
theorem vd(F:Fun K "_law_take" "_law_take" lh f fd) (T:Txt mg) :bj P w K mg base CX0 1 f fd ["_law_pack_here","_law_size"] (spD K 2 fI):=by
 have nd:=oz.nd;refine F.okR rfl oz (fun cdv A outer s H E hr=>⟨_,(ai (B4 (n:=2) rfl nd rfl (Or.inl rfl) (af 0) ak (ax yB rfl T.b_divmod (by kernel_rfl) (ae (aH aI (af 0) ak (fun _ _=>rfl)) (ae (af 1) ah))))
   (au (aS (af 2)))),fun ds M R _ hS bk=>?_⟩)
 obtain⟨p,l,n,rfl,hM,⟨N,rfl⟩,h0,h1,k⟩:=hS;refine bk ?_;clear bk;have hrd:=kU hM;have hcd:∀x,o3 x n:=fun x=>⟨h0,h1⟩;walk_at "rd";simp only[hrd,hM,hcd];walk_at "rd";exact⟨_,if_pos (hcd N),_,_,rfl,k _ _ (Int.emod_nonneg _ (by lia)) (Int.emod_lt_of_pos _ h0) ⟨_,rfl⟩⟩
theorem pR{ms:List Int}{i:Nat}{d:D}(h:(ms.map D.int)[i]?=some d):∃c,c∈ms/\d=.int c:=by
 rw[List.getElem?_map]at h;cases q:ms[i]? with
 |none=>rw[q]at h;cases h
 |some c=>rw[q]at h;cases h;exact⟨c,List.mem_of_getElem? q,rfl⟩
theorem t9{ns:List Int}{lo hi:Option Int}:∃ms:List Int,L2.c8 (ns.map D.int) lo hi=ms.map D.int/\ms.length<=ns.length/\∀m∈ms,m∈ns:=by
 refine⟨(ns.drop (HT.sIx (ns.map D.int).length 0 lo)).take (HT.sIx (ns.map D.int).length (ns.map D.int).length hi-HT.sIx (ns.map D.int).length 0 lo),?_,?_,?_⟩
 ·unfold L2.c8;rw[List.map_take,List.map_drop]
 ·simp;lia
 ·intro m hm;exact List.mem_of_mem_drop (List.mem_of_mem_take hm)
theorem uv{x:Int}{n:Nat}(h0:0<=x) (h1:x<10 ^ n) (hn:n<=10000):Few x:=by
 unfold Few;rw[intBits_le_iff];obtain⟨m,rfl⟩:=Int.eq_ofNat_of_zero_le h0;have h2:m<10 ^ n:=by exact_mod_cast h1
 have h3:10 ^ n<=(2 ^ 4) ^ n:=Nat.pow_le_pow_left (by decide) n;rw[<-Nat.pow_mul]at h3;have e20:(2:Nat) ^ 20=1048576:=by decide
 have h4:2 ^ (4*n)<=2 ^ (2 ^ 20):=Nat.pow_le_pow_right (by decide) (by lia);have e:(Int.ofNat m).natAbs=m:=rfl;show(Int.ofNat m).natAbs<_;rw[e];exact Nat.lt_of_lt_of_le h2 (Nat.le_trans h3 h4)
theorem vN(F:Fun K "_law_pack" "_law_pack" lY f fd) (T:Txt mg) (Y2:FnD P w K mg base "_law_mixed" 1 1 jA):bj P w K mg base CX0 2 f fd ["_law_script","_law_k"] (spD K 2 qR):=by
 have nd:=nH.nd;refine F.okR rfl nH (fun cdv A outer s H E hr=>⟨_,(ai (aO (i:=2) nd rfl (Or.inl rfl) ak)
   (ai (cP PassesOwn.never rfl (bp (bB (af 0) (bu (af 1)) (bu (aP aM (af 1) ak)))) (bg (i:=3) nd rfl (Or.inl rfl)) (au (aO (i:=2) nd rfl (Or.inl rfl) (aP aM (aP sN (af 2) (aP AD ak ak)) (qd Y2 hr (ae (af 3) ah))))))
   (au (aS (dM (ae (af 2) ah)))))),fun ds M R _ hS bk=>?_⟩)
 obtain⟨ns,k0,rfl,hf,hl,h0,h1,k⟩:=hS;refine bk ?_;clear bk;walk_at "rd";obtain⟨ms,hms,hml,hin⟩:=t9 (ns:=ns) (lo:=some k0) (hi:=some (k0+2));rw[hms];intro hz;refine aZ (fun i Δ M'=>∃(x:Int) (y:Option D),Δ=[some (D.scr (List.map D.int ns)),some (D.int k0),some (D.int x),y]/\M'=M/\0<=x/\x<10 ^ (60*i)) ⟨0,none,rfl,rfl,by lia,by simp⟩ ?_ ?_
 ·rintro i d Δ M' X hd ⟨x,y,rfl,rfl,hx0,hx1⟩ k';have hi:i<ms.length:=by
   have:=(List.getElem?_eq_some_iff.mp hd).1;simpa using this
  obtain⟨c,hc,rfl⟩:=pR hd;simp only[bL];have hm:ik x (10 ^ (60:Nat))=True:=xc ⟨uv hx0 hx1 (by lia),uv (n:=61) (by decide) (by decide) (by decide)⟩;walk_at "rd";simp only[Int.reducePow]at hm;simp only[hm];walk_at "rd";refine⟨c,rfl,hf c (hin c hc),fun v hv0 hv1=>?_⟩;walk_at "rd";refine k' _ _ ⟨_,_,rfl,rfl,by lia,?_⟩;have e:(10:Int) ^ (60*(i+1))=10 ^ (60*i)*10 ^ 60:=by rw[Nat.mul_add,Int.pow_add]
  rw[e];generalize (10:Int) ^ (60*i)=Z at hx1
  lia
 ·rintro Δ M' ⟨x,y,rfl,rfl,hx0,hx1⟩;walk_at "rd";exact⟨sz3 1,fun p hp=>k p _ hp ⟨x,rfl⟩⟩
def nU:SpD:=fun ds M R=>∃p l,ds=[.ref p]/\M p=some (.lst l)/\bY l/\∀(ws:List Str) l',ws≠[]->ws.length<=9->bY l'->R (.lst (ws.map .str)) (aw M p (.lst l'))
def mk1:List Str:=["n","s","pp","vmark","abcdefgh","nn","ss","q","zzzzzzzz"]
def mk2:List Str:=["a","aa","aaa","ab","b","ba","bb","c","ac"]
def mk3:List Str:=["ijk","lmo","qrt","uwx","yzg","de","fh","o","i"]
theorem qZ{v:Int}(h0:0<=v) (h1:v<3):∃ws:List Str,ws.length=9/\atI [D.lst (mk1.map D.str),D.lst (mk2.map D.str),D.lst (mk3.map D.str)] v=some (D.lst (ws.map D.str)):=by
 have:v=0∨v=1∨v=2:=by lia
 rcases this with rfl|rfl|rfl
 ·exact⟨mk1,rfl,rfl⟩
 ·exact⟨mk2,rfl,rfl⟩
 ·exact⟨mk3,rfl,rfl⟩
theorem vZ{v:Int}(h0:0<=v) (h1:v<8):∃n:Nat,1<=n/\n<=9/\atI [D.int 1,D.int 2,D.int 3,D.int 4,D.int 5,D.int 3,D.int 4,D.int 9] v=some (.int (n:Int)):=by
 have:v=0∨v=1∨v=2∨v=3∨v=4∨v=5∨v=6∨v=7:=by lia
 rcases this with rfl|rfl|rfl|rfl|rfl|rfl|rfl|rfl
 ·exact⟨1,by lia,by lia,rfl⟩
 ·exact⟨2,by lia,by lia,rfl⟩
 ·exact⟨3,by lia,by lia,rfl⟩
 ·exact⟨4,by lia,by lia,rfl⟩
 ·exact⟨5,by lia,by lia,rfl⟩
 ·exact⟨3,by lia,by lia,rfl⟩
 ·exact⟨4,by lia,by lia,rfl⟩
 ·exact⟨9,by lia,by lia,rfl⟩
theorem rS(F:Fun K "_law_marks" "_law_marks" jY f fd) (T:Txt mg) (G0:FnD P w K mg base "_law_take" 1 2 fI):bj P w K mg base CX0 2 f fd ["_law_pack_here"] (spD K 1 nU):=by
 have nd:=lJ.nd;refine F.okR rfl lJ (fun cdv A outer s H E hr=>⟨_,(ai (aO (i:=1) nd rfl (Or.inl rfl) (dM (ae (iu (ae aW (ae aW (ae aW (ae aW (ae aW (ae aW (ae aW (ae aW (ae aW ah)))))))))) ah)))
   (ai (dH (ix (af 1) (iu (ae aW (ae aW (ae aW (ae aW (ae aW (ae aW (ae aW (ae aW (ae aW ah))))))))))))
   (ai (dH (ix (af 1) (iu (ae aW (ae aW (ae aW (ae aW (ae aW (ae aW (ae aW (ae aW (ae aW ah))))))))))))
   (au (bT (bB (aH aI (af 1) (qd G0 hr (ae (af 0) (ae ak ah))) (fun _ _=>rfl)) cL (bu (aH aI (iu (ae ak (ae ak (ae ak (ae ak (ae ak (ae ak (ae ak (ae ak ah))))))))) (qd G0 hr (ae (af 0) (ae ak ah))) (fun _ _=>rfl))))))))),fun ds M R _ hS bk=>?_⟩)
 obtain⟨p,l,rfl,hM,hP,k⟩:=hS;refine bk ?_;clear bk;walk_at "rd";refine⟨sz3 9,sz3 1,fun q hq=>⟨sz3 9,sz3 2,sz3 9,sz3 3,?_⟩⟩;have hpq:p≠q:=by rintro rfl;rw[hM]at hq;cases hq
 refine⟨p,l,3,rfl,by rw[av hpq];exact hM,hP,by lia,by lia,fun v l1 h0 h1 hP1=>?_⟩;obtain⟨ws,hw1,hw3⟩:=qZ h0 h1;refine⟨D.lst (ws.map D.str),?_,sz3 8,?_⟩
 ·rw[kU (show(aw (aw M q _) p (HD.lst l1)) q=some (.lst _)from by rw[av (Ne.symm hpq),aj])];exact hw3
 refine⟨p,l1,8,rfl,aj,hP1,by lia,by lia,fun v2 l2 h2 h3 hP2=>?_⟩;obtain⟨n,hn1,hn2,hn3⟩:=vZ h2 h3;refine⟨_,hn3,_,rfl,_,BP,_,?_,k (ws.take n) l2 ?_ ?_ hP2⟩
 ·rw[aE,dg (Ne.symm hpq)];exact dQ (by rw[av (Ne.symm hpq)];exact hq)
 ·intro e;have hh:(ws.take n).length=0:=by rw[e];rfl
  rw[List.length_take]at hh
  lia
 ·simp;lia
def ox:SpD:=fun ds M R=>∃(p:Addr) (l:List D) (bU:List Str),ds=[.ref p,.lst (bU.map .str)]/\M p=some (.lst l)/\bY l/\bU≠[]/\bU.length<=9 /\
 ∀(ord:List (Str×Str)) l',ord.length<=8->(∀x∈ord,x.1∈bU/\x.2∈bU)->bY l'->R (.tup (ord.map aC)) (aw M p (.lst l'))
theorem rZ(F:Fun K "_law_order" "_law_order" gX f fd) (T:Txt mg) (G0:FnD P w K mg base "_law_take" 1 2 fI):bj P w K mg base CX0 2 f fd ["_law_pack_here","_law_marks_here"] (spD K 2 ox):=by
 have nd:=ma.nd;refine F.okR rfl ma (fun cdv A outer s H E hr=>⟨_,(ai (aO (i:=2) nd rfl (Or.inl rfl) (dM ah))
   (ai (cP PassesOwn.never rfl (cz rfl T.b_range (ae (qd G0 hr (ae (af 0) (ae ak ah))) ah)) (bg (i:=3) nd rfl (Or.inl rfl)) (au (dH (ix (af 2) (aU (ae (aH aI (af 1) (qd G0 hr (ae (af 0) (ae (ax a7 rfl T.b_len (by kernel_rfl) (ae (af 1) ah)) ah))) (fun _ _=>rfl)) (ae (aH aI (af 1) (qd G0 hr (ae (af 0) (ae (ax a7 rfl T.b_len (by kernel_rfl) (ae (af 1) ah)) ah))) (fun _ _=>rfl)) ah)))))))
   (ai (bh (aF (ft hr.units) (qd G0 hr (ae (af 0) (ae ak ah))) ak nbh) (ai (rj (i:=2) nd rfl rfl rfl (ms:=[false,true,false,false,false]) (am:=[]) (aJ rfl (show aR (ao gX) jH _ _=true from by decide +kernel)) rfl (cz rfl T.b_range (ae (aP fk (ax a7 rfl T.b_len (by kernel_rfl) (ae (af 1) ah)) ak) ah)) (aD (i:=3) (show(jH++_).Nodup from by decide +kernel) rfl rfl) (fun _ _ _ _=>dY) (fun _ _ _ _=>(aU (ae (aH aI (af 1) (af 3) (fun _ _=>rfl)) (ae (aH aI (af 1) (aP aM (af 3) ak) (fun _ _=>rfl)) ah)))))
   (ai (aO (i:=4) nd rfl (Or.inl rfl) (qd G0 hr (ae (af 0) (ae (ax a7 rfl T.b_len (by kernel_rfl) (ae (af 1) ah)) ah))))
   (au (aO (i:=2) nd rfl (Or.inl rfl) (CZ (bB (af 2) (bu (af 4)) cL) (bB (af 2) cL (bu (af 4)))))))) aV)
   (au (bT (bR dq rfl T.b_tuple (by kernel_rfl) (ae (af 2) ah))))))),fun ds M R _ hS bk=>?_⟩)
 obtain⟨p,l,bU,rfl,hM,hP,hm,hml,k⟩:=hS;refine bk ?_;clear bk;walk_at "rd";refine⟨sz3 0,fun q hq=>?_⟩;have hpq:p≠q:=by rintro rfl;rw[hM]at hq;cases hq
 refine⟨p,l,6,rfl,by rw[av hpq];exact hM,hP,by lia,by lia,fun v l1 h2 h3 hP1=>?_⟩;refine⟨v,rfl,by lia,by lia,?_⟩;have hmp:=List.length_pos_iff.mpr hm;refine aZ (fun i Δ M'=>∃(x3 x4:Option D) (l2:List D) (ord:List (Str×Str)),Δ=[some (D.ref p),some (D.lst (bU.map D.str)),some (D.ref q),x3,x4]/\M'=aw (aw M p (.lst l2)) q (.lst (ord.map aC))/\bY l2/\ord.length=i/\∀x∈ord,x.1∈bU/\x.2∈bU)
  ⟨_,_,l1,[],rfl,dg (Ne.symm hpq),hP1,rfl,fun x hx=>absurd hx (by simp)⟩ ?_ ?_
 ·rintro i d Δ M' X hd ⟨x3,x4,l2,ord,rfl,rfl,hP2,hol,ho⟩ k';have hi:i<6:=by have:=(cv hd).1;lia
  simp only[bL];walk_at "rd";rw[List.length_map];refine⟨p,l2,_,rfl,by rw[av hpq,aj],hP2,by lia,by lia,fun v1 l3 a0 a1 hP3=>?_⟩;obtain⟨m1,hm1,e1⟩:=dB a0 a1;refine⟨_,e1,?_⟩;refine⟨p,l3,_,rfl,aj,hP3,by lia,by lia,fun v2 l4 b0 b1 hP4=>?_⟩;obtain⟨m2,hm2,e2⟩:=dB b0 b1;refine⟨_,e2,sz3 2,?_⟩;have em:aw (aw (aw (aw M p (.lst l2)) q (.lst (ord.map aC))) p (.lst l3)) p (.lst l4)=aw (aw M p (.lst l4)) q (.lst (ord.map aC)):=by
   rw[aE,<-dg hpq,aE]
  rw[em];refine⟨_,aj,by rw[List.length_map];exact Nat.lt_of_lt_of_le (by lia:ord.length<1000) (sz3 1000),?_⟩;rw[aE];refine k' _ _ ⟨_,_,l4,ord++[(m1,m2)],rfl,by simp[aC],hP4,by simp;lia,fun x hx=>?_⟩;rcases List.mem_append.mp hx with h|h
  ·exact ho x h
  ·have:x=(m1,m2):=by simpa using h
   subst this;exact⟨hm1,hm2⟩
 ·rintro Δ M' ⟨x3,x4,l2,ord,rfl,rfl,hP2,hol,ho⟩;rw[bS]at hol;walk_at "rd";refine⟨p,l2,4,rfl,by rw[av hpq,aj],hP2,by lia,by lia,fun v1 l3 a0 a1 hP3=>?_⟩;have em:aw (aw (aw M p (.lst l2)) q (.lst (ord.map aC))) p (.lst l3)=aw (aw M p (.lst l3)) q (.lst (ord.map aC)):=by
   rw[<-dg hpq,aE]
  rw[em];walk_at "rd";refine cE (fun h=>?_) (fun h=>?_)
  ·rw[List.length_map];have hcn:((bU.length:Int)-1).toNat=bU.length-1:=by lia
   refine⟨by lia,by lia,by rw[bS];exact sz3 _ (by lia),?_⟩;refine mO (fun i acc Δ M'=>∃(x:Option D) (ps:List (Str×Str)),Δ=[none,some (.lst (bU.map D.str)),none,x,none]/\M'=aw (aw M p (.lst l3)) q (.lst (ord.map aC))/\acc=ps.map aC/\ps.length=i/\∀x∈ps,x.1∈bU/\x.2∈bU) ⟨none,[],rfl,rfl,rfl,rfl,fun x hx=>absurd hx (by simp)⟩ ?_ ?_
   ·rintro i d acc Δ M' X hd ⟨x,ps,rfl,rfl,rfl,hpl,hp⟩ k';obtain⟨hi,rfl⟩:=cv hd;rw[hcn]at hi;obtain⟨m1,hm1,e1⟩:=dB (bU:=bU) (v:=0+(i:Int)) (by lia) (by lia);obtain⟨m2,hm2,e2⟩:=dB (bU:=bU) (v:=0+(i:Int)+1) (by lia) (by lia);refine⟨_,rfl,?_⟩;walk_at "rd";simp only[u0,if_true];refine⟨_,e1,_,e2,sz3 2,?_⟩;refine k' _ _ _ ⟨_,ps++[(m1,m2)],rfl,rfl,by simp[aC],by simp;lia,fun x hx=>?_⟩;rcases List.mem_append.mp hx with h|h
    ·exact hp x h
    ·have:x=(m1,m2):=by simpa using h
     subst this;exact⟨hm1,hm2⟩
   ·rintro acc Δ M' ⟨x,ps,rfl,rfl,rfl,hpl,hp⟩;rw[bS]at hpl;intro q2 hq2;have hq2p:p≠q2:=by rintro rfl;rw[av hpq,aj]at hq2;cases hq2
    have hq2q:q2≠q:=by rintro rfl;rw[aj]at hq2;cases hq2
    have hMq2:M q2=none:=by rw[av hq2q,av (Ne.symm hq2p)]at hq2;exact hq2
    refine⟨p,l3,_,rfl,by rw[av hq2p,av hpq,aj],hP3,by lia,by lia,fun v2 l4 b0 b1 hP4=>?_⟩;have hrd:rdM (aw (aw (aw (aw M p (.lst l3)) q (.lst (ord.map aC))) q2 (.lst (ps.map aC))) p (.lst l4)) (D.ref q2)=.lst (ps.map aC):=kU (by rw[av (Ne.symm hq2p),aj]);obtain⟨n,rfl⟩:=Int.eq_ofNat_of_zero_le b0;refine⟨_,rfl,?_⟩;rw[hrd];refine⟨_,ua,_,rfl,_,ua,?_⟩;walk_at "rd";rw[sD,qE,<-List.map_take,<-List.map_drop];refine⟨by rw[List.length_map,List.length_map];exact sz3 _ (by simp;lia),fun q3 hq3=>?_⟩;have hle:LeM (aw M p (.lst l4)) (aw (aw (aw (aw M p (.lst l3)) q (.lst (ord.map aC))) q2 (.lst (ps.map aC))) p (.lst l4)):=by
     intro a u e
     by_cases hap:a=p
     ·subst hap;rw[aj]at e ⊢;exact e
     ·rw[av hap]at e ⊢;have h1:a≠q2:=by rintro rfl;rw[hMq2]at e;cases e
      have h2:a≠q:=by rintro rfl;rw[hq]at e;cases e
      rw[av h1,av h2,av hap];exact e
    rw[<-List.map_append];refine⟨_,leU hle (hle.none hq3),k (ps.drop n++ps.take n) l4 (by simp;lia) (fun x hx=>?_) hP4⟩;rcases List.mem_append.mp hx with h|h
    ·exact hp x (List.mem_of_mem_drop h)
    ·exact hp x (List.mem_of_mem_take h)
  ·exact⟨_,dQ (by rw[av (Ne.symm hpq)];exact hq),k ord l3 (by lia) ho hP3⟩
def gH(ord:List (Str×Str)) (F:List Str):Prop:=∀p∈ord,p.1∈F->p.2∈F
def jC(ord:List (Str×Str)) (F:List Str):Nat:=(ord.filter fun p=>decide (p.2∈F)).length
theorem n8{F G:List Str}(h:∀x∈F,x∈G):∀{ord:List (Str×Str)},jC ord F<=jC ord G
 |[]=>Nat.le_refl _
 |p::ord=>by
  have ih:=n8 h (ord:=ord);unfold jC at ih ⊢
  by_cases h1:p.2∈F
  ·simp[List.filter_cons,h1,h _ h1];exact ih
  ·by_cases h2:p.2∈G
   ·simp[List.filter_cons,h1,h2];lia
   ·simp[List.filter_cons,h1,h2];exact ih
theorem tM{F G:List Str}(h:∀x∈F,x∈G) {q:Str×Str}(h1:q.2∉F) (h2:q.2∈G):∀{ord:List (Str×Str)},q∈ord->jC ord F<jC ord G
 |p::ord,hm=>by
  have im:=n8 h (ord:=ord);rcases List.mem_cons.mp hm with e|hm
  ·subst e;unfold jC at im ⊢;simp[List.filter_cons,h1,h2];lia
  ·have ih:=tM h h1 h2 hm;unfold jC at im ih ⊢
   by_cases h3:p.2∈F
   ·simp[List.filter_cons,h3,h _ h3];exact ih
   ·by_cases h4:p.2∈G
    ·simp[List.filter_cons,h3,h4];lia
    ·simp[List.filter_cons,h3,h4];exact ih
theorem yU{ord:List (Str×Str)}{F:List Str}:jC ord F<=ord.length:=List.length_filter_le _ _
theorem pO{F:List Str}:∀{ord:List (Str×Str)},ord.length<=jC ord F->∀p∈ord,p.2∈F
 |p::ord,h,q,hq=>by
  have hl:=yU (ord:=ord) (F:=F);unfold jC at h hl
  by_cases h3:p.2∈F
  ·rcases List.mem_cons.mp hq with e|hq
   ·subst e;exact h3
   ·refine pO (ord:=ord) ?_ q hq;unfold jC;simp[List.filter_cons,h3]at h;exact h
  ·simp[List.filter_cons,h3]at h
   lia
theorem vo{ord:List (Str×Str)}{F:List Str}(h:gH ord F∨ord.length<=jC ord F):gH ord F:=by
 rcases h with h|h
 ·exact h
 ·exact fun p hp _=>pO h p hp
def jK:SpD:=fun ds M R=>∃(ord:List (Str×Str)) (a:Str),ds=[.tup (ord.map aC),.str a]/\ord.length<=500 /\
 ∀L:List Str,a∈L->gH ord L->(∀x∈L,bV ord a x)->R (.lst (L.map .str)) M
theorem rq(F:Fun K "_law_above" "_law_above" jS f fd) (T:Txt mg) :bj P w K mg base CX0 1 f fd ["_law_order_here","_law_mark"] (spD K 2 jK):=by
 have nd:=mJ.nd;refine F.okR rfl mJ (fun cdv A outer s H E hr=>⟨_,(ai (aO (i:=2) nd rfl (Or.inl rfl) (dM (ae (af 1) ah)))
   (ai (cP PassesOwn.never rfl (cz rfl T.b_range (ae (aP aM (ax a7 rfl T.b_len (by kernel_rfl) (ae (af 0) ah)) ak) ah)) (bg (i:=3) nd rfl (Or.inl rfl)) (au (cP PassesOwn.never rfl (bp (af 0)) (j7 rfl (cm (bg (i:=4) nd rfl (Or.inl rfl)) (cm (bg (i:=5) nd rfl (Or.inl rfl)) kh))) (au (bh (fZ (eK (aF my (af 4) (af 2) rfl) (eV (aF rg (af 5) (af 2) rfl)))) (au (dH (ix (af 2) (af 5)))) aV)))))
   (au (xQ (af 2))))),fun ds M R _ hS bk=>?_⟩)
 obtain⟨ord,a,rfl,ho,k⟩:=hS;refine bk ?_;clear bk;walk_at "rd";rw[List.length_map];refine⟨sz3 1,fun q hq=>⟨by lia,by lia,?_⟩⟩;refine aZ (fun i Δ M'=>∃(x3 x4 x5:Option D) (L:List Str),Δ=[some (D.tup (ord.map aC)),some (D.str a),some (D.ref q),x3,x4,x5]/\M'=aw M q (.lst (L.map .str))/\a∈L/\L.Nodup/\(∀x∈L,bV ord a x)/\(∀x∈L,x∈a::ord.map (·.2))/\(gH ord L∨i<=jC ord L))
  ⟨_,_,_,[a],rfl,rfl,by simp,by simp,fun x hx=>by rw[List.mem_singleton.mp hx];exact bV.refl,fun x hx=>by rw[List.mem_singleton.mp hx];simp,.inr (Nat.zero_le _)⟩ ?_ ?_
 ·rintro i d Δ M' X hd ⟨x3,x4,x5,L0,rfl,rfl,ha,hn,hs,hb,hC⟩ k';simp only[bL];walk_at "rd";intro hz;refine aZ (fun j Δ M'=>∃(x4 x5:Option D) (L:List Str),Δ=[some (D.tup (ord.map aC)),some (D.str a),some (D.ref q),some d,x4,x5]/\M'=aw M q (.lst (L.map .str))/\(∀x∈L0,x∈L)/\L.Nodup/\(∀x∈L,bV ord a x)/\(∀x∈L,x∈a::ord.map (·.2))/\(∀n y,n<j->ord[n]?=some y->y.1∈L0->y.2∈L)/\(gH ord L0->L=L0))
   ⟨_,_,L0,rfl,rfl,fun _ h=>h,hn,hs,hb,fun n y h=>absurd h (by lia),fun _=>rfl⟩ ?_ ?_
  ·rintro j d2 Δ M' X2 hd2 ⟨y4,y5,L,rfl,rfl,hsub,hn2,hs2,hb2,hd',hc⟩ k2;obtain⟨⟨b,c⟩,hbc,rfl⟩:=eW hd2;have hmem:(b,c)∈ord:=List.mem_of_getElem? hbc;have bG:L.length<=ord.length+1:=by
    have:=dh L (a::ord.map (·.2)) hn2 hb2;simpa using this
   simp only[aC,jh,fm,bL,lM,Option.bind_some];refine⟨_,rfl,?_⟩;walk_at "rd";refine⟨_,if_pos ⟨rfl,dA⟩,_,rfl,?_⟩;rw[cW];simp only[Bool.false_xor]
   by_cases hbL:b∈L
   ·simp only[hbL,decide_true,if_true];refine⟨_,if_pos ⟨rfl,dA⟩,_,rfl,?_⟩;rw[cW]
    by_cases hcL:c∈L
    ·simp only[hcL,decide_true,Bool.xor_true,Bool.not_true,Bool.false_eq_true,if_false];refine k2 _ _ ⟨_,_,L,rfl,rfl,hsub,hn2,hs2,hb2,fun n y hnj hy hy0=>?_,hc⟩
     by_cases hnj':n<j
     ·exact hd' n y hnj' hy hy0
     ·have:n=j:=by lia
      subst this;rw[hbc]at hy;cases hy;exact hcL
    ·simp only[hcL,decide_false,Bool.xor_false,if_true];refine⟨by rw[List.length_map];exact Nat.lt_of_lt_of_le (by lia:L.length<1000) (sz3 1000),?_⟩;have ea:L.map D.str++[D.str c]=(L++[c]).map D.str:=by simp
     rw[ea];refine k2 _ _ ⟨_,_,L++[c],rfl,rfl,fun x hx=>List.mem_append_left _ (hsub x hx),?_,fun x hx=>?_,fun x hx=>?_,fun n y hnj hy hy0=>?_,fun hcl=>?_⟩
     ·rw[List.nodup_append];refine⟨hn2,by simp,fun u hu v hv=>?_⟩;have:v=c:=by simpa using hv
      subst this;rintro rfl;exact hcL hu
     ·rcases List.mem_append.mp hx with h|h
      ·exact hs2 x h
      ·have:x=c:=by simpa using h
       subst this;exact bV.step (hs2 b hbL) hmem
     ·rcases List.mem_append.mp hx with h|h
      ·exact hb2 x h
      ·have:x=c:=by simpa using h
       subst this;exact List.mem_cons_of_mem _ (List.mem_map.mpr ⟨_,hmem,rfl⟩)
     ·by_cases hnj':n<j
      ·exact List.mem_append_left _ (hd' n y hnj' hy hy0)
      ·have:n=j:=by lia
       subst this;rw[hbc]at hy;cases hy;simp
     ·have e:=hc hcl;rw[e]at hbL hcL;exact absurd (hcl _ hmem hbL) hcL
   ·simp only[hbL,decide_false,Bool.false_eq_true,if_false];refine k2 _ _ ⟨_,_,L,rfl,rfl,hsub,hn2,hs2,hb2,fun n y hnj hy hy0=>?_,hc⟩
    by_cases hnj':n<j
    ·exact hd' n y hnj' hy hy0
    ·have:n=j:=by lia
     subst this;rw[hbc]at hy;cases hy;exact absurd (hsub _ hy0) hbL
  ·rintro Δ M' ⟨y4,y5,L,rfl,rfl,hsub,hn2,hs2,hb2,hd',hc⟩;refine k' _ _ ⟨_,_,_,L,rfl,rfl,hsub a ha,hn2,hs2,hb2,?_⟩
   by_cases hcl:gH ord L0
   ·rw[hc hcl];exact .inl hcl
   ·right;have hk:=hC.resolve_left hcl;have:∃p∈ord,p.1∈L0/\p.2∉L0:=Classical.byContradiction fun hn=>hcl fun p hp h1=>Classical.byContradiction fun h2=>hn ⟨p,hp,h1,h2⟩;obtain⟨p,hp,h1,h2⟩:=this;obtain⟨n,hn',en⟩:=List.mem_iff_getElem.mp hp;have hin:p.2∈L:=hd' n p (by rw[List.length_map];exact hn') (by rw[List.getElem?_eq_getElem hn',en]) h1;have:=tM hsub h2 hin hp
    lia
 ·rintro Δ M' ⟨x3,x4,x5,L,rfl,rfl,ha,hn,hs,hb,hC⟩;have hC':gH ord L:=vo (by rw[bS]at hC;rcases hC with h|h;exact .inl h;right;lia);walk_at "rd";rw[lU hq];exact k L ha hC' hs
def dj:SpD:=fun ds M R=>∃(ord:List (Str×Str)) (x y:Str×Int),ds=[.tup (ord.map aC),aq x,aq y]/\ord.length<=500/\R (.bl (x.2==y.2&&lB ord x.2 x.1 y.1)) M
def dE:SpD:=fun ds M R=>∃(ord:List (Str×Str)) (x y:Str×Int),ds=[.tup (ord.map aC),aq x,aq y]/\ord.length<=500/\R (.bl (x.2+1==y.2&&lB ord x.2 x.1 y.1)) M
theorem rf{ord:List (Str×Str)}{a b:Str}{L:List Str}(h1:a∈L) (h2:gH ord L) (h3:∀x∈L,bV ord a x):(false ^^ decide (b∈L))=rB ord a b:=by
 rw[Bool.false_xor,Bool.eq_iff_iff,jF,decide_eq_true_eq];exact⟨fun h=>h3 b h,fun h=>jq h1 h2 h⟩
theorem sE(F:Fun K "_law_leads" "_law_leads" jw f fd) (T:Txt mg) (G9:FnD P w K mg base "_law_above" 1 2 jK):bj P w K mg base CX0 2 f fd ["_law_order_here","_law_one","_law_other"] (spD K 3 dj):=by
 have nd:=lV.nd;refine F.okR rfl lV (fun cdv A outer s H E hr=>⟨_,(ai (bh (aF (gu hr.units) (aH aI (af 1) ak (fun _ _=>rfl)) (aH aI (af 2) ak (fun _ _=>rfl)) nbh) (au (aS gw)) aV)
   (ai (bh (aF (ft hr.units) (aP qQ (aH aI (af 1) ak (fun _ _=>rfl)) ak) ak nbh) (au (aS (gh my (aH aI (af 2) ak (fun _ _=>rfl)) (qd G9 hr (ae (af 0) (ae (aH aI (af 1) ak (fun _ _=>rfl)) ah))) rfl))) aV)
   (au (aS (gh my (aH aI (af 1) ak (fun _ _=>rfl)) (qd G9 hr (ae (af 0) (ae (aH aI (af 2) ak (fun _ _=>rfl)) ah))) rfl))))),fun ds M R _ hS bk=>?_⟩)
 obtain⟨ord,⟨a,t⟩,⟨b,u⟩,rfl,ho,k⟩:=hS;refine bk ?_;clear bk;simp only[aq];walk_at "rd";refine cE (fun h=>?_) (fun h=>?_)
 ·have h':(t==u)=false:=by simpa using h
  rw[h',Bool.false_and]at k;exact k
 ·have h':(t==u)=true:=by simpa using h
  rw[h',Bool.true_and]at k;refine cE (fun h2=>?_) (fun h2=>?_)
  ·rw[tH (by simpa using h2)]at k;refine⟨ord,a,rfl,ho,fun L g1 g2 g3=>?_⟩;walk_at "rd";refine⟨_,if_pos ⟨rfl,dA⟩,?_⟩;rw[cW,rf g1 g2 g3];exact k
  ·rw[xw (by simpa using h2)]at k;refine⟨ord,b,rfl,ho,fun L g1 g2 g3=>?_⟩;walk_at "rd";refine⟨_,if_pos ⟨rfl,dA⟩,?_⟩;rw[cW,rf g1 g2 g3];exact k
theorem pC(F:Fun K "_law_cancels" "_law_cancels" gF f fd) (T:Txt mg) (G3:FnD P w K mg base "_law_leads" 2 3 dj):bj P w K mg base CX0 3 f fd ["_law_order_here","_law_one","_law_other"] (spD K 3 dE):=by
 have nd:=iY.nd;refine F.okR rfl iY (fun cdv A outer s H E hr=>⟨_,(au (aS (lW (gh (ft hr.units) (aH aI (af 2) ak (fun _ _=>rfl)) (aP aM (aH aI (af 1) ak (fun _ _=>rfl)) ak) nbh) (oy (qd G3 hr (ae (af 0) (ae (af 1) (ae (aU (ae (aH aI (af 2) ak (fun _ _=>rfl)) (ae (aH aI (af 1) ak (fun _ _=>rfl)) ah))) ah)))))))),fun ds M R _ hS bk=>?_⟩);obtain⟨ord,⟨a,t⟩,⟨b,u⟩,rfl,ho,k⟩:=hS;refine bk ?_;clear bk;simp only[aq];walk_at "rd";have e:(u==t+1)=(t+1==u):=by rw[Bool.eq_iff_iff];simp;lia
 simp only[<-e]at k;refine cE (fun h=>?_) (fun h=>?_)
 ·simp only[h,Bool.true_and]at k;refine⟨sz3 2,ord,(a,t),(b,t),rfl,ho,?_⟩;simp only[beq_self_eq_true,Bool.true_and];exact k
 ·simp only[h,Bool.false_and]at k;exact k
def nM:SpD:=fun ds M R=>∃(ord:List (Str×Str)) (x y:Str×Int),ds=[.tup (ord.map aC),aq x,aq y]/\ord.length<=500/\x.2=y.2+1/\lB ord y.2 x.1 y.1=true/\R (.bl true) M
theorem rJ(F:Fun K "_law_grows" "_law_grows" jT f fd) (T:Txt mg) (G3:FnD P w K mg base "_law_leads" 2 3 dj):bj P w K mg base CX0 3 f fd ["_law_order_here","_law_one","_law_other"] (spD K 3 nM):=by
 have nd:=mD.nd;refine F.okR rfl mD (fun cdv A outer s H E hr=>⟨_,(au (aS (lW (gh (ft hr.units) (aH aI (af 1) ak (fun _ _=>rfl)) (aP aM (aH aI (af 2) ak (fun _ _=>rfl)) ak) nbh) (oy (qd G3 hr (ae (af 0) (ae (aU (ae (aH aI (af 1) ak (fun _ _=>rfl)) (ae (aH aI (af 2) ak (fun _ _=>rfl)) ah))) (ae (af 2) ah)))))))),fun ds M R _ hS bk=>?_⟩);obtain⟨ord,x,y,rfl,ho,h1,h2,k⟩:=hS;refine bk ?_;clear bk;simp only[aq];walk_at "rd";rw[if_pos (by simpa using h1)];refine⟨sz3 2,ord,(x.1,y.2),y,rfl,ho,?_⟩;simp only[beq_self_eq_true,Bool.true_and,h2];exact k
def uj:SpD:=fun ds M R=>∃(p:Addr) (l:List D) (ws:List Str) (n t:Int),ds=[.ref p,.lst (ws.map .str),.int n,.int t]/\M p=some (.lst l)/\bY l/\ws≠[]/\ws.length<=9/\0<=n/\n<=100/\0<=t/\t<=50 /\
 ∀(row:List (Str×Int)) l',row.length=n.toNat->(∀x∈row,x.1∈ws)->bY l'->R (.tup (row.map aq)) (aw M p (.lst l'))
theorem wY(F:Fun K "_law_row" "_law_row" ph f fd) (T:Txt mg) (G0:FnD P w K mg base "_law_take" 1 2 fI):bj P w K mg base CX0 2 f fd ["_law_pack_here","_law_marks_here","_law_size","_law_turns"] (spD K 4 uj):=by
 have nd:=pV.nd;refine F.okR rfl pV (fun cdv A outer s H E hr=>⟨_,(ai (aO (i:=4) nd rfl (Or.inl rfl) (dM ah))
   (ai (cP PassesOwn.never rfl (cz rfl T.b_range (ae (af 2) ah)) (bg (i:=5) nd rfl (Or.inl rfl)) (ai (aO (i:=6) nd rfl (Or.inl rfl) (aH aI (af 1) (qd G0 hr (ae (af 0) (ae (ax a7 rfl T.b_len (by kernel_rfl) (ae (af 1) ah)) ah))) (fun _ _=>rfl)))
   (au (dH (ix (af 4) (aU (ae (af 6) (ae (aP fk (qd G0 hr (ae (af 0) (ae (aP aM (aP xq ak (af 3)) ak) ah))) (af 3)) ah))))))))
   (au (bT (bR dq rfl T.b_tuple (by kernel_rfl) (ae (af 4) ah)))))),fun ds M R _ hS bk=>?_⟩)
 obtain⟨p,l,ws,n,t,rfl,hM,hP,hw,hwl,h0,h1,t0,t1,k⟩:=hS;refine bk ?_;clear bk;walk_at "rd";refine⟨sz3 0,fun q hq=>⟨by lia,by lia,?_⟩⟩;have hpq:p≠q:=by rintro rfl;rw[hM]at hq;cases hq
 have hwp:=List.length_pos_iff.mpr hw;refine aZ (fun i Δ M'=>∃(x5 x6:Option D) (l2:List D) (row:List (Str×Int)),Δ=[some (D.ref p),some (D.lst (ws.map D.str)),some (D.int n),some (D.int t),some (D.ref q),x5,x6]/\M'=aw (aw M p (.lst l2)) q (.lst (row.map aq))/\bY l2/\row.length=i/\∀x∈row,x.1∈ws)
  ⟨_,_,l,[],rfl,?_,hP,rfl,fun x hx=>absurd hx (by simp)⟩ ?_ ?_
 ·funext a
  by_cases ha:a=q
  ·subst ha;rw[aj,aj];rfl
  ·rw[av ha,av ha]
   by_cases hb:a=p
   ·subst hb;rw[aj];exact hM
   ·rw[av hb]
 ·rintro i d Δ M' X hd ⟨x5,x6,l2,row,rfl,rfl,hP2,hol,ho⟩ k';have hi:i<100:=by have:=(cv hd).1;lia
  simp only[bL];walk_at "rd";rw[List.length_map];refine⟨p,l2,_,rfl,by rw[av hpq,aj],hP2,by lia,by lia,fun v1 l3 a0 a1 hP3=>?_⟩;obtain⟨m1,hm1,e1⟩:=dB a0 a1;refine⟨_,e1,?_⟩;have em1:aw (aw (aw M p (.lst l2)) q (.lst (row.map aq))) p (.lst l3)=aw (aw M p (.lst l3)) q (.lst (row.map aq)):=by
   rw[<-dg hpq,aE]
  rw[em1];refine⟨_,aj,?_⟩;refine⟨p,l3,_,rfl,by rw[av hpq,aj],hP3,by lia,by lia,fun v2 l4 b0 b1 hP4=>?_⟩;walk_at "rd";have em:aw (aw (aw M p (.lst l3)) q (.lst (row.map aq))) p (.lst l4)=aw (aw M p (.lst l4)) q (.lst (row.map aq)):=by
   rw[<-dg hpq,aE]
  rw[em];refine⟨sz3 2,_,aj,by rw[List.length_map];exact Nat.lt_of_lt_of_le (by lia:row.length<1000) (sz3 1000),?_⟩;rw[aE];refine k' _ _ ⟨_,_,l4,row++[(m1,v2-t)],rfl,by simp[aq],hP4,by simp;lia,fun x hx=>?_⟩;rcases List.mem_append.mp hx with h|h
  ·exact ho x h
  ·have:x=(m1,v2-t):=by simpa using h
   subst this;exact hm1
 ·rintro Δ M' ⟨x5,x6,l2,row,rfl,rfl,hP2,hol,ho⟩;rw[bS]at hol;walk_at "rd";exact⟨_,dQ (by rw[av (Ne.symm hpq)];exact hq),k row l2 hol ho hP2⟩
theorem wL{x y:Str×Int}:eqD (aq x) (aq y)=decide (x=y):=by
 obtain⟨a,t⟩:=x;obtain⟨b,u⟩:=y;rw[Bool.eq_iff_iff];simp[aq,eqD,cw]
theorem iE:∀{r1 r2:List (Str×Int)},cw (r1.map aq) (r2.map aq)=decide (r1=r2)
 |[],[]=>by simp[cw]
 |[],_::_=>by simp[cw]
 |_::_,[]=>by simp[cw]
 |x::r1,y::r2=>by
  rw[List.map_cons,List.map_cons,cw,iE (r1:=r1) (r2:=r2),wL];simp
theorem fS{r:List (Str×Int)}:cK (r.map aq) 59=true:=by
 rw[fD];intro d hd;obtain⟨x,_,rfl⟩:=List.mem_map.mp hd;rfl
theorem neR{r1 r2:List (Str×Int)}:neF (.tup (r1.map aq)) (.tup (r2.map aq))=some (.bl (!decide (r1=r2))):=by
 have h1:dLe (.tup (r1.map aq)) 60=true:=fS;have h2:dLe (.tup (r2.map aq)) 60=true:=fS;simp only[neF,h1,h2,and_self,if_true,eqD,iE]
theorem eqR{r1 r2:List (Str×Int)}:eqF (.tup (r1.map aq)) (.tup (r2.map aq))=some (.bl (decide (r1=r2))):=by
 have h1:dLe (.tup (r1.map aq)) 60=true:=fS;have h2:dLe (.tup (r2.map aq)) 60=true:=fS;simp only[eqF,h1,h2,and_self,if_true,eqD,iE]
theorem CA{ns:List Int}:neF (.lst (ns.map D.int)) (.lst [])=some (.bl (!decide (ns=[]))):=by
 have h0:∀n,cK ([]:List D) n=true:=fun n=>rfl;have h1:cK (ns.map D.int) 59=true:=by
  rw[fD];intro d hd;obtain⟨x,_,rfl⟩:=List.mem_map.mp hd;rfl
 have h2:dLe (.lst (ns.map D.int)) 60=true:=h1;have h3:dLe (.lst []) 60=true:=rfl;simp only[neF,h2,h3,and_self,if_true,eqD];cases ns with
 |nil=>rfl
 |cons a r=>simp[cw]
theorem vE{o:List (Str×Str)}{x:Str×Int}{ws:List Str}{M:DH}{Q:List D->DH->Prop}(ho:o.length<=500) (h:Q ((ws.filter fun m=>lB o x.2 x.1 m).map D.str) M) :
  cJ (bL 12) (lO (lg 3 dj (fj (eJ 1) (fj (eJ 8) (fj (zf (fj (eJ 12) (fj (dOp ixD (eJ 8) (dC (D.int 1))) rC))) rC))))) (eJ 12) (ws.map D.str) [none,some (.tup (o.map aC)),none,none,none,none,none,none,some (aq x),none,none,none,none] M [] Q:=by
 refine fX (fun d=>match d with|.str m=>lB o x.2 x.1 m|_=>false) (fun d=>d) (fun Δ=>∃z,Δ=[none,some (.tup (o.map aC)),none,none,none,none,none,none,some (aq x),none,none,none,z]) _ _ _ (fun d hd Δ hΔ=>?_) ⟨none,rfl⟩ ?_
 ·obtain⟨z,rfl⟩:=hΔ;obtain⟨m,_,rfl⟩:=List.mem_map.mp hd;refine⟨_,rfl,⟨_,rfl⟩,fun Q1 q=>?_,fun _ Q2 q=>?_⟩
  ·simp only[aq];walk_at "rd";refine⟨sz3 2,o,x,(m,x.2),rfl,ho,?_⟩;simpa using q
  ·walk_at "rd";exact q
 ·rw[List.nil_append,List.map_id',List.filter_map];exact h
theorem tm{o:List (Str×Str)}{x:Str×Int}{ws:List Str}{M:DH}{Q:List D->DH->Prop}(ho:o.length<=500) (h:Q ((ws.filter fun m=>lB o x.2 x.1 m).map D.str) M) :
  cJ (bL 12) (lO (lg 3 dj (fj (eJ 1) (fj (eJ 10) (fj (zf (fj (eJ 12) (fj (dOp ixD (eJ 10) (dC (D.int 1))) rC))) rC))))) (eJ 12) (ws.map D.str) [none,some (.tup (o.map aC)),none,none,none,none,none,none,none,none,some (aq x),none,none] M [] Q:=by
 refine fX (fun d=>match d with|.str m=>lB o x.2 x.1 m|_=>false) (fun d=>d) (fun Δ=>∃z,Δ=[none,some (.tup (o.map aC)),none,none,none,none,none,none,none,none,some (aq x),none,z]) _ _ _ (fun d hd Δ hΔ=>?_) ⟨none,rfl⟩ ?_
 ·obtain⟨z,rfl⟩:=hΔ;obtain⟨m,_,rfl⟩:=List.mem_map.mp hd;refine⟨_,rfl,⟨_,rfl⟩,fun Q1 q=>?_,fun _ Q2 q=>?_⟩
  ·simp only[aq];walk_at "rd";refine⟨sz3 2,o,x,(m,x.2),rfl,ho,?_⟩;simpa using q
  ·walk_at "rd";exact q
 ·rw[List.nil_append,List.map_id',List.filter_map];exact h
def RW(ws:List Str) (row:List (Str×Int)):Prop:=∀x∈row,x.1∈ws
def rb:SpD:=fun ds M R=>∃(p:Addr) (l:List D) (o:List (Str×Str)) (ws:List Str) (row:List (Str×Int)) (most:Int),ds=[.ref p,.tup (o.map aC),.lst (ws.map .str),.tup (row.map aq),.int most]/\M p=some (.lst l)/\bY l/\o.length<=500/\ws≠[]/\ws.length<=9/\RW ws row/\(row.length:Int)<=most/\2<=most/\most<=50 /\
 ∀(st:Stp) l',okD row st->RW ws (cj row st)->((cj row st).length:Int)<=most->bY l'->R (cx st) (aw M p (.lst l'))
theorem Ds{a:Prop} [Decidable a] {P Y:Prop}(h2:Y) (h1:a->Y->P):if a then P else Y:=by
 by_cases h:a
 ·rw[if_pos h];exact h1 h h2
 ·rw[if_neg h];exact h2
theorem z9{a c r:Prop} [Decidable a] [Decidable c] {O G P:Prop}(hc:c->r) (hO:r->O) (hG:¬ c->G) (hP:(r->O)->(if c then O else G)->P):if a then P else(if c then O else G):=by
 have hz:if c then O else G:=by
  by_cases h:c
  ·rw[if_pos h];exact hO (hc h)
  ·rw[if_neg h];exact hG h
 by_cases h:a
 ·rw[if_pos h];exact hP hO hz
 ·rw[if_neg h];exact hz
theorem vH(F:Fun K "_law_step" "_law_step" fF f fd) (T:Txt mg) (G0:FnD P w K mg base "_law_take" 1 2 fI) (G1:FnD P w K mg base "_law_cancels" 3 3 dE) (G3:FnD P w K mg base "_law_leads" 2 3 dj):bj P w K mg base CX0 4 f fd ["_law_pack_here","_law_order_here","_law_marks_here","_law_row_here","_law_most"] (spD K 5 rb):=by
 have nd:=oi.nd;refine F.okR rfl oi (fun cdv A outer s H E hr=>⟨_,(ai (aO (i:=5) nd rfl (Or.inl rfl) (qd G0 hr (ae (af 0) (ae ak ah))))
   (ai (g6 (i:=6) nd rfl rfl rfl (ms:=[false,true,false,true,false,false,false,false,false,false,false,false]) (am:=["_law_k"]) (aJ rfl (show aR (ao fF) eO _ _=true from by decide +kernel)) rfl (cz rfl T.b_range (ae (aP fk (ax a7 rfl T.b_len (by kernel_rfl) (ae (af 3) ah)) ak) ah)) (aD (i:=12) (show(eO++_).Nodup from by decide +kernel) rfl rfl) (fun _ _ _ _=>(cI (bt (qd G1 hr (ae (af 1) (ae (aH aI (af 3) (af 12) (fun _ _=>rfl)) (ae (aH aI (af 3) (aP aM (af 12) ak) (fun _ _=>rfl)) ah))))))) (fun _ _ _ _=>(af 12)))
   (ai (bh (fZ (eK (aF nh (af 5) ak nbh) (eV (aF (gu hr.units) (af 6) (iu ah) nbh)))) (bf (au (aS (aU (ae aW (ae (aH aI (af 6) (qd G0 hr (ae (af 0) (ae (ax a7 rfl T.b_len (by kernel_rfl) (ae (af 6) ah)) ah))) (fun _ _=>rfl)) ah)))))) aV)
   (bf (ai (bh (fZ (fw (fZ (eK (aF (ft hr.units) (af 5) ak nbh) (eV (aF (gu hr.units) (af 3) (aU ah) nbh)))) (eF (aF u5 (aP aM (ax a7 rfl T.b_len (by kernel_rfl) (ae (af 3) ah)) ak) (af 4) nbh)))) (bf (ai (aO (i:=7) nd rfl (Or.inl rfl) (qd G0 hr (ae (af 0) (ae (ax (EV rfl) rfl T.b_max (by kernel_rfl) (ae ak (ae (ax a7 rfl T.b_len (by kernel_rfl) (ae (af 3) ah)) ah))) ah))))
   (ai (aO (i:=8) nd rfl (Or.inr rfl) (aH aI (af 3) (af 7) (fun _ _=>rfl)))
   (ai (g6 (i:=9) nd rfl rfl rfl (ms:=[false,true,false,false,false,false,false,false,true,false,false,false]) (am:=["_law_mark"]) (aJ rfl (show aR (ao fF) eO _ _=true from by decide +kernel)) rfl (bp (af 2)) (aD (i:=12) (show(eO++_).Nodup from by decide +kernel) rfl rfl) (fun _ _ _ _=>(cI (bt (qd G3 hr (ae (af 1) (ae (af 8) (ae (aU (ae (af 12) (ae (aH aI (af 8) ak (fun _ _=>rfl)) ah))) ah))))))) (fun _ _ _ _=>(af 12)))
   (au (aS (aU (ae aW (ae (af 7) (ae (aH aI (af 9) (qd G0 hr (ae (af 0) (ae (ax a7 rfl T.b_len (by kernel_rfl) (ae (af 9) ah)) ah))) (fun _ _=>rfl)) ah)))))))))) aV)
   (bf (ai (aO (i:=10) nd rfl (Or.inr rfl) (aU (ae (aH aI (af 2) (qd G0 hr (ae (af 0) (ae (ax a7 rfl T.b_len (by kernel_rfl) (ae (af 2) ah)) ah))) (fun _ _=>rfl)) (ae (aP fk (qd G0 hr (ae (af 0) (ae ak ah))) ak) ah))))
   (ai (g6 (i:=9) nd rfl rfl rfl (ms:=[false,true,false,false,false,false,false,false,false,false,true,false]) (am:=["_law_mark"]) (aJ rfl (show aR (ao fF) eO _ _=true from by decide +kernel)) rfl (bp (af 2)) (aD (i:=12) (show(eO++_).Nodup from by decide +kernel) rfl rfl) (fun _ _ _ _=>(cI (bt (qd G3 hr (ae (af 1) (ae (af 10) (ae (aU (ae (af 12) (ae (aH aI (af 10) ak (fun _ _=>rfl)) ah))) ah))))))) (fun _ _ _ _=>(af 12)))
   (ai (aO (i:=11) nd rfl (Or.inl rfl) (aU (ae (aH aI (af 9) (qd G0 hr (ae (af 0) (ae (ax a7 rfl T.b_len (by kernel_rfl) (ae (af 9) ah)) ah))) (fun _ _=>rfl)) (ae (aH aI (af 10) ak (fun _ _=>rfl)) ah))))
   (au (aS (aU (ae aW (ae (qd G0 hr (ae (af 0) (ae (aP aM (ax a7 rfl T.b_len (by kernel_rfl) (ae (af 3) ah)) ak) ah))) (ae (aU (ae (aH aI (af 10) ak (fun _ _=>rfl)) (ae (aP aM (aH aI (af 10) ak (fun _ _=>rfl)) ak) ah))) (ae (af 11) ah)))))))))))))))),fun ds M R _ hS bk=>?_⟩)
 obtain⟨p,l,o,ws,row,most,rfl,hM,hP,ho,hw,hwl,hrow,bG,m0,m1,k⟩:=hS;refine bk ?_;clear bk;walk_at "rd";refine⟨p,l,5,rfl,hM,hP,by lia,by lia,fun v l1 a0 a1 hP1=>?_⟩;walk_at "rd";have hwp:=List.length_pos_iff.mpr hw;have hlm:((row.map aq).length:Int)=row.length:=by rw[List.length_map]
 refine⟨by lia,by lia,by rw[bS];exact sz3 _ (by lia),?_⟩;refine mO (fun i acc Δ M'=>∃(z:Option D) (ns:List Int),Δ=[none,some (.tup (o.map aC)),none,some (.tup (row.map aq)),none,none,none,none,none,none,none,none,z]/\M'=aw M p (.lst l1)/\acc=ns.map D.int/\ns.length<=i/\∀n∈ns,∃m:Nat,n=(m:Int)/\okD row (.can m)) ⟨none,[],rfl,rfl,rfl,Nat.le_refl _,fun n hn=>absurd hn (by simp)⟩ ?_ ?_
 ·rintro i d acc Δ M' X hd ⟨z,ns,rfl,rfl,rfl,hnl,hns⟩ k';obtain⟨hi,rfl⟩:=cv hd;rw[hlm]at hi;have h0:row[i]?=some row[i]:=by simp[show i<row.length by lia]
  have h1:row[i+1]?=some row[i+1]:=by simp[show i+1<row.length by lia]
  generalize row[i]'(by lia)=x at h0;generalize row[i+1]'(by lia)=y at h1;have hy':atI (row.map aq) (0+(i:Int)+1)=some (aq y):=by rw[show(0:Int)+(i:Int)+1=((i+1:Nat):Int)by lia];exact fM h1
  have hx':atI (row.map aq) (0+(i:Int))=some (aq x):=by rw[show(0:Int)+(i:Int)=(i:Int)by lia];exact fM h0
  refine⟨_,rfl,?_⟩;walk_at "rd";refine⟨_,hx',_,hy',?_⟩;refine⟨o,x,y,rfl,ho,?_⟩;walk_at "rd";refine cE (fun h=>?_) (fun h=>?_)
  ·refine k' _ _ _ ⟨_,ns++[(0+(i:Int))],rfl,rfl,by simp,by simp;lia,fun n hn=>?_⟩;rcases List.mem_append.mp hn with h'|h'
   ·exact hns n h'
   ·have:n=0+(i:Int):=by simpa using h'
    exact⟨i,by lia,show i+1<row.length by lia⟩
  ·exact k' _ _ _ ⟨_,ns,rfl,rfl,rfl,by lia,hns⟩
 ·rintro acc Δ M' ⟨z,ns,rfl,rfl,rfl,hnl,hns⟩;rw[bS,hlm]at hnl;refine Ds (ay ?_) (fun h1 hY=>⟨sz3 0,_,CA,_,rfl,cE (fun hn=>ay ?_) (fun _=>hY)⟩)
  ·walk_at "rd";refine z9 (r:=row≠[]) (fun h4=>?_) (fun hne=>ay ?_) (fun h4=>ay ?_) (fun hO hZ=>⟨sz3 0,_,neR (r2:=[]),_,rfl,cE (fun h3=>hO (by simpa using h3)) (fun _=>hZ)⟩)
   ·rintro rfl;simp at h4;lia
   ·walk_at "rd";have hrp:=List.length_pos_iff.mpr hne;have emax:(if((row.map aq).length:Int) > 1 then((row.map aq).length:Int)else 1)=(row.length:Int):=by rw[List.length_map];split<;>lia
    rw[emax];refine⟨p,l1,_,rfl,aj,hP1,by lia,by lia,fun v2 l2 b0 b1 hP2=>?_⟩;obtain⟨n,rfl⟩:=Int.eq_ofNat_of_zero_le b0;have hn:n<row.length:=by lia
    have hx:row[n]?=some row[n]:=by simp[hn]
    have hxw:row[n].1∈ws:=hrow _ (List.getElem_mem hn);refine⟨_,fM hx,fun _=>⟨by rw[List.length_map];exact sz3 _ (by lia),vE (x:=row[n]) ho ?_⟩⟩;have hmem:row[n].1∈ws.filter fun m=>lB o row[n].2 row[n].1 m:=List.mem_filter.mpr ⟨hxw,tF⟩;have hfp:=List.length_pos_iff.mpr (List.ne_nil_of_mem hmem);have hfl:=List.length_filter_le (fun m=>lB o row[n].2 row[n].1 m) ws;rw[List.length_map];refine⟨p,l2,_,rfl,aj,hP2,by lia,by lia,fun v3 l3 c0 c1 hP3=>?_⟩;obtain⟨m,hm,em⟩:=dB c0 c1;obtain⟨hm1,hm2⟩:=List.mem_filter.mp hm;refine⟨_,em,sz3 3,?_⟩;rw[aE,aE];refine k (.ord n m) l3 hn (fun y hy=>?_) ?_ hP3
    ·simp only[cj,List.mem_append,List.mem_singleton]at hy;rcases hy with(h|h)|h
     ·exact hrow y (List.mem_of_mem_take h)
     ·rw[h];exact hm1
     ·exact hrow y (List.mem_of_mem_drop h)
    ·simp only[cj,List.length_append,List.length_take,List.length_drop,List.length_cons,List.length_nil]
     lia
   ·walk_at "rd";have h4':(row.length:Int)+2<=most:=by rw[List.length_map]at h4;lia
    rw[List.length_map,List.length_map];refine⟨p,l1,_,rfl,aj,hP1,by lia,by lia,fun v2 l2 b0 b1 hP2=>?_⟩;obtain⟨m1',hm1,em1⟩:=dB b0 b1;refine⟨_,em1,?_⟩;refine⟨p,l2,_,rfl,aj,hP2,by lia,by lia,fun v3 l3 c0 c1 hP3=>?_⟩;refine⟨_,rfl,sz3 2,fun _=>⟨sz3 _ (by lia),tm (x:=(m1',v3-2)) ho ?_⟩⟩;have hmem:m1'∈ws.filter fun m=>lB o ((m1',v3-2):Str×Int).2 ((m1',v3-2):Str×Int).1 m:=List.mem_filter.mpr ⟨hm1,tF⟩;have hfp:=List.length_pos_iff.mpr (List.ne_nil_of_mem hmem);have hfl:=List.length_filter_le (fun m=>lB o ((m1',v3-2):Str×Int).2 ((m1',v3-2):Str×Int).1 m) ws;rw[List.length_map];refine⟨p,l3,_,rfl,aj,hP3,by lia,by lia,fun v4 l4 d0 d1 hP4=>?_⟩;obtain⟨m,hm,em⟩:=dB d0 d1;obtain⟨hm2,hm3⟩:=List.mem_filter.mp hm;refine⟨_,em,sz3 2,?_⟩;refine⟨p,l4,_,rfl,aj,hP4,by lia,by lia,fun v5 l5 e0 e1 hP5=>?_⟩;obtain⟨n,rfl⟩:=Int.eq_ofNat_of_zero_le e0;refine⟨_,rfl,sz3 2,sz3 4,?_⟩;rw[aE,aE,aE,aE];refine k (.gro n (m1',v3-2+1) (m,v3-2)) l5 (show n<=row.length by lia) (fun y hy=>?_) ?_ hP5
    ·simp only[cj,List.mem_append,List.mem_cons,List.not_mem_nil,or_false]at hy;rcases hy with(h|h|h)|h
     ·exact hrow y (List.mem_of_mem_take h)
     ·rw[h];exact hm1
     ·rw[h];exact hm2
     ·exact hrow y (List.mem_of_mem_drop h)
    ·simp only[cj,List.length_append,List.length_take,List.length_drop,List.length_cons,List.length_nil]
     lia
  ·walk_at "rd";have hnsp:=List.length_pos_iff.mpr (show ns≠[]by simpa using hn);rw[List.length_map];refine⟨p,l1,_,rfl,aj,hP1,by lia,by lia,fun v2 l2 b0 b1 hP2=>?_⟩;obtain⟨j,rfl⟩:=Int.eq_ofNat_of_zero_le b0;have hj:j<ns.length:=by lia
   obtain⟨n,en,hok⟩:=hns _ (List.getElem_mem hj);refine⟨.int n,du (by rw[List.getElem?_map,List.getElem?_eq_getElem hj,en];rfl),sz3 2,?_⟩;rw[aE];refine k (.can n) l2 hok (fun y hy=>?_) ?_ hP2
   ·simp only[cj,List.mem_append]at hy;rcases hy with h|h
    ·exact hrow y (List.mem_of_mem_take h)
    ·exact hrow y (List.mem_of_mem_drop h)
   ·simp only[cj,List.length_append,List.length_take,List.length_drop]
    lia
def qK:SpD:=fun ds M R=>∃(p:Addr) (l:List D) (o:List (Str×Str)) (ws:List Str) (row:List (Str×Int)) (n most:Int),ds=[.ref p,.tup (o.map aC),.lst (ws.map .str),.tup (row.map aq),.int n,.int most]/\M p=some (.lst l)/\bY l/\o.length<=500/\ws≠[]/\ws.length<=9/\RW ws row/\(row.length:Int)<=most/\2<=most/\most<=50/\0<=n/\n<=100 /\
 ∀(w:D) (row':List (Str×Int)) l',RW ws row'->(row'.length:Int)<=most->bY l'->R (.tup [w,.tup (row'.map aq)]) (aw M p (.lst l'))
theorem vg(F:Fun K "_law_walk" "_law_walk" mm f fd) (T:Txt mg) (gb6:FnD P w K mg base "_law_step" 4 5 rb) (Y3:FnD P w K mg base "_law_done" 1 2 lE):bj P w K mg base CX0 5 f fd ["_law_pack_here","_law_order_here","_law_marks_here","_law_row_here","_law_steps","_law_most"] (spD K 6 qK):=by
 have nd:=nu.nd;refine F.okR rfl nu (fun cdv A outer s H E hr=>⟨_,(ai (aO (i:=6) nd rfl (Or.inl rfl) (dM ah))
   (ai (cP PassesOwn.never rfl (cz rfl T.b_range (ae (af 4) ah)) (bg (i:=7) nd rfl (Or.inl rfl)) (ai (aO (i:=8) nd rfl (Or.inl rfl) (qd gb6 hr (ae (af 0) (ae (af 1) (ae (af 2) (ae (af 3) (ae (af 5) ah)))))))
   (ai (dH (ix (af 6) (af 8)))
   (au (aO (i:=3) nd rfl (Or.inl rfl) (qd Y3 hr (ae (af 3) (ae (af 8) ah))))))))
   (au (bT (aU (ae (bR dq rfl T.b_tuple (by kernel_rfl) (ae (af 6) ah)) (ae (af 3) ah))))))),fun ds M R _ hS bk=>?_⟩)
 obtain⟨p,l,o,ws,row,n,most,rfl,hM,hP,ho,hw,hwl,hrow,bG,m0,m1,n0,n1,k⟩:=hS;refine bk ?_;clear bk;walk_at "rd";refine⟨sz3 0,fun q hq=>⟨by lia,by lia,?_⟩⟩;have hpq:p≠q:=by rintro rfl;rw[hM]at hq;cases hq
 refine aZ (fun i Δ M'=>∃(x7 x8:Option D) (l2:List D) (sts:List Stp) (r:List (Str×Int)),Δ=[some (D.ref p),some (D.tup (o.map aC)),some (D.lst (ws.map D.str)),some (D.tup (r.map aq)),some (D.int n),some (D.int most),some (D.ref q),x7,x8]/\M'=aw (aw M p (.lst l2)) q (.lst (sts.map cx))/\bY l2/\sts.length=i/\RW ws r/\(r.length:Int)<=most)
  ⟨_,_,l,[],row,rfl,?_,hP,rfl,hrow,bG⟩ ?_ ?_
 ·funext a
  by_cases ha:a=q
  ·subst ha;rw[aj,aj];rfl
  ·rw[av ha,av ha]
   by_cases hb:a=p
   ·subst hb;rw[aj];exact hM
   ·rw[av hb]
 ·rintro i d Δ M' X hd ⟨x7,x8,l2,sts,r,rfl,rfl,hP2,hsl,hmem,hle⟩ k';have hi:i<100:=by have:=(cv hd).1;lia
  simp only[bL];walk_at "rd";refine⟨p,l2,o,ws,r,most,rfl,by rw[av hpq,aj],hP2,ho,hw,hwl,hmem,hle,m0,m1,fun st l3 g1 g2 g3 hP3=>?_⟩;have em:aw (aw (aw M p (.lst l2)) q (.lst (sts.map cx))) p (.lst l3)=aw (aw M p (.lst l3)) q (.lst (sts.map cx)):=by
   rw[<-dg hpq,aE]
  rw[em];refine⟨_,aj,_,aj,by rw[List.length_map];exact Nat.lt_of_lt_of_le (by lia:sts.length<1000) (sz3 1000),?_⟩;rw[aE];refine⟨r,st,rfl,g1,by lia,?_⟩;exact k' _ _ ⟨_,_,l3,sts++[st],cj r st,rfl,by simp,hP3,by simp;lia,g2,g3⟩
 ·rintro Δ M' ⟨x7,x8,l2,sts,r,rfl,rfl,hP2,hsl,hmem,hle⟩;walk_at "rd";exact⟨sz3 2,_,dQ (by rw[av (Ne.symm hpq)];exact hq),k _ r l2 hmem hle hP2⟩
theorem Cc{α:Type}{xs:List α}{f:α->Bool}:wI (.lst (xs.map fun x=>D.bl (f x)))=some (.bl (xs.all f)):=by
 have h1:(xs.map fun x=>D.bl (f x)).all z7=true:=by rw[List.all_map,List.all_eq_true];intro _ _;rfl
 simp only[wI,h1,if_true,List.all_map];rfl
theorem mB{α:Type}(l:List α):wI (.lst (l.map fun _=>D.bl true))=some (.bl true):=by
 rw[Cc (f:=fun _=>true)];simp
theorem vk{sts:List Stp}{i:Nat}{st:Stp}(h:sts[i]?=some st):sts.drop i=st::sts.drop (i+1):=by
 obtain⟨hi,e⟩:=List.getElem?_eq_some_iff.mp h;rw[List.drop_eq_getElem_cons hi,e]
def uC:SpD:=fun ds M R=>∃(o:List (Str×Str)) (row:List (Str×Int)) (st:Stp),ds=[.tup (o.map aC),.tup (row.map aq),cx st]/\o.length<=500/\row.length<=500/\okW o row st/\R (.bl true) M
theorem wb(F:Fun K "_law_can" "_law_can" oZ f fd) (T:Txt mg) (G3:FnD P w K mg base "_law_leads" 2 3 dj) (gb1:FnD P w K mg base "_law_grows" 3 3 nM) (G1:FnD P w K mg base "_law_cancels" 3 3 dE):bj P w K mg base CX0 4 f fd ["_law_order_here","_law_row_here","_law_step_here"] (spD K 3 uC):=by
 have nd:=qV.nd;refine F.okR rfl qV (fun cdv A outer s H E hr=>⟨_,(ai (aO (i:=3) nd rfl (Or.inl rfl) (aH aI (af 2) ak (fun _ _=>rfl)))
   (ai (bh (aF (ft hr.units) (aH aI (af 2) ak (fun _ _=>rfl)) aW nbh) (bf (au (aS (lW (tS oC nh ak (af 3) (aP fk (ax a7 rfl T.b_len (by kernel_rfl) (ae (af 1) ah)) ak)) (oy (qd G1 hr (ae (af 0) (ae (aH aI (af 1) (af 3) (fun _ _=>rfl)) (ae (aH aI (af 1) (aP aM (af 3) ak) (fun _ _=>rfl)) ah))))))))) aV)
   (bf (ai (bh (aF (ft hr.units) (aH aI (af 2) ak (fun _ _=>rfl)) aW nbh) (bf (ai (bh (cU (p7 oC nh ak (af 3) (ax a7 rfl T.b_len (by kernel_rfl) (ae (af 1) ah)))) (au (aS gw)) aV)
   (au (aS (qd G3 hr (ae (af 0) (ae (aH aI (af 1) (af 3) (fun _ _=>rfl)) (ae (aU (ae (aH aI (af 2) ak (fun _ _=>rfl)) (ae (aH aI (aH aI (af 1) (af 3) (fun _ _=>rfl)) ak (fun _ _=>rfl)) ah))) ah)))))))) aV)
   (bf (au (aS (lW (tS oC oC ak (af 3) (ax a7 rfl T.b_len (by kernel_rfl) (ae (af 1) ah))) (oy (qd gb1 hr (ae (af 0) (ae (aH aI (af 2) ak (fun _ _=>rfl)) (ae (aH aI (af 2) ak (fun _ _=>rfl)) ah))))))))))))),fun ds M R _ hS bk=>?_⟩)
 obtain⟨o,row,st,rfl,ho,hl,hok,k⟩:=hS;refine bk ?_;clear bk;cases st with
 |can i =>
  obtain⟨x,y,hx,hy,hc⟩:=hok;have h1:i+1<row.length:=(List.getElem?_eq_some_iff.mp hy).1;have hy':atI (row.map aq) ((i:Int)+1)=some (aq y):=by rw[show(i:Int)+1=((i+1:Nat):Int)by lia];exact fM hy
  simp only[cx];walk_at "rd";rw[if_pos Dq];refine ay ?_;walk_at "rd";rw[if_pos (by lia),if_pos (by rw[List.length_map];lia)];refine⟨_,fM hx,_,hy',o,x,y,rfl,ho,?_⟩;rw[show(x.2+1==y.2&&lB o x.2 x.1 y.1)=true from hc];exact k
 |ord i m =>
  obtain⟨x,hx,hc⟩:=hok;have h1:i<row.length:=(List.getElem?_eq_some_iff.mp hx).1;simp only[cx];walk_at "rd";rw[if_neg Ez];refine ay ?_;walk_at "rd";rw[if_pos EX];refine ay ?_;walk_at "rd";rw[if_pos (by lia),if_neg (by rw[List.length_map];simp;lia)];refine⟨_,fM hx,_,fM hx,.int x.2,rfl,sz3 2,o,x,(m,x.2),rfl,ho,?_⟩;simp only[beq_self_eq_true,Bool.true_and,hc];exact k
 |gro i x y =>
  obtain⟨hi,h2,hc⟩:=hok;simp only[cx,aq];walk_at "rd";rw[if_neg Dn];refine ay ?_;walk_at "rd";rw[if_neg EW];refine ay ?_;walk_at "rd";rw[if_pos (by lia),if_pos (by rw[List.length_map];lia)];exact⟨_,rfl,o,x,y,rfl,ho,h2,hc,k⟩
def wrd:Stp->Str
 |.can _=>Str.ofString "cancel"
 |.ord _ _=>Str.ofString "order"
 |.gro _ _ _=>Str.ofString "grow"
theorem rR{M:DH}{st:Stp}:ixD (rdM M (cx st)) (D.int 0)=some (.str (wrd st)):=by cases st<;>rfl
theorem yR{st:Stp}:([D.str (Str.ofString "cancel"),D.str (Str.ofString "order"),D.str (Str.ofString "grow")].any fun d=>eqD d (.str (wrd st)))=true:=by cases st<;>simp only[wrd]<;>decide +kernel
theorem ui{st:Stp}:qC [D.str (Str.ofString "cancel"),D.str (Str.ofString "order"),D.str (Str.ofString "grow")] (.str (wrd st))=some (rk st):=by cases st<;>simp only[wrd,rk]<;>decide +kernel
theorem yO{M:DH}{st:Stp}:rP (rdM M (cx st))=some (.int ((rk st:Int)+2)):=by cases st<;>rfl
theorem yT{st:Stp}:atI [D.int 2,D.int 3,D.int 4] (rk st:Int)=some (.int ((rk st:Int)+2)):=by cases st<;>rfl
theorem Bp{M:DH}{st:Stp}:∃n:Int,ixD (rdM M (cx st)) (D.int 1)=some (.int n):=by cases st<;>exact⟨_,rfl⟩
theorem Ap{ns:List Int}:neF (.lst (ns.map D.int)) (.lst (ns.map D.int))=some (.bl false):=by
 have h1:cK (ns.map D.int) 59=true:=by
  rw[fD];intro d hd;obtain⟨x,_,rfl⟩:=List.mem_map.mp hd;rfl
 have h2:dLe (.lst (ns.map D.int)) 60=true:=h1;have h3:cw (ns.map D.int) (ns.map D.int)=true:=by
  clear h1 h2
  induction ns with
  |nil=>rfl
  |cons n ns ih=>rw[List.map_cons,cw,ih];simp[eqD]
 simp only[neF,h2,and_self,if_true,eqD,h3];rfl
def mL:SpD:=fun ds M R=>∃(o:List (Str×Str)) (one other:List (Str×Int)) (sts:List Stp),ds=[.tup (o.map aC),.tup (one.map aq),.tup (sts.map cx),.tup (other.map aq)]/\o.length<=500/\one.length<=24/\SWk o one other sts/\R (.bl true) M
theorem qN(F:Fun K "_law_sorted" "_law_sorted" eP f fd) (T:Txt mg) (Y3:FnD P w K mg base "_law_done" 1 2 lE) (G4:FnD P w K mg base "_law_can" 4 3 uC):bj P w K mg base CX0 5 f fd ["_law_order_here","_law_row_here","_law_walk_here","_law_end"] (spD K 4 mL):=by
 have nd:=j6.nd;refine F.okR rfl j6 (fun cdv A outer s H E hr=>⟨_,(ai (bh (fZ (fw (cU (bt (jf (Tn:="tuple") (by decide) rfl T.b_isinstance rfl T.b_tuple (by kernel_rfl) (af 2)))) (eF (cU (bt (ax (qq rfl) rfl T.b_all (by kernel_rfl) (ae (gK (ms:=[false,false,false,false,false,false,false]) (am:=[]) (aJ rfl (show aR (ao eP) eE _ _=true from by decide +kernel)) rfl (bp (af 2)) (aD (i:=4) (show(eE++_).Nodup from by decide +kernel) rfl rfl) (fun _ _ _ _=>dY) (fun _ _ _ _=>(jf (Tn:="tuple") (by decide) rfl T.b_isinstance rfl T.b_tuple (by kernel_rfl) (af 4)))) ah))))))) (au (aS gw)) aV)
   (bf (ai (aO (i:=5) nd rfl (Or.inr rfl) (iu (ae aW (ae aW (ae aW ah)))))
   (bf (ai (g6 (i:=6) nd rfl rfl rfl (ms:=[false,false,false,false,false,true,false]) (am:=[]) (aJ rfl (show aR (ao eP) eE _ _=true from by decide +kernel)) rfl (bp (af 2)) (aD (i:=4) (show(eE++_).Nodup from by decide +kernel) rfl rfl) (fun _ _ _ _=>(cI (aF my (aH aI (af 4) ak (fun _ _=>rfl)) (af 5) rfl))) (fun _ _ _ _=>(rH hr.units (af 5) (aH aI (af 4) ak (fun _ _=>rfl)))))
   (bf (ai (bh (fZ (fw (aF (gu hr.units) (ax a7 rfl T.b_len (by kernel_rfl) (ae (af 6) ah)) (ax a7 rfl T.b_len (by kernel_rfl) (ae (af 2) ah)) nbh) (eF (aF (gu hr.units) (af 6) (ax kS rfl T.b_sorted (by kernel_rfl) (ae (af 6) ah)) nbh)))) (au (aS gw)) aV)
   (bf (ai (cP PassesOwn.never rfl (bp (af 2)) (bg (i:=4) nd rfl (Or.inl rfl)) (ai (bh (fZ (fw (aF (gu hr.units) (ax a7 rfl T.b_len (by kernel_rfl) (ae (af 4) ah)) (aH aI (iu (ae ak (ae ak (ae ak ah)))) (rH hr.units (af 5) (aH aI (af 4) ak (fun _ _=>rfl))) (fun _ _=>rfl)) nbh) (fw (bt (jf (Tn:="bool") (by decide) rfl T.b_isinstance rfl T.b_bool (by kernel_rfl) (aH aI (af 4) ak (fun _ _=>rfl)))) (eF (cU (bt (jf (Tn:="int") (by decide) rfl T.b_isinstance rfl T.b_int (by kernel_rfl) (aH aI (af 4) ak (fun _ _=>rfl))))))))) (au (aS gw)) aV)
   (ai (bh (cU (bt (qd G4 hr (ae (af 0) (ae (af 1) (ae (af 4) ah)))))) (au (aS gw)) aV)
   (au (aO (i:=1) nd rfl (Or.inl rfl) (qd Y3 hr (ae (af 1) (ae (af 4) ah))))))))
   (bf (au (aS (gh (ft hr.units) (af 1) (af 3) nbh))))))))))))),fun ds M R _ hS bk=>?_⟩)
 obtain⟨o,one,other,sts,rfl,ho,h1,hw,k⟩:=hS;have hsl:=hw.2.2;refine bk ?_;clear bk;walk_at "rd";refine⟨true,rfl,?_⟩;rw[if_neg (by decide)];refine fun hz=>⟨hz,aQ cx (fun _=>true) (fun _=>D.bl true) (fun Δ=>∃x,Δ=[none,none,none,none,x,none,none]) sts _ _ (fun st hst Δ hΔ=>?_) ⟨none,rfl⟩ ?_⟩
 ·obtain⟨x,rfl⟩:=hΔ;refine⟨_,rfl,⟨_,rfl⟩,fun Q1 q=>q,fun _ Q2 q=>?_⟩;walk_at "rd";exact⟨true,by cases st<;>rfl,q⟩
 ·rw[List.nil_append,List.filter_eq_self.mpr (fun _ _=>rfl)];refine⟨_,mB _,_,rfl,?_⟩;rw[if_neg (by decide)];refine ay ?_;walk_at "rd";refine⟨sz3 3,ay ?_⟩;walk_at "rd";refine fun hz2=>⟨hz2,aQ cx (fun _=>true) (fun st=>D.int (rk st:Int)) (fun Δ=>∃x,Δ=[none,none,none,none,x,some (D.lst [D.str (Str.ofString "cancel"),D.str (Str.ofString "order"),D.str (Str.ofString "grow")]),none]) sts _ _ (fun st hst Δ hΔ=>?_) ⟨none,rfl⟩ ?_⟩
  ·obtain⟨x,rfl⟩:=hΔ;refine⟨_,rfl,⟨_,rfl⟩,fun Q1 q=>?_,fun _ Q2 q=>?_⟩
   ·walk_at "rd";refine⟨_,rR,_,if_pos ⟨rfl,rfl⟩,_,rfl,?_⟩;show Q1 (false ^^ ([D.str (Str.ofString "cancel"),D.str (Str.ofString "order"),D.str (Str.ofString "grow")].any fun d=>eqD d (.str (wrd st)))) M;rw[yR];exact q
   ·walk_at "rd";exact⟨⟨_,rfl⟩,_,rR,_,ui,q⟩
  ·rw[List.nil_append,List.filter_eq_self.mpr (fun _ _=>rfl)];refine ay ?_;walk_at "rd";rw[if_neg (by rw[List.length_map,List.length_map];simp)];have eI:sts.map (fun st=>D.int (rk st:Int))=(sts.map fun st=>(rk st:Int)).map D.int:=by rw[List.map_map];rfl
   have hI:(sts.map fun st=>(rk st:Int))=iW (sts.map fun st=>(rk st:Int)):=qL (.refl _) (by
    have:=hw.2.1;rw[List.pairwise_map]at this ⊢;exact this.imp fun z=>by lia)
   rw[eI];refine⟨_,Af (by rw[List.length_map];lia),?_⟩;rw[<-hI];refine⟨_,Ap,_,rfl,?_⟩;rw[if_neg (by decide)];refine ay ?_;walk_at "rd";intro hz3;refine aZ (fun i Δ M'=>M'=M/\∃(x4:Option D) (row:List Sg),Δ=[some (D.tup (o.map aC)),some (D.tup (row.map aq)),some (D.tup (sts.map cx)),some (D.tup (other.map aq)),x4,some (D.lst [D.str (Str.ofString "cancel"),D.str (Str.ofString "order"),D.str (Str.ofString "grow")]),some (D.lst ((sts.map fun st=>(rk st:Int)).map D.int))]/\Wk o row (sts.drop i) other/\row.length<=24+2*i) ⟨rfl,_,one,rfl,hw.1,h1⟩ ?_ ?_
   ·rintro i d Δ M' X hd ⟨rfl,x4,row,rfl,hW,hrl⟩ k';obtain⟨st,hst,rfl⟩:=eW hd;have hil:i<sts.length:=(List.getElem?_eq_some_iff.mp hst).1;rw[vk hst]at hW;have hdl:=Dj (row:=row) (st:=st);refine⟨_,rfl,?_⟩;walk_at "rd";obtain⟨n,hn⟩:=Bp (M:=M') (st:=st);refine⟨_,yO,sz3 3,⟨_,rfl⟩,_,rR,_,ui,_,yT,_,pz,_,rfl,?_⟩;rw[if_neg (by simp)];refine⟨_,hn,false,rfl,?_⟩;rw[if_neg (by decide)];refine⟨_,hn,true,rfl,?_⟩;rw[if_neg (by decide)];refine⟨o,row,st,rfl,ho,by lia,hW.1,_,rfl,?_⟩;rw[if_neg (by decide)];exact⟨row,st,rfl,Ck hW.1,by lia,k' _ _ ⟨rfl,_,_,rfl,hW.2,by lia⟩⟩
   ·rintro Δ M' ⟨rfl,x4,row,rfl,hW,hrl⟩;rw[List.length_map,List.drop_length]at hW;have hW:row=other:=hW;subst hW;refine ay ?_;walk_at "rd";refine⟨_,eqR,?_⟩;rw[decide_eq_true rfl];exact k
theorem Fq{R:Sg->Sg->Bool}{row:List Sg}{b e:Nat}(h:b<e) (he:e<=row.length):0<W R (seg row b e)↔∃k,b+1<=k/\k<e/\R (sg row b) (sg row k)=true/\0<W R (seg row (b+1) k)/\0<W R (seg row (k+1) e):=by
 rw[jl h he,fQ,iF (("",0):Sg),List.map_map];have hl:(seg row (b+1) e).length=e-(b+1):=dS he;constructor
 ·intro hp;have:∃k∈List.range (seg row (b+1) e).length,(if R (sg row b) ((seg row (b+1) e).getD k ("",0))=true then W R ((seg row (b+1) e).take k)*W R ((seg row (b+1) e).drop (k+1))else 0)≠0:=by
   by_cases z:∃k∈List.range (seg row (b+1) e).length,(if R (sg row b) ((seg row (b+1) e).getD k ("",0))=true then W R ((seg row (b+1) e).take k)*W R ((seg row (b+1) e).drop (k+1))else 0)≠0
   ·exact z
   ·rw[iQ fun k hk=>by
     by_cases y:(if R (sg row b) ((seg row (b+1) e).getD k ("",0))=true then W R ((seg row (b+1) e).take k)*W R ((seg row (b+1) e).drop (k+1))else 0)=0
     ·exact y
     ·exact absurd ⟨k,hk,y⟩ z]at hp
    lia
  obtain⟨k,hk,hne⟩:=this;rw[List.mem_range,hl]at hk;rw[rN (by lia),jt (by lia),ji]at hne
  split at hne
  ·rename_i hc;refine⟨b+1+k,by lia,by lia,hc,Nat.pos_of_ne_zero fun z=>hne (by rw[z,Nat.zero_mul]),Nat.pos_of_ne_zero fun z=>hne (by rw[show b+1+(k+1)=b+1+k+1 by lia,z,Nat.mul_zero])⟩
  ·exact absurd rfl hne
 ·rintro⟨k,h1,h2,hc,p1,p2⟩;have hm:k-(b+1)∈List.range (seg row (b+1) e).length:=List.mem_range.mpr (by lia);refine Nat.lt_of_lt_of_le (Nat.mul_pos p1 p2) ?_;have:=yq (f:=(fun c:List Sg×Sg×List Sg=>if R (sg row b) c.2.1=true then W R c.1*W R c.2.2 else 0)∘fun k=>((seg row (b+1) e).take k,(seg row (b+1) e).getD k ("",0),(seg row (b+1) e).drop (k+1))) hm;simp only[Function.comp]at this;rw[rN (by lia),jt (by lia),ji,show b+1+(k-(b+1))=k by lia,show b+1+(k-(b+1)+1)=k+1 by lia,if_pos hc]at this;exact this
def tb2(R:Sg->Sg->Bool) (row:List Sg) (L j b e:Nat):Option D:=if b<=e/\e<=row.length/\(e-b<L∨(e-b=L/\b<j))then some (.bl (decide (0<W R (seg row b e))))else none
def Tb2(R:Sg->Sg->Bool) (row:List Sg) (L j:Nat) (kvs:List (List Key×D)):Prop:=∀b e:Nat,cn kvs [.inl (b:Int),.inl (e:Int)]=tb2 R row L j b e
def nY:SpD:=fun ds M Q=>∃(ord:List (Str×Str)) (row:List (Str×Int)),ds=[.tup (ord.map aC),.tup (row.map aq)]/\ord.length<=500/\row.length<=24/\Q (.bl (decide (0<W (cB ord) row))) M
theorem rA(F:Fun K "_law_whole" "_law_whole" jP f fd) (T:Txt mg) (G1:FnD P w K mg base "_law_cancels" 3 3 dE):bj P w K mg base CX0 4 f fd ["_law_order_here","_law_row_here"] (spD K 2 nY):=by
 have nd:=md.nd;refine F.okR rfl md (fun cdv A outer s H E hr=>⟨_,(ai (aO (i:=2) nd rfl (Or.inl rfl) Ft)
   (ai (cP PassesOwn.never rfl (cz rfl T.b_range (ae (aP aM (ax a7 rfl T.b_len (by kernel_rfl) (ae (af 1) ah)) ak) ah)) (bg (i:=3) nd rfl (Or.inl rfl)) (au (cP PassesOwn.never rfl (cz rfl T.b_range (ae (aP aM (aP fk (ax a7 rfl T.b_len (by kernel_rfl) (ae (af 1) ah)) (af 3)) ak) ah)) (bg (i:=4) nd rfl (Or.inl rfl)) (ai (sW hr.units1 (af 2) (ae (af 4) (ae (aP aM (af 4) (af 3)) ah)) (gh (ft hr.units) (af 3) ak nbh))
   (au (cP PassesOwn.never rfl (uE rfl T.b_range (ae (aP aM (af 4) ak) (ae (aP aM (af 4) (af 3)) ah))) (bg (i:=5) nd rfl (Or.inl rfl)) (au (bh (fZ (eK (bt (qd G1 hr (ae (af 0) (ae (aH aI (af 1) (af 4) (fun _ _=>rfl)) (ae (aH aI (af 1) (af 5) (fun _ _=>rfl)) ah))))) (eK (bt (i6 hr.units1 (af 2) (ae (aP aM (af 4) ak) (ae (af 5) ah)) (fun _ _=>rfl))) (eV (bt (i6 hr.units1 (af 2) (ae (aP aM (af 5) ak) (ae (aP aM (af 4) (af 3)) ah)) (fun _ _=>rfl))))))) (au (sW hr.units1 (af 2) (ae (af 4) (ae (aP aM (af 4) (af 3)) ah)) gw)) aV))))))))
   (au (bT (i6 hr.units1 (af 2) (ae ak (ae (ax a7 rfl T.b_len (by kernel_rfl) (ae (af 1) ah)) ah)) (fun _ _=>rfl)))))),fun ds M R _ hS bk=>?_⟩)
 obtain⟨ord,row,rfl,ho,hl,k⟩:=hS;refine bk ?_;clear bk;walk_at "rd";simp only[List.length_map];refine fun p hp=>⟨by lia,by lia,?_⟩;refine aZ (fun i Δ M'=>∃(kvs:List (List Key×D)) (x3 x4 x5:Option D),Δ=[some (D.tup (ord.map aC)),some (D.tup (row.map aq)),some (D.ref p),x3,x4,x5]/\M'=aw M p (.dT kvs)/\Tb2 (cB ord) row i 0 kvs/\kvs.length<=700*i)
  ⟨[],none,none,none,rfl,rfl,fun b e=>by unfold tb2;rw[if_neg (by lia)];rfl,Nat.le_refl _⟩ ?_ ?_
 ·rintro L d Δ M' X hd ⟨kvs,x3,x4,x5,rfl,rfl,hT,hkl⟩ k';obtain⟨hL,rfl⟩:=cv hd;have hL':L<=row.length:=by lia
  refine⟨_,rfl,?_⟩;rw[Int.zero_add];walk_at "rd";simp only[List.length_map];refine⟨by lia,by lia,?_⟩;have e1:((row.length:Int)-(L:Int)+1).toNat=row.length-L+1:=by lia
  rw[e1];refine aZ (fun j Δ M'=>∃(kvs:List (List Key×D)) (x4 x5:Option D),Δ=[some (D.tup (ord.map aC)),some (D.tup (row.map aq)),some (D.ref p),some (D.int (L:Int)),x4,x5]/\M'=aw M p (.dT kvs)/\Tb2 (cB ord) row L j kvs/\kvs.length<=700*L+26*j)
   ⟨kvs,_,_,rfl,rfl,hT,hkl⟩ ?_ ?_
  ·rintro j d Δ M' X' hd2 ⟨kvs,x4,x5,rfl,rfl,hT,hkl⟩ k2;obtain⟨hj,rfl⟩:=cv hd2;refine⟨_,rfl,?_⟩;rw[Int.zero_add];walk_at "rd";have ej:(j:Int)+(L:Int)=((j+L:Nat):Int):=by lia
   rw[ej];refine⟨sz3 2,Nat.lt_of_lt_of_le (by lia:kvs.length<16000000) (szB 16000000),_,_,⟨rfl,rfl⟩,⟨by lia,by lia,by lia,by lia⟩,?_⟩;refine aZ (fun m Δ M'=>∃(kvs':List (List Key×D)) (x5:Option D) (v:Bool),Δ=[some (D.tup (ord.map aC)),some (D.tup (row.map aq)),some (D.ref p),some (D.int (L:Int)),some (D.int (j:Int)),x5]/\M'=aw M p (.dT kvs')/\cn kvs' [.inl (j:Int),.inl ((j+L:Nat):Int)]=some (.bl v)/\(∀b e:Nat,¬ (b=j/\e=j+L)->cn kvs' [.inl (b:Int),.inl (e:Int)]=tb2 (cB ord) row L j b e)/\kvs'.length<=700*L+26*j+1+m/\(v=true↔L=0∨∃k,j+1<=k/\k<j+1+m/\k<j+L/\cB ord (sg row j) (sg row k)=true/\0<W (cB ord) (seg row (j+1) k)/\0<W (cB ord) (seg row (k+1) (j+L))))
    ⟨_,_,_,rfl,rfl,by rw[fA,if_pos rfl],fun b e c=>by rw[fA,if_neg (fun z=>c (jW.mp z))];exact hT b e,Nat.le_trans (fc _ _ _) (by lia),?_⟩ ?_ ?_
   ·constructor
    ·intro h;exact .inl (by simpa using h)
    ·rintro(h|⟨k,h1,h2,_⟩)
     ·simp[h]
     ·lia
   ·rintro m d Δ M' X2 hd3 ⟨kvs',x5,v,rfl,rfl,hv,hoth,hkl',hiff⟩ k3;obtain⟨hm,rfl⟩:=cv hd3;have hk:j+1+m<j+L:=by clear hiff;lia
    have b2:j+1+m<row.length:=by clear hiff;lia
    have b1:j<row.length:=by clear hiff;lia
    have b3:kvs'.length<16000000:=by clear hiff;lia
    have b4:j+1+m<j+1+(m+1):=by clear hiff;lia
    have b5:j+1<=j+1+m:=by clear hiff;lia
    refine⟨_,rfl,?_⟩;rw[show(j:Int)+1+(m:Int)=((j+1+m:Nat):Int)by lia];walk_at "rd";have e1:cn kvs' [.inl ((j:Int)+1),.inl ((j+1+m:Nat):Int)]=some (.bl (decide (0<W (cB ord) (seg row (j+1) (j+1+m))))):=by
     have h:=hoth (j+1) (j+1+m) (by lia);unfold tb2 at h;rw[if_pos (by lia)]at h;rw[show(j:Int)+1=((j+1:Nat):Int)by lia];exact h
    have e2:cn kvs' [.inl (((j+1+m:Nat):Int)+1),.inl ((j:Int)+(L:Int))]=some (.bl (decide (0<W (cB ord) (seg row (j+1+m+1) (j+L))))):=by
     have h:=hoth (j+1+m+1) (j+L) (by lia);unfold tb2 at h;rw[if_pos (by lia)]at h;rw[show((j+1+m:Nat):Int)+1=((j+1+m+1:Nat):Int)by lia,ej];exact h
    have no:¬ (cB ord (sg row j) (sg row (j+1+m))=true/\0<W (cB ord) (seg row (j+1) (j+1+m))/\0<W (cB ord) (seg row (j+1+m+1) (j+L)))->X2 [some (D.tup (ord.map aC)),some (D.tup (row.map aq)),some (D.ref p),some (D.int (L:Int)),some (D.int (j:Int)),some (D.int ((j+1+m:Nat):Int))] (aw M p (.dT kvs')):=fun hno=>k3 _ _ ⟨kvs',_,v,rfl,rfl,hv,hoth,Nat.le_succ_of_le hkl',hiff.trans ⟨fun h=>by
     rcases h with h|⟨k,h1,h2,h3⟩
     ·exact .inl h
     ·exact .inr ⟨k,h1,by lia,h3⟩,fun h=>by
     rcases h with h|⟨k,h1,h2,h3,h4⟩
     ·exact .inl h
     ·rcases Nat.lt_or_ge k (j+1+m)with z|z
      ·exact .inr ⟨k,h1,z,h3,h4⟩
      ·obtain rfl:k=j+1+m:=by lia
       exact absurd h4 hno⟩⟩
    refine⟨_,gW b1,_,gW b2,ord,sg row j,sg row (j+1+m),rfl,ho,_,rfl,?_⟩;refine cE (fun hc=>⟨kvs',aj,sz3 2,_,e1,_,rfl,?_⟩) (fun hc=>no fun z=>hc z.1);refine cE (fun hc1=>⟨kvs',aj,sz3 2,_,e2,_,rfl,?_⟩) (fun hc1=>no fun z=>hc1 (by simpa using z.2.1));refine cE (fun hc2=>⟨sz3 2,kvs',aj,Nat.lt_of_lt_of_le b3 (szB 16000000),?_⟩) (fun hc2=>no fun z=>hc2 (by simpa using z.2.2));rw[aE,ej];refine k3 _ _ ⟨_,_,true,rfl,rfl,by rw[fA,if_pos rfl],fun b e c=>by rw[fA,if_neg (fun z=>c (jW.mp z))];exact hoth b e c,?_,⟨fun _=>.inr ⟨j+1+m,b5,b4,hk,hc,by simpa using hc1,by simpa using hc2⟩,fun _=>rfl⟩⟩;have:=fc kvs' [Sum.inl (j:Int),Sum.inl ((j+L:Nat):Int)] (D.bl true);clear hiff
    lia
   ·rintro Δ M' ⟨kvs',x5,v,rfl,rfl,hv,hoth,hkl',hiff⟩;rw[bS]at hiff hkl';refine k2 _ _ ⟨kvs',_,_,rfl,rfl,fun b e=>?_,by lia⟩
    by_cases c:b=j/\e=j+L
    ·obtain⟨rfl,rfl⟩:=c;rw[hv];unfold tb2;rw[if_pos (by lia)];congr 2;rw[Bool.eq_iff_iff,hiff,decide_eq_true_eq]
     by_cases hL0:L=0
     ·subst hL0;exact⟨fun _=>by rw[Nat.add_zero,jr,il];decide,fun _=>.inl rfl⟩
     ·rw[Fq (by lia) (by lia)];constructor
      ·rintro(h|⟨k,h1,h2,h3,h4⟩)
       ·exact absurd h hL0
       ·exact⟨k,h1,h3,h4⟩
      ·rintro⟨k,h1,h3,h4⟩;exact .inr ⟨k,h1,by lia,h3,h4⟩
    ·rw[hoth b e c];unfold tb2
     by_cases c2:b<=e/\e<=row.length/\(e-b<L∨(e-b=L/\b<j))
     ·rw[if_pos c2,if_pos (by lia)]
     ·rw[if_neg c2,if_neg (by lia)]
  ·rintro Δ M' ⟨kvs,x4,x5,rfl,rfl,hT,hkl⟩;rw[bS]at hT hkl;refine k' _ _ ⟨kvs,_,_,_,rfl,rfl,fun b e=>?_,by lia⟩;rw[hT b e];unfold tb2
   by_cases c:b<=e/\e<=row.length/\(e-b<L∨(e-b=L/\b<row.length-L+1))
   ·rw[if_pos c,if_pos (by lia)]
   ·rw[if_neg c,if_neg (by lia)]
 ·rintro Δ M' ⟨kvs,x3,x4,x5,rfl,rfl,hT,hkl⟩;rw[bS]at hT hkl;walk_at "rd";have hv:=hT 0 row.length;unfold tb2 at hv;rw[if_pos (by lia),kY]at hv;exact⟨sz3 2,_,by rw[List.length_map];exact hv,M,dQ hp,k⟩
def qa:SpD:=fun ds M Q=>∃row:List (Str×Int),ds=[.tup (row.map aq),.int 1]/\row.length<=24/\Q (.tup ((wsh row).map aq)) M
theorem vO(F:Fun K "_law_wish" "_law_wish" i5 f fd) (T:Txt mg) :bj P w K mg base CX0 1 f fd ["_law_row_here","_law_by"] (spD K 2 qa):=by
 have nd:=oj.nd;refine F.okR rfl oj (fun cdv A outer s H E hr=>⟨_,(au (aS (bR dq rfl T.b_tuple (by kernel_rfl) (ae (gK (ms:=[false,true]) (am:=["_law_mark","_law_turn"]) (aJ rfl (show aR (ao i5) iX _ _=true from by decide +kernel)) rfl (bp (xf (af 0) (DF E1 ak))) (cH (n:=2) rfl (aT (aD (i:=2) (show(iX++_).Nodup from by decide +kernel) rfl rfl) (aT (aD (i:=3) (show(iX++_).Nodup from by decide +kernel) rfl rfl) cF))) (fun _ _ _ _=>dY) (fun _ _ _ _=>(aU (ae (af 2) (ae (aP aM (af 3) (af 1)) ah))))) ah)))),fun ds M R _ hS bk=>?_⟩);obtain⟨row,rfl,hl,k⟩:=hS;refine bk ?_;clear bk;walk_at "rd";intro hz;refine⟨hz,?_⟩;rw[<-List.map_reverse];refine aQ aq (fun _=>true) (fun x=>aq (x.1,x.2+1)) (fun Δ=>∃x y,Δ=[none,some (.int 1),x,y]) _ _ _ (fun m hm Δ hΔ=>?_) ⟨none,none,rfl⟩ ?_
 ·obtain⟨x,y,rfl⟩:=hΔ;refine⟨_,rfl,⟨_,_,rfl⟩,fun Q1 q=>q,fun _ Q2 q=>?_⟩;walk_at "rd";exact⟨sz3 2,q⟩
 ·rw[List.nil_append,List.filter_eq_self.mpr (fun _ _=>rfl)];unfold wsh at k;rw[List.map_map]at k;exact k
def js:SpD:=fun ds M R=>∃(ord:List (Str×Str)) (a:Str),ds=[.tup (ord.map aC),.str a]/\ord.length<=200/\∀L:List Str,(∀x,x∈L↔bV (sw ord) a x)->R (.lst (L.map .str)) M
theorem m4(F:Fun K "_law_together" "_law_together" dW f fd) (T:Txt mg) (G9:FnD P w K mg base "_law_above" 1 2 jK):bj P w K mg base CX0 2 f fd ["_law_order_here","_law_mark"] (spD K 2 js):=by
 have nd:=iq.nd;refine F.okR rfl iq (fun cdv A outer s H E hr=>⟨_,(au (aS (qd G9 hr (ae (bR dq rfl T.b_tuple (by kernel_rfl) (ae (aP aM (bR xr rfl T.b_list (by kernel_rfl) (ae (af 0) ah)) (gK (ms:=[false,false]) (am:=["_law_low","_law_high"]) (aJ (n0:=0) rfl (show aR (ao dW) dU _ _=true from by decide +kernel)) rfl (bp (af 0)) (cH (n:=2) rfl (aT (aD (i:=2) (show(dU++_).Nodup from by decide +kernel) rfl rfl) (aT (aD (i:=3) (show(dU++_).Nodup from by decide +kernel) rfl rfl) cF))) (fun _ _ _ _=>dY) (fun _ _ _ _=>(aU (ae (af 3) (ae (af 2) ah)))))) ah)) (ae (af 1) ah))))),fun ds M R _ hS bk=>?_⟩);obtain⟨ord,a,rfl,ho,k⟩:=hS;refine bk ?_;clear bk;walk_at "rd";refine⟨_,rfl,fun hz=>⟨hz,aQ aC (fun _=>true) (fun y=>aC (y.2,y.1)) (fun Δ=>∃x y,Δ=[none,none,x,y]) _ _ _ (fun y hy Δ hΔ=>?_) ⟨none,none,rfl⟩ ?_⟩⟩
 ·obtain⟨x,z,rfl⟩:=hΔ;refine⟨_,rfl,⟨_,_,rfl⟩,fun Q1 q=>q,fun _ Q2 q=>?_⟩;walk_at "rd";exact⟨sz3 2,q⟩
 ·rw[List.nil_append,List.filter_eq_self.mpr (fun _ _=>rfl)];have e:ord.map (fun y=>aC (y.2,y.1))=(ord.map fun y=>(y.2,y.1)).map aC:=by rw[List.map_map];rfl
  rw[e];refine⟨_,if_pos (sz3 _ (by simp;lia)),_,rfl,?_⟩;rw[<-List.map_append];exact⟨sw ord,a,rfl,by simp[sw];lia,fun L h1 h2 h3=>k L fun x=>⟨h3 x,jq h1 h2⟩⟩
theorem xZ{α:Type}{f:α->Nat}:∀{l:List α}{x:α},x∈l->f x<=(l.map f).sum
 |[],x,h=>by cases h
 |y::l,x,h=>by
  rw[List.map_cons,List.sum_cons];rcases List.mem_cons.mp h with rfl|h
  ·lia
  ·have:=xZ (f:=f) h;lia
theorem tZ{row:List (Str×Int)}{a b c:Nat}(h:a<=b) (h':b<=c):seg row a c=seg row a b++seg row b c:=by
 have e:=List.take_append_drop (b-a) (seg row a c);rw[jt (by lia),ji,show a+(b-a)=b by lia]at e;exact e.symm
section
variable{R:Str×Int->Str×Int->Bool}{row:List (Str×Int)}{ps:List (Nat×Nat)}
theorem Clo.join(h:Clo R row ps) {a b c:Nat}(h1:(a,b)∈ps) (h2:(b,c)∈ps):(a,c)∈ps:=by
 obtain⟨p1,p2,p3⟩:=(h.2.2.1 a b).mp h1;obtain⟨q1,q2,q3⟩:=(h.2.2.1 b c).mp h2;refine(h.2.2.1 a c).mpr ⟨by lia,q2,?_⟩;rw[tZ p1 q1];have:=FS (R:=R) (seg row a b) _ [] (seg row b c) (Nat.le_refl _);rw[List.nil_append,List.nil_append]at this;exact Nat.lt_of_lt_of_le (Nat.mul_pos q3 p3) this
theorem Clo.round(h:Clo R row ps) {a b:Nat}(h1:(a,b)∈ps) (ha:0<a) (hb:b<row.length) (hc:R (sg row (a-1)) (sg row b)=true):(a-1,b+1)∈ps:=by
 obtain⟨p1,p2,p3⟩:=(h.2.2.1 a b).mp h1;refine(h.2.2.1 _ _).mpr ⟨by lia,hb,?_⟩;have e:seg row (a-1) (b+1)=sg row (a-1)::(seg row a b++[sg row b]):=by
  rw[jl (by lia) hb,show a-1+1=a by lia,tZ p1 (Nat.le_succ b),jl (Nat.lt_succ_self b) hb,jr]
 rw[e,fQ];have hm:(seg row a b,sg row b,([]:List (Str×Int)))∈iK (seg row a b++[sg row b]):=by
  rw[gT];refine List.mem_append_right _ (List.mem_map.mpr ⟨([],sg row b,[]),?_,by simp⟩);simp[iK]
 have:=xZ (f:=fun c:List (Str×Int)×(Str×Int)×List (Str×Int)=>if R (sg row (a-1)) c.2.1 then W R c.1*W R c.2.2 else 0) hm;simp only[hc,if_true,il,Nat.mul_one]at this
 lia
theorem Clo.diag(h:Clo R row ps) {p:Nat}(hp:p<=row.length):(p,p)∈ps:=(h.2.2.1 p p).mpr ⟨Nat.le_refl _,hp,by rw[jr,il];lia⟩
theorem Clo.whole(h:Clo R row ps) (hW:W R row=0):(0,row.length)∉ps:=fun z=>by
 have:=((h.2.2.1 _ _).mp z).2.2;rw[kY,hW]at this;lia
theorem Clo.le(h:Clo R row ps) {a b:Nat}(h1:(a,b)∈ps):a<=b/\b<=row.length:=let q:=(h.2.2.1 a b).mp h1;⟨q.1,q.2.1⟩
end
theorem eqN:∀x y:Nat×Nat,eqD (nD x) (nD y)=decide (x=y):=fun⟨a,b⟩ ⟨c,d⟩=>by
 rw[Bool.eq_iff_iff];simp[stD,eqD,cw];lia
theorem E8(x:Nat×Nat):dLe (nD x) 59=true:=rfl
theorem Aq{α:Type} [DecidableEq α] (f:α->D) (hf:∀x y,eqD (f x) (f y)=decide (x=y)) (hl:∀x,dLe (f x) 59=true) {a b:List α}:neF (.lst (a.map f)) (.lst (b.map f))=some (.bl (!decide (a=b))):=by
 have h1:dLe (.lst (a.map f)) 60=true:=qS f hl;have h2:dLe (.lst (b.map f)) 60=true:=qS f hl;simp only[neF,h1,h2,and_self,if_true,eqD,tK f hf]
def kP(s:Nat×Nat):List KD:=[.int s.1,.int s.2]
theorem BL{x y:Nat×Nat}(h:kP x=kP y):x=y:=by
 obtain⟨a,b⟩:=x;obtain⟨c,d⟩:=y;simp only[kP,List.cons.injEq,KD.int.injEq,Int.natCast_inj,and_true]at h;rw[h.1,h.2]
theorem dpN(x:Nat×Nat):dpK 8 (.tup (kP x)):=fun z hz=>by
 simp only[kP,List.mem_cons,List.not_mem_nil,or_false]at hz;rcases hz with rfl|rfl<;>simp[dpK]
theorem EE(ps:List (Nat×Nat)):(ps.map kP).map fP=ps.map nD:=by rw[List.map_map];rfl
theorem jX{ps:List (Nat×Nat)}{x:Nat×Nat}:kP x∈ps.map kP↔x∈ps:=by
 rw[List.mem_map];exact⟨fun⟨y,h,e⟩=>BL e▸h,fun h=>⟨x,h,rfl⟩⟩
theorem xU{ps:List (Nat×Nat)}(hn:ps.Nodup) {i:Nat}{y:Nat×Nat}(hy:ps[i]?=some y):gf ((ps.take i).map kP) (kP y)=(ps.take (i+1)).map kP:=by
 have e:ps.take (i+1)=ps.take i++[y]:=by rw[List.take_add_one,hy];rfl
 have hn':(ps.take (i+1)).Nodup:=hn.sublist (List.take_sublist _ _);rw[e,List.nodup_append]at hn';rw[e,List.map_append];exact if_neg fun z=>hn'.2.2 y (jX.mp z) y (by simp) rfl
def lG:SpD:=fun ds M Q=>∃(ord:List (Str×Str)) (row:List (Str×Int)) (ps:List (Nat×Nat)),ds=[.tup (ord.map aC),.tup (row.map aq),.tup (ps.map nD)]/\ord.length<=200/\row.length<=13/\Clo (cB ord) row ps/\W (cB ord) row=0/\Q (.bl true) M
theorem pX(F:Fun K "_law_closed" "_law_closed" cG f fd) (T:Txt mg) (G1:FnD P w K mg base "_law_cancels" 3 3 dE):bj P w K mg base CX0 4 f fd ["_law_order_here","_law_row_here","_law_pairs"] (spD K 3 lG):=by
 have nd:=ka.nd;refine F.okR rfl ka (fun cdv A outer s H E hr=>⟨_,(ai (aO (i:=3) nd rfl (Or.inr rfl) FK)
   (bf (ai (cP PassesOwn.never rfl (bp (af 2)) (bg (i:=4) nd rfl (Or.inl rfl)) (ai (bh (fZ (fw (cU (bt (jf (Tn:="tuple") (by decide) rfl T.b_isinstance rfl T.b_tuple (by kernel_rfl) (af 4)))) (fw (aF (gu hr.units) (ax a7 rfl T.b_len (by kernel_rfl) (ae (af 4) ah)) ak nbh) (eF (cU (bt (ax (qq rfl) rfl T.b_all (by kernel_rfl) (ae (gK (ms:=[false,false,false,false,false,false,false]) (am:=["_law_one"]) (aJ rfl (show aR (ao cG) bF _ _=true from by decide +kernel)) rfl (bp (af 4)) (aD (i:=7) (show(bF++_).Nodup from by decide +kernel) rfl rfl) (fun _ _ _ _=>dY) (fun _ _ _ _=>(jf (Tn:="int") (by decide) rfl T.b_isinstance rfl T.b_int (by kernel_rfl) (af 7)))) ah)))))))) (au (bT gw)) aV)
   (au (Bq hr.units (af 3) (af 4) gw))))
   (bf (ai (bh (fZ (fw (aF (gu hr.units) (bR xr rfl T.b_list (by kernel_rfl) (ae (af 2) ah)) (wm (w:=w) rfl rfl T.b_sorted (af 3)) nbh) (eF (cU (bt (ax (qq rfl) rfl T.b_all (by kernel_rfl) (ae (Ep (w:=w) (i:=3) (ms:=[false,true,false,false,false,false,false]) (am:=[]) (aJ rfl (show aR (ao cG) bF _ _=true from by decide +kernel)) rfl (af 3) (cH (n:=2) rfl (aT (aD (i:=5) (show(bF++_).Nodup from by decide +kernel) rfl rfl) (aT (aD (i:=6) (show(bF++_).Nodup from by decide +kernel) rfl rfl) cF))) (fun _ _ _ _=>(vY oC oC oC ak (af 5) (af 6) (ax a7 rfl T.b_len (by kernel_rfl) (ae (af 1) ah))))) ah))))))) (au (bT gw)) aV)
   (bf (ai (bh (fZ (fw (cU (bt (ax (qq rfl) rfl T.b_all (by kernel_rfl) (ae (gK (ms:=[false,false,false,true,false,false,false]) (am:=[]) (aJ rfl (show aR (ao cG) bF _ _=true from by decide +kernel)) rfl (cz rfl T.b_range (ae (aP aM (ax a7 rfl T.b_len (by kernel_rfl) (ae (af 1) ah)) ak) ah)) (aD (i:=5) (show(bF++_).Nodup from by decide +kernel) rfl rfl) (fun _ _ _ _=>dY) (fun _ _ _ _=>(AG (w:=w) false rfl hr.units (aU (ae (af 5) (ae (af 5) ah))) (af 3) rfl))) ah)))) (eF (fZ (eK (sm (w:=w) false rfl hr.units (aU (ae ak (ae (ax a7 rfl T.b_len (by kernel_rfl) (ae (af 1) ah)) ah))) (af 3) rfl) (eV (aF (gu hr.units) (af 1) (aU ah) nbh))))))) (au (bT gw)) aV)
   (bf (ai (cP PassesOwn.never rfl (bp (af 2)) (j7 rfl (cm (bg (i:=5) nd rfl (Or.inr rfl)) (cm (bg (i:=6) nd rfl (Or.inr rfl)) kh))) (ai (bh (cU (bt (ax (qq rfl) rfl T.b_all (by kernel_rfl) (ae (gK (ms:=[false,false,false,true,false,true,true]) (am:=["_law_k"]) (aJ rfl (show aR (ao cG) bF _ _=true from by decide +kernel)) rfl (uE rfl T.b_range (ae (af 6) (ae (aP aM (ax a7 rfl T.b_len (by kernel_rfl) (ae (af 1) ah)) ak) ah))) (aD (i:=7) (show(bF++_).Nodup from by decide +kernel) rfl rfl) (fun _ _ _ _=>(cI (sm (w:=w) false rfl hr.units (aU (ae (af 6) (ae (af 7) ah))) (af 3) rfl))) (fun _ _ _ _=>(AG (w:=w) false rfl hr.units (aU (ae (af 5) (ae (af 7) ah))) (af 3) rfl))) ah)))) (au (bT gw)) aV)
   (bf (au (bh (fZ (eK (aF u5 (af 5) ak nbh) (eK (aF nh (af 6) (ax a7 rfl T.b_len (by kernel_rfl) (ae (af 1) ah)) nbh) (eK (bt (qd G1 hr (ae (af 0) (ae (aH aI (af 1) (aP fk (af 5) ak) (fun _ _=>rfl)) (ae (aH aI (af 1) (af 6) (fun _ _=>rfl)) ah))))) (eV (sm (w:=w) true rfl hr.units (aU (ae (aP fk (af 5) ak) (ae (aP aM (af 6) ak) ah))) (af 3) rfl)))))) (au (bT gw)) aV)))))
   (bf (au (bT (gh (gu hr.units) (af 1) (aU ah) nbh))))))))))))),fun ds M R _ hS bk=>?_⟩)
 obtain⟨ord,row,ps,rfl,ho,hl,hC,hW,k⟩:=hS;have hn:=hC.1;have hlp:=hC.2.2.2;refine bk ?_;clear bk;walk_at "rd";refine fun p hp=>ay ?_;walk_at "rd";intro hz;refine aZ (fun i Δ M'=>∃x4:Option D,Δ=[some (D.tup (ord.map aC)),some (D.tup (row.map aq)),some (D.tup (ps.map nD)),some (D.ref p),x4,none,none]/\M'=aw M p (dRw w p ((ps.take i).map kP))) ⟨_,rfl,rfl⟩ ?_ ?_
 ·intro i d Δ M' X hd hI' k';refine shr fun _ bk=>?_;obtain⟨x4,rfl,rfl⟩:=hI';refine bk ?_;clear bk;obtain⟨⟨a,b⟩,hy,rfl⟩:=eW hd;have hi:i<ps.length:=(List.getElem?_eq_some_iff.mp hy).1;refine⟨_,rfl,?_⟩;simp only[stD];walk_at "rd";refine⟨true,rfl,?_⟩;rw[if_neg (by simp)];rw[if_neg (by simp)];refine fun hz2=>⟨hz2,aQ (fun v:Nat=>D.int (v:Int)) (fun _=>true) (fun _=>D.bl true) (fun Δ=>∃x,Δ=[none,none,none,none,none,none,none,x]) [a,b] _ _ (fun y hy Δ hΔ=>?_) ⟨none,rfl⟩ ?_⟩
  ·obtain⟨x,rfl⟩:=hΔ;refine⟨_,rfl,⟨_,rfl⟩,fun Q1 q=>q,fun _ Q2 q=>?_⟩;walk_at "rd";exact⟨true,rfl,q⟩
  rw[List.nil_append,List.filter_eq_self.mpr (fun _ _=>rfl)];refine⟨_,mB _,_,rfl,?_⟩;rw[if_neg (by simp)];refine⟨_,aj,kP (a,b),rfl,dpN _,by rw[List.length_map,List.length_take];lia,?_⟩;rw[aE,xU hn hy];exact k' _ _ ⟨_,rfl,rfl⟩
 ·intro Δ M' hI';refine shr fun _ bk=>?_;obtain⟨x4,rfl,rfl⟩:=hI';refine bk ?_;clear bk;rw[List.length_map,List.take_of_length_le (Nat.le_refl _)];refine ay ?_;walk_at "rd";refine⟨_,rfl,_,rfl,ps.map stI,by rw[EE,List.map_map];rfl,by rw[List.length_map];exact hlp,?_⟩;have e2:(ps.map stI).map pD=ps.map nD:=by rw[List.map_map];rfl
  rw[hC.2.1,e2];refine⟨_,Aq nD eqN E8,_,rfl,?_⟩;rw[if_neg (by simp)];refine⟨_,rfl,by rw[List.length_map];exact sz3 _ (by lia),fun φ=>?_⟩;rw[EE];refine qI nD (fun _=>D.bl true) (fun Δ=>∃x y,Δ=[none,some (D.tup (row.map aq)),none,none,none,x,y]) ps _ _ (fun y hy Δ hΔ=>?_) ⟨none,none,rfl⟩ ?_
  ·obtain⟨x,z,rfl⟩:=hΔ;obtain⟨a,b⟩:=y;obtain⟨h1,h2⟩:=hC.le hy;refine⟨_,rfl,⟨_,_,rfl⟩,fun Q2 q=>?_⟩;walk_at "rd";rw[if_pos (by lia),if_pos (by lia),List.length_map,decide_eq_true (by lia)];exact q
  rw[List.nil_append];refine⟨_,mB ps,_,rfl,?_⟩;rw[if_neg (by simp)];refine ay ?_;walk_at "rd";obtain⟨Mk,eMk⟩:∃Mk,Mk=aw M p (dRw w p (ps.map kP)):=⟨_,rfl⟩;have hk:Mk p=some (dRw w p (ps.map kP)):=by rw[eMk];exact aj
  have hle:LeM M Mk:=by rw[eMk];exact dQ hp
  rw[<-eMk];clear eMk;rw[List.length_map];have hl6:(ps.map kP).length<1000000:=by rw[List.length_map];lia
  refine⟨by lia,by lia,by rw[bS];exact sz3 _ (by lia),?_⟩;have er:ie 0 ((row.length:Int)+1).toNat=(List.range (row.length+1)).map fun(k:Nat)=>D.int (0+(k:Int)):=rfl;rw[er];refine aQ (fun(k:Nat)=>D.int (0+(k:Int))) (fun _=>true) (fun _=>D.bl true) (fun Δ=>∃x,Δ=[none,none,none,some (D.ref p),none,x,none]) _ _ _ (fun i hi Δ hΔ=>?_) ⟨none,rfl⟩ ?_
  ·obtain⟨x,rfl⟩:=hΔ;have hi':=List.mem_range.mp hi;refine⟨_,rfl,⟨_,rfl⟩,fun Q1 q=>q,fun _ Q2 q=>?_⟩;rw[Int.zero_add];walk_at "rd";refine⟨sz3 2,_,hk,kP (i,i),rfl,dpN _,hl6,?_⟩;rw[Bool.false_xor,decide_eq_true (jX.mpr (hC.diag (by lia)))];exact q
  rw[List.nil_append,List.filter_eq_self.mpr (fun _ _=>rfl)];refine⟨_,mB _,_,rfl,?_⟩;rw[if_neg (by simp)];refine⟨sz3 2,_,hk,kP (0,row.length),rfl,dpN _,hl6,?_⟩;rw[Bool.false_xor,decide_eq_false (fun z=>hC.whole hW (jX.mp z)),if_neg (by simp)];refine ay ?_;walk_at "rd";refine fun hz=>?_;refine aZ (fun i Δ M'=>∃x4 x5 x6:Option D,Δ=[some (D.tup (ord.map aC)),some (D.tup (row.map aq)),some (D.tup (ps.map nD)),some (D.ref p),x4,x5,x6]/\M'=Mk) ⟨_,_,_,rfl,rfl⟩ ?_ ?_
  ·intro i d Δ M' X hd hI' k';refine shr fun _ bk=>?_;obtain⟨x4,x5,x6,rfl,rfl⟩:=hI';refine bk ?_;clear bk;obtain⟨⟨a,b⟩,hy,rfl⟩:=eW hd;have hab:=List.mem_of_getElem? hy;obtain⟨h1,h2⟩:=hC.le hab;simp only[stD,jh,fm,bL,lM,Option.bind_some];refine⟨_,rfl,?_⟩;walk_at "rd";rw[List.length_map];refine⟨_,_,⟨rfl,rfl⟩,⟨by lia,by lia,by lia,by lia⟩,by rw[bS];exact sz3 _ (by lia),?_⟩;have er2:ie (b:Int) ((row.length:Int)+1-b).toNat=(List.range ((row.length:Int)+1-b).toNat).map fun(k:Nat)=>D.int ((b:Int)+(k:Int)):=rfl;rw[er2];refine aQ (fun(k:Nat)=>D.int ((b:Int)+(k:Int))) (fun k=>decide ((b,b+k)∈ps)) (fun _=>D.bl true) (fun Δ=>∃x,Δ=[none,none,none,some (D.ref p),none,some (D.int (a:Int)),some (D.int (b:Int)),x]) _ _ _ (fun i hi Δ hΔ=>?_) ⟨none,rfl⟩ ?_
   ·obtain⟨x,rfl⟩:=hΔ;refine⟨_,rfl,⟨_,rfl⟩,fun Q1 q=>?_,fun hb Q2 q=>?_⟩
    ·rw[<-Int.natCast_add];walk_at "rd";refine⟨sz3 2,_,hk,kP (b,b+i),rfl,dpN _,hl6,?_⟩;have e:decide (kP (b,b+i)∈ps.map kP)=decide ((b,b+i)∈ps):=by rw[Bool.eq_iff_iff,decide_eq_true_eq,decide_eq_true_eq];exact jX
     rw[Bool.false_xor,e];exact q
    ·rw[<-Int.natCast_add];walk_at "rd";refine⟨sz3 2,_,hk,kP (a,b+i),rfl,dpN _,hl6,?_⟩;rw[Bool.false_xor,decide_eq_true (jX.mpr (hC.join hab (of_decide_eq_true hb)))];exact q
   rw[List.nil_append];refine⟨_,mB _,_,rfl,?_⟩;rw[if_neg (by simp)];refine ay ?_;walk_at "rd";have nx:=k' [some (D.tup (ord.map aC)),some (D.tup (row.map aq)),some (D.tup (ps.map nD)),some (D.ref p),x4,some (D.int (a:Int)),some (D.int (b:Int))] M' ⟨_,_,_,rfl,rfl⟩;rw[List.length_map];refine cE (fun ha=>cE (fun hb=>?_) (fun _=>nx)) (fun _=>nx);have ha':0<a:=by lia
   have hb':b<row.length:=by lia
   rw[show((a:Int)-1)=((a-1:Nat):Int)by lia];refine⟨_,gW (by lia),_,gW hb',ord,_,_,rfl,by lia,_,rfl,?_⟩;refine cE (fun hc=>⟨sz3 2,_,hk,kP (a-1,b+1),rfl,dpN _,hl6,?_⟩) (fun _=>nx);rw[decide_eq_true (jX.mpr (hC.round hab ha' hb' hc)),if_neg (by simp)];exact nx
  ·intro Δ M' hI';refine shr fun _ bk=>?_;obtain⟨x4,x5,x6,rfl,rfl⟩:=hI';refine bk ?_;clear bk;refine ay ?_;walk_at "rd";refine⟨Nat.zero_le _,_,neR (r2:=[]),M,hle,?_⟩;rw[decide_eq_false (fun z=>by rw[z,il]at hW;cases hW)];exact k
theorem B1{ord:List (Str×Str)}{row:List (Str×Int)}{a:Str}:((row.filter fun y=>rB (sw ord) a y.1).map fun y=>1-2*(y.2 % 2)).sum=- hs ord row a:=by
 unfold hs;generalize (row.filter fun y=>rB (sw ord) a y.1)=l
 induction l with
 |nil=>rfl
 |cons y l ih =>
  rw[List.map_cons,List.map_cons,List.sum_cons,List.sum_cons,ih]
  split<;>lia
def nV:SpD:=fun ds M R=>∃(ord:List (Str×Str)) (row:List (Str×Int)) (d:D),ds=[.tup (ord.map aC),.tup (row.map aq),d]/\ord.length<=200/\row.length<=13/\((∃m,d=.tup [.str "counted",.str m]/\¬ hs ord row m=0)∨∃ps,d=.tup [.str "closed",.tup (ps.map nD)]/\Clo (cB ord) row ps/\W (cB ord) row=0)/\R (.bl true) M
theorem rG(F:Fun K "_law_shows" "_law_shows" gZ f fd) (T:Txt mg) (ga2:FnD P w K mg base "_law_together" 2 2 js) (ga6:FnD P w K mg base "_law_closed" 4 3 lG):bj P w K mg base CX0 5 f fd ["_law_order_here","_law_row_here","_law_paper"] (spD K 3 nV):=by
 have nd:=lD.nd;refine F.okR rfl lD (fun cdv A outer s H E hr=>⟨_,(ai (bh (fZ (fw (cU (bt (jf (Tn:="tuple") (by decide) rfl T.b_isinstance rfl T.b_tuple (by kernel_rfl) (af 2)))) (eF (aF (gu hr.units) (ax a7 rfl T.b_len (by kernel_rfl) (ae (af 2) ah)) ak nbh)))) (au (aS gw)) aV)
   (bf (ai (bh (aF (ft hr.units) (aH aI (af 2) ak (fun _ _=>rfl)) aW nbh) (ai (aO (i:=3) nd rfl (Or.inr rfl) (qd ga2 hr (ae (af 0) (ae (aH aI (af 2) ak (fun _ _=>rfl)) ah))))
   (au (aS (gh (gu hr.units) (ax (uF rfl) rfl T.b_sum (by kernel_rfl) (ae (gK (ms:=[false,false,false,true]) (am:=["_law_mark","_law_turn"]) (aJ rfl (show aR (ao gZ) g9 _ _=true from by decide +kernel)) rfl (bp (af 1)) (cH (n:=2) rfl (aT (aD (i:=4) (show(g9++_).Nodup from by decide +kernel) rfl rfl) (aT (aD (i:=5) (show(g9++_).Nodup from by decide +kernel) rfl rfl) cF))) (fun _ _ _ _=>(cI (aF my (af 4) (af 3) rfl))) (fun _ _ _ _=>(aP fk ak (aP xq ak (aP qQ (af 5) ak))))) ah)) ak nbh)))) aV)
   (bf (au (aS (lW (gh (ft hr.units) (aH aI (af 2) ak (fun _ _=>rfl)) aW nbh) (lW (jf (Tn:="tuple") (by decide) rfl T.b_isinstance rfl T.b_tuple (by kernel_rfl) (aH aI (af 2) ak (fun _ _=>rfl))) (oy (qd ga6 hr (ae (af 0) (ae (af 1) (ae (aH aI (af 2) ak (fun _ _=>rfl)) ah))))))))))))),fun ds M R _ hS bk=>?_⟩)
 obtain⟨ord,row,d,rfl,ho,hl,hd,k⟩:=hS;refine bk ?_;clear bk;rcases hd with⟨m,rfl,hm⟩|⟨ps,rfl,hC,hW⟩
 ·walk_at "rd";refine⟨true,rfl,?_⟩;rw[if_neg (by simp),if_neg (by simp)];refine ay ?_;walk_at "rd";rw[if_pos (by decide +kernel)];refine⟨ord,m,rfl,ho,fun L hL=>?_⟩;walk_at "rd";refine fun hz=>⟨hz,aQ aq (fun y=>rB (sw ord) m y.1) (fun y=>D.int (1-2*(y.2 % 2))) (fun Δ=>∃x y,Δ=[none,none,none,some (D.lst (L.map .str)),x,y]) row _ _ (fun y hy Δ hΔ=>?_) ⟨none,none,rfl⟩ ?_⟩
  ·obtain⟨x,z,rfl⟩:=hΔ;obtain⟨y1,y2⟩:=y;refine⟨_,rfl,⟨_,_,rfl⟩,fun Q1 q=>?_,fun _ Q2 q=>?_⟩
   ·walk_at "rd";refine⟨_,if_pos ⟨rfl,dA⟩,_,rfl,?_⟩;have e:decide (y1∈L)=rB (sw ord) m y1:=by rw[Bool.eq_iff_iff,decide_eq_true_eq,jF,hL]
    rw[cW,Bool.false_xor,e];exact q
   ·walk_at "rd";exact q
  ·rw[List.nil_append];have e:∀l:List (Str×Int),l.map (fun y=>D.int (1-2*(y.2 % 2)))=(l.map fun y=>1-2*(y.2 % 2)).map D.int:=fun l=>by rw[List.map_map];rfl
   rw[e];refine⟨_,oE,_,pz,?_⟩;rw[B1];have e2:(!(-hs ord row m==0))=true:=by simp[hm]
   rw[e2];exact k
 ·walk_at "rd";refine⟨true,rfl,?_⟩;rw[if_neg (by simp),if_neg (by simp)];refine ay ?_;walk_at "rd";rw[if_neg (by decide +kernel)];refine ay ?_;walk_at "rd";rw[if_pos (by decide +kernel)];refine⟨true,rfl,?_⟩;rw[if_pos rfl];exact⟨ord,row,ps,rfl,ho,hl,hC,hW,k⟩
def qo:SpD:=fun ds M R=>∃(p:Addr) (l:List D) (o:List (Str×Str)) (ws:List Str),ds=[.ref p,.tup (o.map aC),.lst (ws.map .str)]/\M p=some (.lst l)/\bY l/\o.length<=200/\ws≠[]/\ws.length<=9 /\
 ∀(one other:List (Str×Int)) l',one.length+other.length<=13->R (.tup [.tup (one.map aq),.tup (other.map aq)]) (aw M p (.lst l'))
theorem uW(F:Fun K "_law_pair" "_law_pair" lI f fd) (T:Txt mg) (gb4:FnD P w K mg base "_law_row" 2 4 uj) (G0:FnD P w K mg base "_law_take" 1 2 fI) (gb9:FnD P w K mg base "_law_walk" 5 6 qK):bj P w K mg base CX0 6 f fd ["_law_digits","_law_order_here","_law_marks_here"] (spD K 3 qo):=by
 have nd:=oe.nd;refine F.okR rfl oe (fun cdv A outer s H E hr=>⟨_,(ai (aO (i:=3) nd rfl (Or.inl rfl) (qd gb4 hr (ae (af 0) (ae (af 2) (ae (qd G0 hr (ae (af 0) (ae ak ah))) (ae ak ah))))))
   (bf (ai (aO (i:=4) nd rfl (Or.inl rfl) (qd G0 hr (ae (af 0) (ae ak ah))))
   (bf (ai (bh (aF (ft hr.units) (af 4) ak nbh) (au (aS (aU (ae (af 3) (ae (qd gb4 hr (ae (af 0) (ae (af 2) (ae (qd G0 hr (ae (af 0) (ae ak ah))) (ae ak ah))))) ah))))) aV)
   (bf (ai (aO (i:=5) nd rfl (Or.inl rfl) (aH aI (qd gb9 hr (ae (af 0) (ae (af 1) (ae (af 2) (ae (af 3) (ae (qd G0 hr (ae (af 0) (ae ak ah))) (ae ak ah))))))) ak (fun _ _=>rfl)))
   (bf (ai (bh (fZ (eK (aF (ft hr.units) (af 4) ak nbh) (eV (aF (gu hr.units) (af 5) (aU ah) nbh)))) (ai (aO (i:=6) nd rfl (Or.inl rfl) (qd G0 hr (ae (af 0) (ae (ax a7 rfl T.b_len (by kernel_rfl) (ae (af 5) ah)) ah))))
   (ai (aO (i:=7) nd rfl (Or.inl rfl) (aU (ae (aH aI (af 2) (qd G0 hr (ae (af 0) (ae (ax a7 rfl T.b_len (by kernel_rfl) (ae (af 2) ah)) ah))) (fun _ _=>rfl)) (ae (aP aM (aH aI (aH aI (af 5) (af 6) (fun _ _=>rfl)) ak (fun _ _=>rfl)) (qd G0 hr (ae (af 0) (ae ak ah)))) ah))))
   (au (aO (i:=5) nd rfl (Or.inl rfl) (aP aM (aP aM (bB (af 5) cL (bu (af 6))) (aU (ae (af 7) ah))) (bB (af 5) (bu (aP aM (af 6) ak)) cL)))))) aV)
   (bf (ai (bh (aF (ft hr.units) (af 4) ak nbh) (au (aS (aU (ae (af 5) (ae (af 3) ah))))) aV)
   (au (aS (aU (ae (af 3) (ae (af 5) ah)))))))))))))))),fun ds M R _ hS bk=>?_⟩)
 obtain⟨p,l,o,ws,rfl,hM,hP,ho,hw,hwl,k⟩:=hS;refine bk ?_;clear bk;walk_at "rd";refine⟨p,l,6,rfl,hM,hP,by lia,by lia,fun v1 l1 a0 a1 hP1=>?_⟩;refine⟨p,l1,ws,v1,1,rfl,aj,hP1,hw,hwl,by lia,by lia,by lia,by lia,fun one l2 h1 hone hP2=>?_⟩;rw[aE];refine ay ?_;walk_at "rd";refine⟨p,l2,4,rfl,aj,hP2,by lia,by lia,fun v2 l3 b0 b1 hP3=>?_⟩;rw[aE];refine ay ?_;walk_at "rd";refine cE (fun hv=>?_) (fun hv=>?_)
 ·refine⟨p,l3,6,rfl,aj,hP3,by lia,by lia,fun v3 l4 c0 c1 hP4=>?_⟩;refine⟨p,l4,ws,v3,1,rfl,aj,hP4,hw,hwl,by lia,by lia,by lia,by lia,fun other l5 h2 hother hP5=>?_⟩;rw[aE,aE];exact⟨sz3 2,k one other l5 (by lia)⟩
 ·refine ay ?_;walk_at "rd";refine⟨p,l3,6,rfl,aj,hP3,by lia,by lia,fun v3 l4 c0 c1 hP4=>?_⟩;refine⟨p,l4,o,ws,one,v3,8,rfl,aj,hP4,by lia,hw,hwl,hone,by lia,by lia,by lia,by lia,by lia,fun wd other l5 hoth ho2 hP5=>?_⟩;rw[aE,aE];have fin:∀(other':List (Str×Int)) l',other'.length<=8->R (.tup [.tup (one.map aq),.tup (other'.map aq)]) (aw M p (.lst l'))/\R (.tup [.tup (other'.map aq),.tup (one.map aq)]) (aw M p (.lst l')):=fun other' l' h=>⟨k one other' l' (by lia),k other' one l' (by lia)⟩;refine⟨_,rfl,ay ?_⟩;walk_at "rd";refine cE (fun h1=>⟨Nat.zero_le _,_,neR (r2:=[]),_,rfl,cE (fun h2=>?_) (fun _=>ay ?_)⟩) (fun _=>ay ?_)
  ·have hne:0<other.length:=by
    rcases other with _|⟨x,r⟩
    ·simp at h2
    ·simp
   refine⟨p,l5,_,rfl,aj,hP5,by rw[List.length_map];lia,by rw[List.length_map];lia,fun v4 l6 d0 d1 hP6=>?_⟩;have hwn:0<ws.length:=List.length_pos_iff.mpr hw;refine⟨p,l6,_,rfl,aj,hP6,by rw[List.length_map];lia,by rw[List.length_map];lia,fun v5 l7 e0 e1 hP7=>?_⟩;rw[List.length_map]at d1 e1;obtain⟨n4,rfl⟩:=Int.eq_ofNat_of_zero_le d0;obtain⟨n5,rfl⟩:=Int.eq_ofNat_of_zero_le e0;obtain⟨m,hm⟩:∃m,ws[n5]?=some m:=⟨_,List.getElem?_eq_getElem (by lia)⟩;obtain⟨x,hx⟩:∃x,other[n4]?=some x:=⟨_,List.getElem?_eq_getElem (by lia)⟩;refine⟨.str m,du (by rw[List.getElem?_map,hm];rfl),aq x,fM hx,.int x.2,rfl,p,l7,2,rfl,aj,hP7,by lia,by lia,fun v6 l8 f0 f1 hP8=>?_⟩;rw[aE,aE,aE];refine⟨.int (x.2+v6),rfl,sz3 2,_,rfl,sz3 1,_,if_pos (by rw[nW];exact sz3 _ (by simp;lia)),_,rfl,_,rfl,_,(if_pos (by rw[nW,sL];exact sz3 _ (by simp;lia)):kl (D.tup (L2.c8 (other.map aq) none (some (n4:Int))++[D.tup [D.str m,D.int (x.2+v6)]])) (D.tup (L2.c8 (other.map aq) (some ((n4:Int)+1)) none))=_),ay ?_⟩;rw[nW,sL];have eo:(other.take n4).map aq++[D.tup [D.str m,D.int (x.2+v6)]]++(other.drop (n4+1)).map aq=(other.take n4++(m,x.2+v6)::other.drop (n4+1)).map aq:=by simp[aq]
   rw[eo];have hf:=fin (other.take n4++(m,x.2+v6)::other.drop (n4+1)) l8 (by simp;lia);walk_at "rd";exact cE (fun _=>⟨sz3 2,hf.2⟩) (fun _=>⟨sz3 2,hf.1⟩)
  ·have hf:=fin other l5 (by lia);walk_at "rd";exact cE (fun _=>⟨sz3 2,hf.2⟩) (fun _=>⟨sz3 2,hf.1⟩)
  ·have hf:=fin other l5 (by lia);walk_at "rd";exact cE (fun _=>⟨sz3 2,hf.2⟩) (fun _=>⟨sz3 2,hf.1⟩)
theorem bd6{x qual:Str}{st:Stmt}{f:Addr}{fd:FuncData}{p1 p2 p3 p4 p5 p6:Str}(F:Fun K x qual st f fd) (b:∀a c d e g h,Bd x qual st [p1,p2,p3,p4,p5,p6] [a,c,d,e,g,h]):dZ K fd [p1,p2,p3,p4,p5,p6] []:=nF F (usS fun a=>usS fun c=>usS fun d=>usS fun e=>usS fun g=>usS fun h=>us0 (b a c d e g h))
theorem zw{ns:List Int}:∃ms:List Int,L2.c8 (ns.map D.int) (some 2) (some 3)=ms.map D.int/\ms.length<=1/\∀m∈ms,m∈ns:=by
 refine⟨(ns.drop (min 2 ns.length)).take (min 3 ns.length-min 2 ns.length),?_,?_,fun m hm=>List.mem_of_mem_drop (List.mem_of_mem_take hm)⟩
 ·unfold L2.c8;rw[List.map_take,List.map_drop,List.length_map];rfl
 ·simp;lia
theorem zX{ms ns:List Int}(h:ms.length<=1) (hm:∀m∈ms,m∈ns) (hf:∀m∈ns,Few m):Few ms.sum:=by
 match ms,h with
 |[],_=>exact rV (by decide) (by decide)
 |[c],_ =>
  have:[c].sum=c:=by simp
  rw[this];exact hf c (hm c (by simp))
def S_law(Tb:Addr):SpD:=fun ds M R=>∃ns:List Int,ds=[.scr (ns.map .int)]/\fH Tb bw lq M/\ns.length<=63/\(∀m∈ns,Few m)/\∀M',fH Tb bw lq M'->R (.bl true) M'
theorem CP(F:Fun K "law" "law" xb f fd) (T:Txt mg) {Tb:Addr} (gb7:FnD P w K mg base "_law_pack" 2 2 qR) (gb3:FnD P w K mg base "_law_marks" 2 1 nU) (gb2:FnD P w K mg base "_law_order" 2 2 ox) (gb5:FnD P w K mg base "_law_pair" 6 3 qo) (ga8:FnD P w K mg base "comes" 7 3 (ow Tb)) (ga9:FnD P w K mg base "_law_whole" 4 2 nY) (gb8:FnD P w K mg base "_law_wish" 1 2 qa) (Y2:FnD P w K mg base "_law_mixed" 1 1 jA) (ga7:FnD P w K mg base "_law_sorted" 5 4 mL) (gb0:FnD P w K mg base "_law_shows" 5 3 nV):bj P w K mg base CX0 8 f fd ["_law_script"] (spD K 1 (S_law Tb)):=by
 have nd:=yA.nd;refine F.okR rfl yA (fun cdv A outer s H E hr=>⟨_,(ai (aO (i:=1) nd rfl (Or.inl rfl) (qd gb7 hr (ae (af 0) (ae ak ah))))
   (bf (ai (aO (i:=2) nd rfl (Or.inl rfl) (qd gb3 hr (ae (af 1) ah)))
   (bf (ai (aO (i:=3) nd rfl (Or.inl rfl) (qd gb2 hr (ae (af 1) (ae (af 2) ah))))
   (bf (ai (cP PassesOwn.never rfl (bp (aP aM (iu (ae (ax (uF rfl) rfl T.b_sum (by kernel_rfl) (ae (bB (af 0) (bu ak) (bu ak)) ah)) ah)) (bB (af 0) (bu ak) (bu ak)))) (bg (i:=4) nd rfl (Or.inl rfl)) (ai (AV (qd gb5 hr (ae (dM (ae (qd Y2 hr (ae (af 4) ah)) ah)) (ae (af 3) (ae (af 2) ah)))) (j7 rfl (cm (bg (i:=5) nd rfl (Or.inl rfl)) (cm (bg (i:=6) nd rfl (Or.inl rfl)) kh))))
   (bf (ai (aO (i:=7) nd rfl (Or.inl rfl) (qd ga8 hr (ae (af 3) (ae (af 5) (ae (af 6) ah)))))
   (bf (ai (aO (i:=8) nd rfl (Or.inl rfl) (aP aM (af 5) (qd gb8 hr (ae (af 6) (ae ak ah)))))
   (bf (ai (bh (fZ (fw (cU (bt (jf (Tn:="tuple") (by decide) rfl T.b_isinstance rfl T.b_tuple (by kernel_rfl) (af 7)))) (eF (aF (gu hr.units) (ax a7 rfl T.b_len (by kernel_rfl) (ae (af 7) ah)) ak nbh)))) (au (aS gw)) aV)
   (bf (au (bh (bt (qd ga9 hr (ae (af 3) (ae (af 8) ah)))) (au (bh (fZ (fw (aF (gu hr.units) (aH aI (af 7) ak (fun _ _=>rfl)) aW nbh) (eF (cU (bt (qd ga7 hr (ae (af 3) (ae (af 5) (ae (aH aI (af 7) ak (fun _ _=>rfl)) (ae (af 6) ah)))))))))) (au (aS gw)) aV)) (au (bh (fZ (fw (aF (gu hr.units) (aH aI (af 7) ak (fun _ _=>rfl)) aW nbh) (eF (cU (bt (qd gb0 hr (ae (af 3) (ae (af 8) (ae (aH aI (af 7) ak (fun _ _=>rfl)) ah))))))))) (au (aS gw)) aV)))))))))))))
   (au (aS gw))))))))),fun ds M R _ hS bk=>?_⟩)
 obtain⟨ns,rfl,hT,hn,hf,k⟩:=hS;refine bk ?_;clear bk;walk_at "rd";refine⟨ns,0,rfl,hf,hn,by lia,by lia,fun p l hp hP=>ay ?_⟩;walk_at "rd";refine⟨p,l,rfl,aj,hP,fun ws l1 hw hwl hP1=>ay ?_⟩;rw[aE];walk_at "rd";refine⟨p,l1,ws,rfl,aj,hP1,hw,hwl,fun o l2 hol ho hP2=>ay ?_⟩;rw[aE];have hT2:fH Tb bw lq (aw M p (.lst l2)):=oW hT hp;generalize aw M p (.lst l2)=M2 at hT2 ⊢;walk_at "rd";obtain⟨m1,e1,hl1,hi1⟩:=zw (ns:=ns);obtain⟨m2,e2,hl2,hi2⟩:=t9 (ns:=ns) (lo:=some 3) (hi:=some 12);rw[e1,e2];refine⟨_,oE,sz3 1,_,if_pos (sz3 _ (by rw[List.length_map];lia)),_,rfl,fun hz=>?_⟩;have lb:∀c∈m1.sum::m2,Few c:=fun c hc=>by
  rcases List.mem_cons.mp hc with rfl|hc
  ·exact zX hl1 hi1 hf
  ·exact hf c (hi2 c hc)
 refine aZ (fun i Δ M'=>fH Tb bw lq M'/\∃(x4 x5 x6 x7 x8:Option D),Δ=[some (D.scr (ns.map D.int)),some (D.ref p),some (D.lst (ws.map D.str)),some (D.tup (o.map aC)),x4,x5,x6,x7,x8]) ⟨hT2,_,_,_,_,_,rfl⟩ ?_ ?_
 ·rintro i d Δ M4 X hd ⟨hT4,x4,x5,x6,x7,x8,rfl⟩ k';obtain⟨c,hc,rfl⟩:=pR (ms:=m1.sum::m2) hd;refine⟨_,rfl,?_⟩;walk_at "rd";refine⟨c,rfl,lb c hc,fun v v0 v1=>⟨sz3 1,fun p3 hp3=>?_⟩⟩;refine⟨p3,_,o,ws,rfl,aj,⟨_,rfl⟩,by lia,hw,hwl,fun one other l3 h13=>?_⟩;rw[aE];have hT5:fH Tb bw lq (aw M4 p3 (.lst l3)):=oW hT4 hp3;generalize aw M4 p3 (.lst l3)=M5 at hT5 ⊢;refine⟨_,rfl,ay ?_⟩;walk_at "rd";have hlw:(one++wsh other).length<=13:=by rw[List.length_append,bH];exact h13
  have eadd:kl (.tup (one.map aq)) (.tup ((wsh other).map aq))=some (.tup ((one++wsh other).map aq)):=by
   rw[List.map_append];exact if_pos (szB _ (by rw[List.length_map,List.length_map,bH];lia))
  refine⟨o,one,other,rfl,by lia,h13,hT5,fun hW sts M6 hK hw'=>ay ?_,fun hW=>⟨fun m hm=>ay ?_,fun ps hps=>ay ?_⟩⟩
  ·walk_at "rd";refine⟨other,rfl,by lia,_,eadd,ay ?_⟩;walk_at "rd";refine⟨true,rfl,?_⟩;rw[if_neg (by simp),if_neg (by simp)];refine ay ?_;walk_at "rd";refine⟨o,one++wsh other,rfl,by lia,by lia,_,rfl,?_⟩;rw[if_pos (decide_eq_true hW)];rw[if_neg (by decide +kernel)];refine⟨o,one,other,sts,rfl,by lia,by lia,hw',_,rfl,?_⟩;rw[if_neg (by decide)];exact k' _ _ ⟨hK.1,_,_,_,_,_,rfl⟩
  ·walk_at "rd";refine⟨other,rfl,by lia,_,eadd,ay ?_⟩;walk_at "rd";refine⟨true,rfl,?_⟩;rw[if_neg (by simp),if_neg (by simp)];refine ay ?_;walk_at "rd";refine⟨o,one++wsh other,rfl,by lia,by lia,_,rfl,?_⟩;rw[if_neg (by simp[hW])];rw[if_neg (by decide +kernel)];refine⟨o,one++wsh other,_,rfl,by lia,hlw,.inl ⟨m,rfl,hm⟩,_,rfl,?_⟩;rw[if_neg (by decide)];exact k' _ _ ⟨hT5,_,_,_,_,_,rfl⟩
  ·walk_at "rd";refine⟨other,rfl,by lia,_,eadd,ay ?_⟩;walk_at "rd";refine⟨true,rfl,?_⟩;rw[if_neg (by simp),if_neg (by simp)];refine ay ?_;walk_at "rd";refine⟨o,one++wsh other,rfl,by lia,by lia,_,rfl,?_⟩;rw[if_neg (by simp[hW])];rw[if_neg (by decide +kernel)];refine⟨o,one++wsh other,_,rfl,by lia,hlw,.inr ⟨ps,rfl,hps,hW⟩,_,rfl,?_⟩;rw[if_neg (by decide)];exact k' _ _ ⟨hT5,_,_,_,_,_,rfl⟩
 ·rintro Δ M4 ⟨hT4,x4,x5,x6,x7,x8,rfl⟩;walk_at "rd";exact k _ hT4
end
theorem Dt:DK bw lq S_law:=fun T ns R hn hf hR=>⟨ns,rfl,.inl aj,hn,hf,hR⟩
theorem C8{l:PySem.W.OpenLaw}{w:World}{K:PySem.W.Frag}{h:Heap}{mg:Str->Option Value}{fa:Addr}(X:K.In h) (G:h.Ns mainGlobals mg) (hfa:mg "law"=some (.ref fa))
  {f0:Addr} {d0:FuncData}
  {f1:Addr} {d1:FuncData}
  {f2:Addr} {d2:FuncData}
  {f3:Addr} {d3:FuncData}
  {f4:Addr} {d4:FuncData}
  {f5:Addr} {d5:FuncData}
  {f6:Addr} {d6:FuncData}
  {f7:Addr} {d7:FuncData}
  {f8:Addr} {d8:FuncData}
  {f9:Addr} {d9:FuncData}
  {f10:Addr} {d10:FuncData}
  {f11:Addr} {d11:FuncData}
  {f12:Addr} {d12:FuncData}
  {f13:Addr} {d13:FuncData}
  {f14:Addr} {d14:FuncData}
  {f15:Addr} {d15:FuncData}
  {f16:Addr} {d16:FuncData}
  {f17:Addr} {d17:FuncData}
  {f18:Addr} {d18:FuncData}
  {f19:Addr} {d19:FuncData}
  {f20:Addr} {d20:FuncData}
  {f21:Addr} {d21:FuncData}
  {f22:Addr} {d22:FuncData}
  {f23:Addr} {d23:FuncData}
  {f24:Addr} {d24:FuncData}
  {f25:Addr} {d25:FuncData}
  {f26:Addr} {d26:FuncData}
  {f27:Addr} {d27:FuncData}
  {f28:Addr} {d28:FuncData}
  {f29:Addr} {d29:FuncData}
  {f30:Addr} {d30:FuncData}
  {f31:Addr} {d31:FuncData}
  {f32:Addr} {d32:FuncData}
  {f33:Addr} {d33:FuncData}
  {f34:Addr} {d34:FuncData}
  {f35:Addr} {d35:FuncData}
  {f36:Addr} {d36:FuncData}
  {f37:Addr} {d37:FuncData}
  {f38:Addr} {d38:FuncData}
  {f39:Addr} {d39:FuncData}
  {f40:Addr} {d40:FuncData}
  {Tb cc:Addr} {cdd:Option Addr} {cvs:Array Value} {csl2:Array (Option Value)} {cfile:Str} {ctf ctg ctt:Tok} {cflags ctext:Int} {cinF:Bool}
  (x0:bz K "reached_from" dm f0 d0)
  (x1:bz K "right_wish" cM f1 d1)
  (x2:bz K "splits" gb f2 d2)
  (x3:bz K "whole_count" dN f3 d3)
  (x4:bz K "surplus" fb f4 d4)
  (x5:bz K "cancels_by" eS f5 d5)
  (x6:bz K "orders_by" dv f6 d6)
  (x7:bz K "growths_by" cb f7 d7)
  (x8:bz K "_law_mixed" jV f8 d8)
  (x9:bz K "_law_take" lh f9 d9)
  (x10:bz K "_law_above" jS f10 d10)
  (x11:bz K "_law_done" lS f11 d11)
  (x12:bz K "_law_wish" i5 f12 d12)
  (x13:bz K "at_most" gJ f13 d13)
  (x14:bz K "hanging_with" cg f14 d14)
  (x15:bz K "stretch_counts" bx f15 d15)
  (x16:bz K "walk_by" dD f16 d16)
  (x17:bz K "_law_pack" lY f17 d17)
  (x18:bz K "_law_marks" jY f18 d18)
  (x19:bz K "_law_order" gX f19 d19)
  (x20:bz K "_law_leads" jw f20 d20)
  (x21:bz K "_law_row" ph f21 d21)
  (x22:bz K "_law_together" dW f22 d22)
  (x23:bz K "mark_leads" eQ f23 d23)
  (x24:bz K "is_uneven" fo f24 d24)
  (x25:bz K "_law_cancels" gF f25 d25)
  (x26:bz K "_law_grows" jT f26 d26)
  (x27:bz K "cancel" iN f27 d27)
  (x28:bz K "_law_step" fF f28 d28)
  (x29:bz K "_law_can" oZ f29 d29)
  (x30:bz K "_law_whole" jP f30 d30)
  (x31:bz K "_law_closed" cG f31 d31)
  (x32:bz K "mates_in" cO f32 d32)
  (x33:bz K "_law_walk" mm f33 d33)
  (x34:bz K "_law_sorted" eP f34 d34)
  (x35:bz K "_law_shows" gZ f35 d35)
  (x36:bz K "drawing_of" cX f36 d36)
  (x37:bz K "why_not" e8 f37 d37)
  (x38:bz K "_law_pair" lI f38 d38)
  (x39:bz K "comes" jI f39 d39)
  (x40:bz K "law" xb f40 d40)
  (z_len:PySem.W.nsIn K mainGlobals "len"=some none)
  (z_tuple:PySem.W.nsIn K mainGlobals "tuple"=some none)
  (z_reversed:PySem.W.nsIn K mainGlobals "reversed"=some none)
  (z_range:PySem.W.nsIn K mainGlobals "range"=some none)
  (z_sum:PySem.W.nsIn K mainGlobals "sum"=some none)
  (z_sorted:PySem.W.nsIn K mainGlobals "sorted"=some none)
  (z_list:PySem.W.nsIn K mainGlobals "list"=some none)
  (z_enumerate:PySem.W.nsIn K mainGlobals "enumerate"=some none)
  (z_divmod:PySem.W.nsIn K mainGlobals "divmod"=some none)
  (z_max:PySem.W.nsIn K mainGlobals "max"=some none)
  (z_isinstance:PySem.W.nsIn K mainGlobals "isinstance"=some none)
  (z_all:PySem.W.nsIn K mainGlobals "all"=some none)
  (z_bool:PySem.W.nsIn K mainGlobals "bool"=some none)
  (z_int:PySem.W.nsIn K mainGlobals "int"=some none)
  (t1:d5.code=.ref cc)
  (t2:K.lookup cc=some ⟨.type "code",cdd,.fields cvs,csl2⟩)
  (t3:cvs[11]?=some (.ref Tb))
  (t4:K.lookup Tb=some (PySem.W.tabObj #[]))
  (t5:cvs.getD 18 .none=.str cfile ctf)
  (t6:cvs.getD 7 .none=.int cflags ctg)
  (t7:cvs.getD 9 .none=.bool cinF)
  (t8:cvs.getD 10 .none=.int ctext ctt)
 :∃Tb,K.lookup Tb=some (PySem.W.tabObj #[])/\∃fd:FuncData,(∀(s:Shared) (v:Value),BindsTo s fd ⟨[v],[]⟩ [("_law_script",v)])/\isCodeTable h Tb/\∀base:Heap,(aY K Tb).In base->base.Ns mainGlobals mg->base.BuiltinsAt mg Tb->bj l.prog w (aY K Tb) mg base CX0 8 fa fd ["_law_script"] (spD (aY K Tb) 1 (S_law Tb)):=by
 have T:Txt mg:=⟨PySem.W.mg_none_of X G z_len,PySem.W.mg_none_of X G z_tuple,PySem.W.mg_none_of X G z_reversed,PySem.W.mg_none_of X G z_range,PySem.W.mg_none_of X G z_sum,PySem.W.mg_none_of X G z_sorted,PySem.W.mg_none_of X G z_list,PySem.W.mg_none_of X G z_enumerate,PySem.W.mg_none_of X G z_divmod,PySem.W.mg_none_of X G z_max,PySem.W.mg_none_of X G z_isinstance,PySem.W.mg_none_of X G z_all,PySem.W.mg_none_of X G z_bool,PySem.W.mg_none_of X G z_int⟩;refine⟨Tb,t4,zt X G hfa x40 (fun _ _ _ _ _ _ _=>rfl) t4 t2 t3 fun base hIn hB=>?_⟩;have hC:PySem.W.CodeHd base cc Tb:=zE hIn t4 t2 t3 t5 t6 t7 t8;have y0:=x0.cut t4;have y1:=x1.cut t4;have y2:=x2.cut t4;have y3:=x3.cut t4;have y4:=x4.cut t4;have y5:=x5.cut t4;have y6:=x6.cut t4;have y7:=x7.cut t4;have y8:=x8.cut t4;have y9:=x9.cut t4;have y10:=x10.cut t4;have y11:=x11.cut t4;have y12:=x12.cut t4;have y13:=x13.cut t4;have y14:=x14.cut t4;have y15:=x15.cut t4;have y16:=x16.cut t4;have y17:=x17.cut t4;have y18:=x18.cut t4;have y19:=x19.cut t4;have y20:=x20.cut t4;have y21:=x21.cut t4;have y22:=x22.cut t4;have y23:=x23.cut t4;have y24:=x24.cut t4;have y25:=x25.cut t4;have y26:=x26.cut t4;have y27:=x27.cut t4;have y28:=x28.cut t4;have y29:=x29.cut t4;have y30:=x30.cut t4;have y31:=x31.cut t4;have y32:=x32.cut t4;have y33:=x33.cut t4;have y34:=x34.cut t4;have y35:=x35.cut t4;have y36:=x36.cut t4;have y37:=x37.cut t4;have y38:=x38.cut t4;have y39:=x39.cut t4;have y40:=x40.cut t4;have G5:=fg (K:=aY K Tb) (aN X) G y0 (iV (P:=l.prog) (w:=w) (base:=base) y0.F T ) (bd2 y0.F fun _ _ _ _ _ _ _ _=>rfl);have Y5:=fg (K:=aY K Tb) (aN X) G y1 (kF (P:=l.prog) (w:=w) (base:=base) y1.F T ) (bd1 y1.F fun _ _ _ _ _ _ _=>rfl);have Y0:=fg (K:=aY K Tb) (aN X) G y2 (pN (P:=l.prog) (w:=w) (base:=base) y2.F T ) (bd4 y2.F fun _ _ _ _ _ _ _ _ _ _=>rfl);have G6:=fg (K:=aY K Tb) (aN X) G y3 (jx (P:=l.prog) (w:=w) (base:=base) y3.F T ) (bd2 y3.F fun _ _ _ _ _ _ _ _=>rfl);have ga5:=fg (K:=aY K Tb) (aN X) G y4 (oU (P:=l.prog) (w:=w) (base:=base) y4.F T ) (bd2 y4.F fun _ _ _ _ _ _ _ _=>rfl);have Y6:=fg (K:=aY K Tb) (aN X) G y5 (kJ (P:=l.prog) (w:=w) (base:=base) y5.F T hC hB t1 ) (bd2 y5.F fun _ _ _ _ _ _ _ _=>rfl);have ga0:=fg (K:=aY K Tb) (aN X) G y6 (mv (P:=l.prog) (w:=w) (base:=base) y6.F T ) (bd3 y6.F fun _ _ _ _ _ _ _ _ _=>rfl);have Y8:=fg (K:=aY K Tb) (aN X) G y7 (kn (P:=l.prog) (w:=w) (base:=base) y7.F T ) (bd3 y7.F fun _ _ _ _ _ _ _ _ _=>rfl);have Y2:=fg (K:=aY K Tb) (aN X) G y8 (rE (P:=l.prog) (w:=w) (base:=base) y8.F T ) (bd1 y8.F fun _ _ _ _ _ _ _=>rfl);have G0:=fg (K:=aY K Tb) (aN X) G y9 (vd (P:=l.prog) (w:=w) (base:=base) y9.F T ) (bd2 y9.F fun _ _ _ _ _ _ _ _=>rfl);have G9:=fg (K:=aY K Tb) (aN X) G y10 (rq (P:=l.prog) (w:=w) (base:=base) y10.F T ) (bd2 y10.F fun _ _ _ _ _ _ _ _=>rfl);have Y3:=fg (K:=aY K Tb) (aN X) G y11 (vI (P:=l.prog) (w:=w) (base:=base) y11.F T ) (bd2 y11.F fun _ _ _ _ _ _ _ _=>rfl);have gb8:=fg (K:=aY K Tb) (aN X) G y12 (vO (P:=l.prog) (w:=w) (base:=base) y12.F T ) (bd2 y12.F fun _ _ _ _ _ _ _ _=>rfl);have Y9:=fg (K:=aY K Tb) (aN X) G y13 (oG (P:=l.prog) (w:=w) (base:=base) y13.F T G5) (bd3 y13.F fun _ _ _ _ _ _ _ _ _=>rfl);have Y1:=fg (K:=aY K Tb) (aN X) G y14 (ju (P:=l.prog) (w:=w) (base:=base) y14.F T G5) (bd2 y14.F fun _ _ _ _ _ _ _ _=>rfl);have G2:=fg (K:=aY K Tb) (aN X) G y15 (ij (P:=l.prog) (w:=w) (base:=base) y15.F T Y0) (bd1 y15.F fun _ _ _ _ _ _ _=>rfl);have ga3:=fg (K:=aY K Tb) (aN X) G y16 (oJ (P:=l.prog) (w:=w) (base:=base) y16.F T Y8 Y6 ga0) (bd3 y16.F fun _ _ _ _ _ _ _ _ _=>rfl);have gb7:=fg (K:=aY K Tb) (aN X) G y17 (vN (P:=l.prog) (w:=w) (base:=base) y17.F T Y2) (bd2 y17.F fun _ _ _ _ _ _ _ _=>rfl);have gb3:=fg (K:=aY K Tb) (aN X) G y18 (rS (P:=l.prog) (w:=w) (base:=base) y18.F T G0) (bd1 y18.F fun _ _ _ _ _ _ _=>rfl);have gb2:=fg (K:=aY K Tb) (aN X) G y19 (rZ (P:=l.prog) (w:=w) (base:=base) y19.F T G0) (bd2 y19.F fun _ _ _ _ _ _ _ _=>rfl);have G3:=fg (K:=aY K Tb) (aN X) G y20 (sE (P:=l.prog) (w:=w) (base:=base) y20.F T G9) (bd3 y20.F fun _ _ _ _ _ _ _ _ _=>rfl);have gb4:=fg (K:=aY K Tb) (aN X) G y21 (wY (P:=l.prog) (w:=w) (base:=base) y21.F T G0) (bd4 y21.F fun _ _ _ _ _ _ _ _ _ _=>rfl);have ga2:=fg (K:=aY K Tb) (aN X) G y22 (m4 (P:=l.prog) (w:=w) (base:=base) y22.F T G9) (bd2 y22.F fun _ _ _ _ _ _ _ _=>rfl);have Y7:=fg (K:=aY K Tb) (aN X) G y23 (kG (P:=l.prog) (w:=w) (base:=base) y23.F T Y9) (bd4 y23.F fun _ _ _ _ _ _ _ _ _ _=>rfl);have ga1:=fg (K:=aY K Tb) (aN X) G y24 (lF (P:=l.prog) (w:=w) (base:=base) y24.F T ga5 Y1) (bd3 y24.F fun _ _ _ _ _ _ _ _ _=>rfl);have G1:=fg (K:=aY K Tb) (aN X) G y25 (pC (P:=l.prog) (w:=w) (base:=base) y25.F T G3) (bd3 y25.F fun _ _ _ _ _ _ _ _ _=>rfl);have gb1:=fg (K:=aY K Tb) (aN X) G y26 (rJ (P:=l.prog) (w:=w) (base:=base) y26.F T G3) (bd3 y26.F fun _ _ _ _ _ _ _ _ _=>rfl);have G8:=fg (K:=aY K Tb) (aN X) G y27 (qO (P:=l.prog) (w:=w) (base:=base) y27.F T Y7) (bd3 y27.F fun _ _ _ _ _ _ _ _ _=>rfl);have gb6:=fg (K:=aY K Tb) (aN X) G y28 (vH (P:=l.prog) (w:=w) (base:=base) y28.F T G0 G1 G3) (bd5 y28.F fun _ _ _ _ _ _ _ _ _ _ _=>rfl);have G4:=fg (K:=aY K Tb) (aN X) G y29 (wb (P:=l.prog) (w:=w) (base:=base) y29.F T G3 gb1 G1) (bd3 y29.F fun _ _ _ _ _ _ _ _ _=>rfl);have ga9:=fg (K:=aY K Tb) (aN X) G y30 (rA (P:=l.prog) (w:=w) (base:=base) y30.F T G1) (bd2 y30.F fun _ _ _ _ _ _ _ _=>rfl);have ga6:=fg (K:=aY K Tb) (aN X) G y31 (pX (P:=l.prog) (w:=w) (base:=base) y31.F T G1) (bd3 y31.F fun _ _ _ _ _ _ _ _ _=>rfl);have G7:=fg (K:=aY K Tb) (aN X) G y32 (m6 (P:=l.prog) (w:=w) (base:=base) y32.F T G8) (bd2 y32.F fun _ _ _ _ _ _ _ _=>rfl);have gb9:=fg (K:=aY K Tb) (aN X) G y33 (vg (P:=l.prog) (w:=w) (base:=base) y33.F T gb6 Y3) (bd6 y33.F fun _ _ _ _ _ _ _ _ _ _ _ _=>rfl);have ga7:=fg (K:=aY K Tb) (aN X) G y34 (qN (P:=l.prog) (w:=w) (base:=base) y34.F T Y3 G4) (bd4 y34.F fun _ _ _ _ _ _ _ _ _ _=>rfl);have gb0:=fg (K:=aY K Tb) (aN X) G y35 (rG (P:=l.prog) (w:=w) (base:=base) y35.F T ga2 ga6) (bd3 y35.F fun _ _ _ _ _ _ _ _ _=>rfl);have Y4:=fg (K:=aY K Tb) (aN X) G y36 (kB (P:=l.prog) (w:=w) (base:=base) y36.F T G7 G2 G6 Y0) (bd2 y36.F fun _ _ _ _ _ _ _ _=>rfl);have ga4:=fg (K:=aY K Tb) (aN X) G y37 (oN (P:=l.prog) (w:=w) (base:=base) y37.F T G2 G7 G6 ga1) (bd2 y37.F fun _ _ _ _ _ _ _ _=>rfl);have gb5:=fg (K:=aY K Tb) (aN X) G y38 (uW (P:=l.prog) (w:=w) (base:=base) y38.F T gb4 G0 gb9) (bd3 y38.F fun _ _ _ _ _ _ _ _ _=>rfl);have ga8:=fg (K:=aY K Tb) (aN X) G y39 (rY (P:=l.prog) (w:=w) (base:=base) y39.F T Y4 Y5 ga3 ga4) (bd3 y39.F fun _ _ _ _ _ _ _ _ _=>rfl);exact CP y40.F T gb7 gb3 gb2 gb5 ga8 ga9 gb8 Y2 ga7 gb0
end My
namespace PySem.W.Fast
def tw10002052159749973939:=Nat
def tw10133084673612422089:=Nat
def tw10151008709566191288:=Nat
def tw10357483223176684969:=Nat
def tw10377378186603070096:=Nat
def tw1045818193746236501:=Nat
def tw10542961135862466309:=Nat
def tw10602380893249691299:=Nat
def tw10620853433835273888:=Nat
def tw10694301837001658712:=Nat
def tw10699273508928888361:=Nat
def tw1093873172522772349:=Nat
def tw10973070466169289784:=Nat
def tw11361717571093206264:=Nat
def tw11380980576882238065:=Nat
def tw11465134230876775433:=Nat
def tw11567013115445550447:=Nat
def tw11607192288454449619:=Nat
def tw11901251887755907139:=Nat
def tw11951630850787674601:=Nat
def tw12137773511311348050:=Nat
def tw12345854709076614481:=Nat
def tw12505651615880068836:=Nat
def tw12519190129947280663:=Nat
def tw12571690258831422813:=Nat
def tw12601429935866953765:=Nat
def tw12670542678693322226:=Nat
def tw12707730057070273842:=Nat
def tw12746868530701137791:=Nat
def tw13066136890734476516:=Nat
def tw13139267985328697381:=Nat
def tw13232793144987327371:=Nat
def tw13574481135828724778:=Nat
def tw13633806158797114688:=Nat
def tw13755868402702743877:=Nat
def tw13801082273478686177:=Nat
def tw14053217745969678885:=Nat
def tw14212945758058424315:=Nat
def tw14364102104325809597:=Nat
def tw1441621288301789086:=Nat
def tw14435861330550141532:=Nat
def tw14979511369410653363:=Nat
def tw15214351963676321890:=Nat
def tw1521756772483310034:=Nat
def tw15438843195874897041:=Nat
def tw15684404618125994703:=Nat
def tw15960589818552830651:=Nat
def tw16012580688113247506:=Nat
def tw16027494292004111518:=Nat
def tw16175905969464859372:=Nat
def tw16200301470367884231:=Nat
def tw16224973881366707839:=Nat
def tw16323977324477228964:=Nat
def tw16366923510601436642:=Nat
def tw1644431008305230274:=Nat
def tw16472924998069445882:=Nat
def tw16508928987643738584:=Nat
def tw1651733560071311128:=Nat
def tw16519983615938953866:=Nat
def tw16682040098603208346:=Nat
def tw16696163793365756963:=Nat
def tw1675948130027117330:=Nat
def tw16905915534050589922:=Nat
def tw1708415744957056261:=Nat
def tw17165049912607867450:=Nat
def tw17245878330386243589:=Nat
def tw1724704245066962792:=Nat
def tw17648353473209106695:=Nat
def tw17742414074089851084:=Nat
def tw17745886006124543549:=Nat
def tw17777276548696773701:=Nat
def tw17940562031741456067:=Nat
def tw17940694663936211706:=Nat
def tw17955227645265736084:=Nat
def tw18060816665160327570:=Nat
def tw18096386334087886446:=Nat
def tw18279052248432844216:=Nat
def tw18319920852545742641:=Nat
def tw18356271906837607635:=Nat
def tw1936101508982021828:=Nat
def tw1953207909771506645:=Nat
def tw2058604807508370869:=Nat
def tw2079474545078306140:=Nat
def tw2130326909269052952:=Nat
def tw2541643031279856181:=Nat
def tw2572315489537507094:=Nat
def tw2639246157260599479:=Nat
def tw2641417552099360098:=Nat
def tw2664624332733613755:=Nat
def tw2697126554636053080:=Nat
def tw2740718200713736158:=Nat
def tw2864055511469744396:=Nat
def tw2908914334508126699:=Nat
def tw2971736846461204960:=Nat
def tw3016953566696092912:=Nat
def tw3182256493421686920:=Nat
def tw320312035455697464:=Nat
def tw3268436955293380827:=Nat
def tw3364514542766805713:=Nat
def tw3427792015925236367:=Nat
def tw3771265362530063639:=Nat
def tw3900475924745209576:=Nat
def tw3952175634130026352:=Nat
def tw4103113077676593730:=Nat
def tw4181774499204707408:=Nat
def tw4272238459300732103:=Nat
def tw4617968049759567281:=Nat
def tw4776437472047602146:=Nat
def tw492277156234762445:=Nat
def tw4969807747413958814:=Nat
def tw5158598226018158901:=Nat
def tw5356061310650867273:=Nat
def tw5405696784488580741:=Nat
def tw5462227356380129252:=Nat
def tw5562222324893706479:=Nat
def tw5586627471641688705:=Nat
def tw5668793417858346443:=Nat
def tw5724514513305478507:=Nat
def tw573757416561574301:=Nat
def tw5896181632585049179:=Nat
def tw5941528030023510656:=Nat
def tw6044495099302298126:=Nat
def tw6093038481774625467:=Nat
def tw6180667968290447230:=Nat
def tw6310344079921813132:=Nat
def tw63884027601818691:=Nat
def tw6550524955712581141:=Nat
def tw6953934031747386492:=Nat
def tw7030348686451166050:=Nat
def tw7113802234615396424:=Nat
def tw7138011824337213054:=Nat
def tw7149377800803985445:=Nat
def tw7242095963726740515:=Nat
def tw7436793389788046457:=Nat
def tw7465102143837977839:=Nat
def tw755884411774820669:=Nat
def tw7633140657440643020:=Nat
def tw7691387133371516236:=Nat
def tw7691454708027723981:=Nat
def tw7807347461729871334:=Nat
def tw7961799359810662086:=Nat
def tw8017750740557595278:=Nat
def tw8026270116116469684:=Nat
def tw814639934257950575:=Nat
def tw8167272457499828232:=Nat
def tw8240267680074183884:=Nat
def tw8336870146677167067:=Nat
def tw8431913833314109634:=Nat
def tw844163577529393297:=Nat
def tw8468296318082282446:=Nat
def tw8475778485661451796:=Nat
def tw8528149044843567906:=Nat
def tw85729675859387753:=Nat
def tw8659531678616478382:=Nat
def tw8736387001733503011:=Nat
def tw8876396224214025858:=Nat
def tw8989204255795195143:=Nat
def tw8994225509213990132:=Nat
def tw9081018276361387170:=Nat
def tw9103159025625521030:=Nat
def tw9185397117803676215:=Nat
def tw9302158489601342101:=Nat
def tw9710869832075299989:=Nat
def tw97176432951562345:=Nat
def tw9776563392400349158:=Nat
def tw9900116322378429727:=Nat
def tw9927678924505904782:=Nat
def tw9968032617534445741:=Nat
end PySem.W.Fast
open PySem PySem.W PyProof.Rows
set_option maxRecDepth 100000 in
set_option maxHeartbeats 0 in
theorem PySem.Challenge.cw_wordwishes_k32_whole_rows_that_come_holds : PySem.Challenge.rw_wordwishes_k32_whole_rows_that_come.Holds := by
 w_on;o_law;z_head;(case hw=>w_witness2)
 k_fill
 refine L2.yE (fun _=>rfl) ?_;refine L2.BX (S:=My.S_law) My.Dt (k:=8) (x:="_law_script") (l:=PySem.Challenge.rw_wordwishes_k32_whole_rows_that_come) ⟨rfl,by decide,by decide⟩ rfl rfl (fun w h Y=>Y) ?F
 case F =>
  intro w mg fa h KX G hmg
  refine' My.C8 KX G hmg ?_ ?_ ?_ ?_ ?_ ?_ ?_ ?_ ?_ ?_ ?_ ?_ ?_ ?_ ?_ ?_ ?_ ?_ ?_ ?_ ?_ ?_ ?_ ?_ ?_ ?_ ?_ ?_ ?_ ?_ ?_ ?_ ?_ ?_ ?_ ?_ ?_ ?_ ?_ ?_ ?_ ?_ ?_ ?_ ?_ ?_ ?_ ?_ ?_ ?_ ?_ ?_ ?_ ?_ ?_ ?_ ?_ ?_ ?_ ?_ ?_ ?_ ?_
  all_goals try first|exact L2.DQ (by k_is) (by k_is) (by k_is) (by k_is)|exact L2.wX (by k_is) (by k_is) (by k_is)|k_is|exact rfl
