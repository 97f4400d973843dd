import PyProof.Rows.All
import Wide.All
import OpenK.AllK
import Wide.FinOn
import Lean
import PyProof.EqAt
import PyProof.EqKinds
import PyProof.TupleCall
import KE.KRevIter
import PyProof.NeKinds
import PyProof.Draws
import PyProof.EnumMake
import KE.KSortTup
import PyProof.ZipIter
import KE.KDictList
import PyProof.AttrMissHeap
import KE.KDictOf
import PyProof.Rows.SetFrom
import PyProof.Rows.SortRunsK
import PyProof.IsRules
import PyProof.SetRoads
import KE.KSortKey
import PyProof.RulesDel
import PyProof.DelItemList
import PySem.Challenge.RW_wordwishes_k40_whole_plain_rows_and_draw
set_option Elab.async false
set_option linter.all false
set_option maxRecDepth 100000
set_option maxHeartbeats 4000000
set_option bootstrap.genMatcherCode false
set_option compiler.extract_closed false
noncomputable section
open PySem.W renaming Frag->o0,cellsFrom_some->N7,emptyDict->O8,WData->R3,instObj->U9,keepIn->W5,fnOf->X0
open PySem renaming wpAny_bind->u8,Value->F0,Shared->F1,sizeLine->F3,wpAny_pure->F7,Addr->H0,wpAny->J3,Expr->J4,starEach->J5,NameKind->J7,Builtin->J8,model->K1,Heap->K2,mem_of_lookup->K3,Program->K7,wpAny_mono->K8,wpAny_newObj_type->L5,compareOp->L7,foldedSetIterable->M0,Around->M9,wpAny_callSpecial?_slot->O2,binaryOp->O6,cellsFrom->O7,assignEach->P4,World->P5,Paired->P8,wpAny_field->Q0,wpAny_call_entry->Q8,Scope->R0,wpAny_truthy_bool->R7,wpAny_passesOwn->R8,wpAny_comprehension_free->S1,wpAny_getItem_str_slice->S9,Spec->T4,bootBuiltins->T5,letOwnedTupleGo->T7,sliceBounds->T8,builtinLookup_eq_fast->T9,wpAny_of_eq->U0,sysModules->U1,wpAny_standAt->U3,behindInMarks->V1,FuncData->V2,codeAny->V3,wpAny_loadPart'->V5,eval->V7,backTo->V8,newFunctionEnv->W6,isSubtype_type->W7,wpAny_setField->W8,swapsWith->W9,assign->X1,wpAny_holding->X5,attributeBase->X6,Comprehension->X7,call_meets->X8,wpAny_execs_nil->X9,wpAny_specialOf->Z4,relabel->Z5,post_val_or_str->Z6,typeLookup_type->Z7,firstArgMember->aa0,rawInt->aa1,getItem->aa5,cLine->aa7,tupleKind->aa8,Stmt->ab0,codeAny_mono->ab1,typeIs_int->ab4,mainGlobals->ab7,IsRangeIter->ab8,subscripted->ab9,keywordEach->ac0,Keyword->ac1,pyIter->ac3,IsPart->ac5,valueAt->ac9,wpAny_rule->ad0,pyNext->ad1,Operator->ad2,compEnvC->ad3,standAt->ad4,inplaceOp->ad5,PassesOwn->ad6,Result->ad7
open PySem.Heap renaming get?_push_of_some->F2,lt_size->F4,get?_push_size->F6,SameBut->N6,size_push->P0
open List renaming size_toArray->F5,mem_append_right->J0,replicate->J1,lookup_cons->J6,getElem?_eq_some_iff->K6,mem_cons_of_mem->L3,length_append->L8,getElem?_append_left->L9,mem_cons_self->N0,mem_singleton->N1,mem_cons->N4,map_cons->N5,replicate_succ->O9,any_cons->P1,mem_filterMap->P3,getElem?_map->P6,find?_cons->Q3,getElem?_set_self->Q5,getElem?_append_right->Q6,all_eq_true->Q9,flatten_cons->R9,filterMap_cons->S6,getElem?_replicate->S8,getElem?_set_ne->U4,length_cons->U5,mem_append->V0,nodup_cons->V4,all_cons->V6,range->W0,reverse_cons->W1,append_nil->Z0,length_map->Z1,mem_range->Z8,length->aa4,lookup->ac2,foldl->ac8
open Nat renaming le_refl->F8,lt_of_lt_of_le->F9,ne_of_lt->I0,lt_succ_of_lt->K4,le_trans->L6,lt_irrefl->N8,lt_succ_self->O5,zero_le->P9,ne_of_gt->T6,le_of_succ_le->W3,le_succ->aa6
open Option.some renaming inj->J9
open Bool renaming and_eq_true->K0,false_ne_true->K9,false_eq_true->O4
open PySem.NameKind renaming free->K5,cell->P2
open Option renaming some->L4,isSome_iff_exists->N9,map_some->R6
open PyProof.Rows renaming slot_tuple_getitem->M7,callWith_type1->O1,kindOf->aa3,AllBare->aa9,envOfC->ac4,IsTup->ac7
open PySem.Builtin.Tuple renaming tupleExact->N2
open PySem.SeqAt renaming EqAt->N3
open PySem.Builtin.Range renaming rangeSize->O0
open ForInStep renaming yield->O3
open PySem.Value renaming ref->P7,none->V9,type->ac6
open PySem.F renaming slot_tuple_iterator_next->Q7,slot_int_rmul->Z3
open PySem.Obj renaming data_mapFields->R1
open PySem.Builtin.Slice renaming slicePlaces->R4
open PySem.Builtin.SmallTypes renaming nextOf->R5
open PySem.Builtin.List renaming listTooLong->S0
open PySem.Builtin.Str renaming occurrences->S7
open PySem.Heap.SameBut renaming update->T0
open PySem.Code renaming compLoop->U2
open Array renaming length_toList->U6
open False renaming elim->U7
open PySem.Str renaming ofString->U8
open Pure renaming pure->W4
open PySem.Paired renaming length->X2
open Ne renaming symm->Z9
open True renaming intro->aa2
open PySem.Txt renaming slice->ab2,slice_le->ab3
open Sum renaming inl->ab5,inr->ab6
open LawfulMonad renaming pure_bind->ad8
set_option compiler.extract_closed false
namespace L2
open PySem PySem.Spec PyProof.Rows
abbrev Key:=Sum Int Str
def mX:Key->F0->Bool
 |.inl k,v=>F0.isInt k v
 |.inr x,v=>F0.isStrOf x v
noncomputable def Fy(w:P5):Key->Int
 |.inl k=>hashInt k
 |.inr x=>hashStr w x
theorem bo:∀{k:Key}{v:F0},mX k v=true->(∃i t,k=ab5 i/\v=F0.int i t)∨(∃x t,k=ab6 x/\v=F0.str x t)
 |.inl i,v,h=>by
  obtain⟨t,e⟩:=F0.isInt_shape (k:=i) (v:=v) h;exact .inl ⟨i,t,rfl,e⟩
 |.inr x,v,h=>by
  obtain⟨t,e⟩:=F0.isStrOf_shape (x:=x) (v:=v) h;exact .inr ⟨x,t,rfl,e⟩
theorem uc(i:Int) (t:Tok):mX (.inl i) (.int i t)=true:=by simp[mX,F0.isInt]
theorem ui(x:Str) (t:Tok):mX (.inr x) (.str x t)=true:=by simp[mX,F0.isStrOf]
theorem CV(a b:Int):decide ((ab5 a:Key)=ab5 b)=(a==b):=by
 by_cases e:a=b
 ·subst e;simp
 ·have h:¬ (ab5 a:Key)=ab5 b:=fun q=>e (ab5.inj q);rw[decide_eq_false h];exact(beq_eq_false_iff_ne.mpr e).symm
theorem BS(a b:Str):decide ((ab6 a:Key)=ab6 b)=decide (a=b):=by
 by_cases e:a=b
 ·subst e;simp
 ·have h:¬ (ab6 a:Key)=ab6 b:=fun q=>e (ab6.inj q);rw[decide_eq_false h,decide_eq_false e]
theorem Bs(a:Int) (b:Str):decide ((ab5 a:Key)=ab6 b)=false:=decide_eq_false (fun q=>nomatch q)
theorem Bk(a:Str) (b:Int):decide ((ab6 a:Key)=ab5 b)=false:=decide_eq_false (fun q=>nomatch q)
def bB(prog:K7) (w:P5):PySem.KeyKind prog w Key where
 is:=mX
 hash:=Fy w
 inj:=fun v a b ha hb=>by
  rcases bo ha with⟨i,t,rfl,rfl⟩|⟨x,t,rfl,rfl⟩
  ·rcases bo hb with⟨j,u,rfl,e⟩|⟨y,u,rfl,e⟩
   ·injection e with e1 _;rw[e1]
   ·exact nomatch e
  ·rcases bo hb with⟨j,u,rfl,e⟩|⟨y,u,rfl,e⟩
   ·exact nomatch e
   ·injection e with e1 _;rw[e1]
 byValue:=fun k v h=>by
  rcases bo h with⟨i,t,rfl,rfl⟩|⟨x,t,rfl,rfl⟩<;>rfl
 pyHash:=fun hv h=>by
  rcases bo hv with⟨i,t,rfl,rfl⟩|⟨x,t,rfl,rfl⟩
  ·exact wpAny_pyHash_int h
  ·exact wpAny_pyHash_str h
 eqBool:=fun hu hv h=>by
  rcases bo hu with⟨i,t,rfl,rfl⟩|⟨x,t,rfl,rfl⟩
  ·rcases bo hv with⟨j,u,rfl,rfl⟩|⟨y,u,rfl,rfl⟩
   ·rw[CV]at h;exact wpAny_eqBool_int h
   ·rw[Bs]at h;exact N3.int_str i t y u _ _ _ _ h
  ·rcases bo hv with⟨j,u,rfl,rfl⟩|⟨y,u,rfl,rfl⟩
   ·rw[Bk]at h;exact N3.str_int x t j u _ _ _ _ h
   ·rw[BS]at h;exact wpAny_eqBool_str h
 «strs»:=fun k x t v h=>by
  rcases bo h with⟨i,u,rfl,e⟩|⟨y,u,rfl,e⟩
  ·exact nomatch e
  ·injection e with e1 _
   subst e1;cases v<;>rfl
theorem qv(prog:K7) (w:P5) (i:Int) (t:Tok):(bB prog w).is (.inl i) (.int i t)=true:=uc i t
theorem oR(prog:K7) (w:P5) (x:Str) (t:Tok):(bB prog w).is (.inr x) (.str x t)=true:=ui x t
inductive V where
 |non|bl (b:Bool)|int (i:Int)|str (x:Str)|byt (b:Array UInt8)|flt (b:UInt64)|ref (a:H0)|ty (n:String)
 deriving DecidableEq
def aD:V->F0->Prop
 |.non,u=>u=V9
 |.bl b,u=>u=F0.bool b
 |.int i,u=>∃t,u=F0.int i t
 |.str x,u=>∃t,u=F0.str x t
 |.byt b,u=>∃t,u=F0.bytes b t
 |.flt b,u=>∃t,u=F0.float b t
 |.ref a,u=>u=P7 a
 |.ty n,u=>u=ac6 n
abbrev ao:List V->List F0->Prop:=P8 aD
theorem ao.length{xs:List V}{us:List F0}(r:ao xs us):xs.length=us.length:=X2 r
theorem ao.get:∀{xs:List V}{us:List F0}{i:Nat}{x:V},ao xs us->xs[i]?=some x->∃u,us[i]?=some u/\aD x u
 |_,_,_,_,.nil,e=>by simp at e
 |_,_,0,_,.cons r _,e=>by simp at e;subst e;exact⟨_,rfl,r⟩
 |_,_,i+1,x,.cons _ t,e=>by
  obtain⟨u,h1,h2⟩:=ao.get (i:=i) (x:=x) t (by simpa using e);exact⟨u,by simpa using h1,h2⟩
theorem ao.set{x:V}{u:F0}(r:aD x u):∀{xs:List V}{us:List F0}(i:Nat),ao xs us->ao (xs.set i x) (us.set i u)
 |_,_,_,.nil=>.nil
 |_,_,0,.cons _ t=>.cons r t
 |_,_,i+1,.cons q t=>.cons q (ao.set r i t)
theorem ao.append:∀{xs ys:List V}{us ws:List F0},ao xs us->ao ys ws->ao (xs++ys) (us++ws)
 |_,_,_,_,.nil,s=>s
 |_,_,_,_,.cons r t,s=>.cons r (ao.append t s)
theorem ao.take:∀{xs:List V}{us:List F0}(n:Nat),ao xs us->ao (xs.take n) (us.take n)
 |_,_,0,_=>.nil
 |_,_,_+1,.nil=>.nil
 |_,_,n+1,.cons r t=>.cons r (ao.take n t)
theorem ao.drop:∀{xs:List V}{us:List F0}(n:Nat),ao xs us->ao (xs.drop n) (us.drop n)
 |_,_,0,r=>r
 |_,_,_+1,.nil=>.nil
 |_,_,n+1,.cons _ t=>ao.drop n t
def jD:Option V->Option F0->Prop
 |some v,some u=>aD v u
 |none,none=>True
 |_,_=>False
def KV{κ:Type}:List (κ×V)->List (κ×F0)->Prop:=P8 fun(p:κ×V) (q:κ×F0)=>p.1=q.1/\aD p.2 q.2
def kV:Key->V
 |.inl i=>.int i
 |.inr x=>.str x
inductive HO where
 |lst (xs:List V)
 |tup (xs:List V)
 |dK (kvs:List (Key×V))|dT (kvs:List (List Key×V))
 |set (S:Int->Bool) (n:Nat)
 |ins (C dx:H0) (fs:List (Str×V))
 |own (x:H0)
 |xd (fs:List (Str×V))
 |met (f x:H0)
 |rng (lo hi:Int)
 |frz (o:Obj) (u:HO)
 |tbl (ps:Array F0)
 |ext (φ:K2->Prop)
abbrev Hp:=H0->Option HO
def upd(H:Hp) (a:H0) (o:HO):Hp:=fun b=>if b=a then some o else H b
theorem aA{H:Hp}{a:H0}{o:HO}:upd H a o a=some o:=by unfold upd;rw[if_pos rfl]
theorem aq{H:Hp}{a b:H0}{o:HO}(h:b≠a):upd H a o b=H b:=by unfold upd;rw[if_neg h]
theorem AG{H:Hp}{a b:H0}{o u:HO}(h:H a=some o) (h':H b=some u) (d:o≠u):a≠b:=by
 intro e;subst e;rw[h]at h';exact d (J9 h')
theorem aL{H:Hp}{a b:H0}{o:HO}(h:H a=some o) (h':H b=none):a≠b:=by
 intro e;subst e;rw[h]at h';cases h'
def kH(h:K2) (a:H0) (xs:Array F0):Prop:=∃o,h.get? a=some o/\o.cls=.type "tuple"/\(∃n,o.data=.seq xs n)/\o.dict=none
theorem kH.tup{h:K2}{a:H0}{xs:Array F0}(x:kH h a xs):ac7 h a xs:=let⟨o,e,c,d,_⟩:=x;⟨o,e,c,d⟩
theorem kH.lt{h:K2}{a:H0}{xs:Array F0}(x:kH h a xs):a<h.objs.size:=let⟨_,e,_⟩:=x;F4 e
theorem kH.new(h:K2) (xs:Array F0):kH (h.push { cls:=.type "tuple",data:=.seq xs }) h.objs.size xs:=⟨_,F6 h rfl,rfl,⟨_,rfl⟩,rfl⟩
section
variable(P:K7) (w:P5)
def bh(H:Hp) (h:K2) (a:H0):HO->Prop
 |.lst xs=>xs.length<=F3/\∃(its:List F0) (n:Nat),ao xs its/\h.get? a=some { cls:=.type "list",data:=.seq its.toArray n }
 |.tup xs=>xs.length<=F3/\∃its:List F0,ao xs its/\kH h a its.toArray
 |.dK kvs=>kvs.length<=F3/\(a==U1)=false/\∃vs,KV kvs vs/\h.DictOf (bB P w) a vs
 | .dT kvs => kvs.length ≤ F3 ∧ (a == U1) = false ∧ ∃ xs:List (List Key × H0 × F0),
   P8 (fun(p:List Key×V) (q:List Key×H0×F0)=>p.1=q.1/\H q.2.1=some (.tup (p.1.map kV))/\aD p.2 q.2.2) kvs xs /\
   ∃o es ep,h.get? a=some o/\o.ExactDict/\o.data=.dict es ep/\es.toList=xs.map (entryOfKey (aa8 (bB P w)))/\(xs.map (·.1)).Nodup
 |.set S n=>h.SetOf (intKind P w) a S n
 | .ins C dx fs => H dx = some (.own a) ∧ fs.length ≤ 1000 ∧ dx ≠ a ∧ h.get? a = some (U9 C dx) ∧
   ∃mA,h.Ns1 dx mA/\(∀f,jD (fs.lookup f) (mA f))/\PySem.Within mA (fs.map (·.1))
 |.own _=>∃o,h.get? a=some o
 |.xd fs=>∃mA,h.Ns1 a mA/\∀f,jD (fs.lookup f) (mA f)
 |.rng lo hi=>∃t u v,h.get? a=some { cls:=.type "range",data:=.fields #[.int lo t,.int hi u,.int 1 v] }
 |.frz o u=>h.get? a=some o/\bh H h a u
 |.tbl ps=>h.get? a=some { cls:=.none,data:=.fields ps }
 |.met f x=>h.get? a=some (PySem.W.methodObj (.ref f) (.ref x))
 |.ext φ=>φ h/\(∃o,h.get? a=some o)/\∀h1 h2:K2,φ h1->(∀o,h1.get? a=some o->h2.get? a=some o)->φ h2
def HOk(H:Hp) (h:K2):Prop:=∀a o,H a=some o->bh P w H h a o
end
section
variable{P:K7}{w:P5}{H H':Hp}{h h':K2}{a:H0}{o:HO}
theorem bh.lt(x:bh P w H h a o):a<h.objs.size:=by
 cases o with
 |lst xs=>obtain⟨_,_,_,_,e⟩:=x;exact F4 e
 |tup xs=>obtain⟨_,_,_,p⟩:=x;exact p.lt
 |dK kvs=>obtain⟨_,_,_,_,o,_,_,e,_⟩:=x;exact F4 e
 |dT kvs=>obtain⟨_,_,_,_,o,_,_,e,_⟩:=x;exact F4 e
 |set S n=>obtain⟨o,_,_,_,e,_⟩:=x;exact F4 e
 |ins C dx fs=>obtain⟨_,_,_,e,_⟩:=x;exact F4 e
 |own y=>obtain⟨_,e⟩:=x;exact F4 e
 |xd fs=>obtain⟨_,⟨_,_,_,e,_⟩,_⟩:=x;exact F4 e
 |rng lo hi=>obtain⟨_,_,_,e⟩:=x;exact F4 e
 |frz ob u=>obtain⟨e,_⟩:=x;exact F4 e
 |tbl ps=>exact F4 (show h.get? a=some _ from x)
 |met f y=>exact F4 (show h.get? a=some _ from x)
 |ext φ=>obtain⟨_,⟨_,e⟩,_⟩:=x;exact F4 e
theorem P8.mapP{α β:Type}{F G:α->β->Prop}:∀{l₁:List α}{l₂:List β},P8 F l₁ l₂->(∀a b,F a b->G a b)->P8 G l₁ l₂
 |_,_,.nil,_=>.nil
 |_,_,.cons r t,f=>.cons (f _ _ r) (P8.mapP t f)
theorem P8.imp'{α β:Type}{F G:α->β->Prop}(f:∀a b,F a b->G a b) {l₁:List α}{l₂:List β}(r:P8 F l₁ l₂):P8 G l₁ l₂:=P8.mapP r f
theorem bh.stay(x:bh P w H h a o) (k:∀b u,(b=a∨H b=some (.own a))->h.get? b=some u->h'.get? b=some u)
  (ho:∀b,H b=some (.own a)->H' b=some (.own a)) (ht:∀b xs,H b=some (.tup xs)->H' b=some (.tup xs)):bh P w H' h' a o:=by
 induction o with
 |lst xs=>obtain⟨z,its,n,r,e⟩:=x;exact⟨z,its,n,r,k _ _ (.inl rfl) e⟩
 |tup xs=>obtain⟨z,its,r,ob,e,c⟩:=x;exact⟨z,its,r,ob,k _ _ (.inl rfl) e,c⟩
 |dK kvs=>obtain⟨z,y,vs,r,ob,es,ep,e,c⟩:=x;exact⟨z,y,vs,r,ob,es,ep,k _ _ (.inl rfl) e,c⟩
 |dT kvs =>
  obtain⟨z,y,xs,r,ob,es,ep,e,c⟩:=x;exact⟨z,y,xs,P8.mapP r fun p q z=>⟨z.1,ht _ _ z.2.1,z.2.2⟩,ob,es,ep,k _ _ (.inl rfl) e,c⟩
 |set S n=>obtain⟨ob,es,ep,t,e,c⟩:=x;exact⟨ob,es,ep,t,k _ _ (.inl rfl) e,c⟩
 |ins C dx fs =>
  obtain⟨d,z,ne,e,mA,⟨od,es,ep,e2,c⟩,r⟩:=x;exact⟨ho _ d,z,ne,k _ _ (.inl rfl) e,mA,⟨od,es,ep,k _ _ (.inr d) e2,c⟩,r⟩
 |own y=>obtain⟨ob,e⟩:=x;exact⟨ob,k _ _ (.inl rfl) e⟩
 |xd fs=>obtain⟨mA,⟨od,es,ep,e,c⟩,r⟩:=x;exact⟨mA,⟨od,es,ep,k _ _ (.inl rfl) e,c⟩,r⟩
 |rng lo hi=>obtain⟨t,u,v,e⟩:=x;exact⟨t,u,v,k _ _ (.inl rfl) e⟩
 |frz ob u ih=>obtain⟨e,q⟩:=x;exact⟨k _ _ (.inl rfl) e,ih q⟩
 |tbl ps =>
  have e:h.get? a=some { cls:=.none,data:=.fields ps }:=x;show h'.get? a=some { cls:=.none,data:=.fields ps };exact k a _ (.inl rfl) e
 |met f y =>
  have e:h.get? a=some (PySem.W.methodObj (.ref f) (.ref y)):=x;show h'.get? a=some (PySem.W.methodObj (.ref f) (.ref y));exact k a _ (.inl rfl) e
 |ext φ=>obtain⟨p,⟨o,e⟩,st⟩:=x;exact⟨st _ _ p fun o q=>k _ _ (.inl rfl) q,⟨o,k _ _ (.inl rfl) e⟩,st⟩
theorem HOk.lt(x:HOk P w H h) (e:H a=some o):a<h.objs.size:=(x a o e).lt
theorem HOk.fresh(x:HOk P w H h) (e:h.objs.size<=a):H a=none:=by
 cases q:H a with
 |none=>rfl
 |some u=>exact absurd (F9 (x.lt q) e) (N8 _)
theorem HOk.kept(x:HOk P w H h) (k:∀b u,h.get? b=some u->h'.get? b=some u):HOk P w H h':=fun a o e =>
 (x a o e).stay (fun b u _ q=>k b u q) (fun _ q=>q) fun _ _ q=>q
theorem HOk.laid(x:HOk P w H h) (k:∀b u,h.get? b=some u->h'.get? b=some u) (hp:h.objs.size<=a) (new:bh P w (upd H a o) h' a o):HOk P w (upd H a o) h':=fun b u e=>by
 have hn:=x.fresh hp
 by_cases hb:b=a
 ·subst hb;rw[aA]at e;cases e;exact new
 ·rw[aq hb]at e;exact(x b u e).stay (fun c v _ q=>k c v q) (fun c q=>by rw[aq (aL q hn)];exact q) fun c xs q=>by rw[aq (aL q hn)];exact q
end
def Rd(H:Hp) (a:H0) (u:HO):Prop:=H a=some u∨∃o,H a=some (.frz o u)
theorem Rd.of{H:Hp}{a:H0}{u:HO}(h:H a=some u):Rd H a u:=.inl h
theorem Rd.ok{P:K7}{w:P5}{H:Hp}{h:K2}{a:H0}{u:HO}(r:Rd H a u) (x:HOk P w H h):bh P w H h a u:=by
 rcases r with r|⟨o,r⟩
 ·exact x a u r
 ·obtain⟨_,q⟩:=x a _ r;exact q
def Mut:Option HO->Prop
 |some (.lst _)=>True
 |some (.dK _)=>True
 |some (.dT _)=>True
 |some (.set _ _)=>True
 |some (.ins _ _ _)=>True
 |some (.ext _)=>True
 |_=>False
section
variable{P:K7}{w:P5}{H:Hp}{h h':K2}{x e:H0}{o':HO}
theorem HOk.write(ok:HOk P w H h) (mu:Mut (H x)) (he:e=x∨H e=some (.own x)) (k:∀b u,b≠e->h.get? b=some u->h'.get? b=some u) (heo:∃u,h'.get? e=some u)
  (new:bh P w (upd H x o') h' x o'):HOk P w (upd H x o') h':=fun b u q=>by
 have nown:∀c y,H c=some (.own y)->c≠x:=fun c y r z=>by subst z;rw[r]at mu;exact mu
 have ntup:∀c xs,H c=some (.tup xs)->c≠x:=fun c xs r z=>by subst z;rw[r]at mu;exact mu
 by_cases hb:b=x
 ·subst hb;rw[aA]at q;cases q;exact new
 ·rw[aq hb]at q
  by_cases hbe:b=e
  ·have q':H b=some (.own x):=by
    rcases he with z|z
    ·exact absurd (hbe.trans z) hb
    ·rw[hbe];exact z
   rw[q]at q';cases q';obtain⟨v,hv⟩:=heo;exact⟨v,by rw[hbe];exact hv⟩
  ·refine(ok b u q).stay (fun c v hc r=>k c v ?_ r) (fun c r=>by rw[aq (nown c b r)];exact r) fun c xs r=>by rw[aq (ntup c xs r)];exact r
   rcases hc with rfl|hc
   ·exact hbe
   ·rintro rfl;rcases he with z|z
    ·exact nown c b hc z
    ·rw[hc]at z;cases z;exact hb rfl
end
structure Un(fs ex:List H0) (H H':Hp) (h h':K2):Prop where
 keep:∀b o,h.get? b=some o->H b=none->b∉fs->b∉ex->h'.get? b=some o
 slot:∀b o,h.get? b=some o->H b=none->b∈fs->b∉ex->∃sl,h'.get? b=some { o with slots:=sl }
 free:∀b o,h.get? b=some o->H b=none->b∉ex->H' b=none
 there:∀b o,h.get? b=some o->b∉ex->∃o',h'.get? b=some o'
 tups:∀b xs,H b=some (.tup xs)->H' b=some (.tup xs)
 frzs:∀b o u,H b=some (.frz o u)->H' b=some (.frz o u)
 tbls:∀b ps,H b=some (.tbl ps)->∃more,H' b=some (.tbl (ps++more))
section
variable{fs fs' ex ex':List H0}{H H1 H2:Hp}{h h1 h2 h':K2}{a x e:H0}{o:HO}
theorem Un.any(u:Un fs ex H H1 h h1) {b:H0}{ob:Obj}(q:h.get? b=some ob) (n:H b=none) (hx:b∉ex):∃sl,h1.get? b=some { ob with slots:=sl }:=by
 by_cases hb:b∈fs
 ·exact u.slot b ob q n hb hx
 ·exact⟨ob.slots,u.keep b ob q n hb hx⟩
theorem Un.kept(k:∀b u,h.get? b=some u->h'.get? b=some u):Un fs ex H H h h' :=
 ⟨fun b ob q _ _ _=>k b ob q,fun b ob q _ _ _=>⟨ob.slots,k b ob q⟩,fun _ _ _ n _=>n,fun b ob q _=>⟨ob,k b ob q⟩,fun _ _ q=>q,fun _ _ _ q=>q,fun _ ps q=>⟨#[],by rw[q];simp⟩⟩
theorem Un.refl:Un fs ex H H h h:=Un.kept fun _ _ q=>q
theorem Un.laid(k:∀b u,h.get? b=some u->h'.get? b=some u) (hp:h.objs.size<=a) (hn:H a=none):Un fs ex H (upd H a o) h h' where
 keep:=fun b u q _ _ _=>k b u q
 slot:=fun b u q _ _ _=>⟨u.slots,k b u q⟩
 free:=fun b u q n _=>by rw[aq (I0 (F9 (F4 q) hp))];exact n
 there:=fun b u q _=>⟨u,k b u q⟩
 tups:=fun b xs q=>by rw[aq (aL q hn)];exact q
 frzs:=fun b u xs q=>by rw[aq (aL q hn)];exact q
 tbls:=fun b ps q=>⟨#[],by rw[aq (aL q hn),q];simp⟩
theorem Un.write(mu:Mut (H x)) (he:e=x∨H e=some (.own x)) (k:∀b u,b≠e->h.get? b=some u->h'.get? b=some u) (heo:∃u,h'.get? e=some u):Un fs ex H (upd H x o) h h':=by
 have hx:∀b,H b=none->b≠x:=fun b n z=>by subst z;rw[n]at mu;exact mu
 have hb:∀b,H b=none->b≠e:=fun b n z=>by
  subst z;rcases he with r|r
  ·exact hx b n r
  ·rw[n]at r;cases r
 have hm:∀b u,H b=some u->¬ Mut (some u)->b≠x:=fun b u q nm z=>by subst z;rw[q]at mu;exact nm mu
 refine⟨fun b u q n _ _=>k b u (hb b n) q,fun b u q n _ _=>⟨u.slots,k b u (hb b n) q⟩,fun b u q n _=>by rw[aq (hx b n)];exact n,fun b u q _=>?_,
  fun b xs q=>by rw[aq (hm b _ q fun z=>z)];exact q,fun b u xs q=>by rw[aq (hm b _ q fun z=>z)];exact q,fun b ps q=>⟨#[],by rw[aq (hm b _ q fun z=>z),q];simp⟩⟩
 by_cases hbe:b=e
 ·subst hbe;exact heo
 ·exact⟨u,k b u hbe q⟩
end
def trk(h:K2) (H:Hp):List H0:=(W0 h.objs.size).filter fun a=>(H a).isSome
def mE(h:K2) (H:Hp):K2:=PySem.W.hideAll h (trk h H)
theorem uo(h:K2) (H:Hp):(mE h H).objs.size=h.objs.size:=PySem.W.hideAll_size _ _
theorem wY{h:K2}{H:Hp}{b:H0}{o:Obj}(e:h.get? b=some o) (n:H b=none):(mE h H).get? b=some o :=
 PySem.W.hideAll_get _ e fun hm=>by
  have q:(H b).isSome=true:=(List.mem_filter.mp hm).2;rw[n]at q;simp at q
theorem ya{h:K2}{H:Hp}{b:H0}{o:Obj}(e:(mE h H).get? b=some o):h.get? b=some o/\H b=none:=by
 have e':h.get? b=some o:=PySem.W.of_hideAll (trk h H) e;refine⟨e',?_⟩;cases q:H b with
 |none=>rfl
 |some x =>
  have hm:b∈trk h H:=List.mem_filter.mpr ⟨Z8.mpr (F4 e'),by simp[q]⟩;have z:(mE h H).get? b=none:=PySem.W.hideAll_none (trk h H) hm;rw[z]at e;cases e
noncomputable def jW(g h:K2) (L:H0):List (H0×Obj):=(W0 h.objs.size).filterMap fun a=>if a=L∨(g.get? a).isSome=true then none else(h.get? a).map fun o=>(a,o)
theorem jn{g h:K2}{L a:H0}{o:Obj}(h1:a≠L) (h2:g.get? a=none) (h3:h.get? a=some o):(a,o)∈jW g h L :=
 P3.mpr ⟨a,Z8.mpr (F4 h3),by simp[h1,h2,h3]⟩
theorem gg{g h:K2}{L:H0}{p:H0×Obj}(hp:p∈jW g h L):p.1≠L/\g.get? p.1=none/\h.get? p.1=some p.2:=by
 obtain⟨b,_,e⟩:=P3.mp hp
 split at e
 ·cases e
 ·rename_i hn;cases q:h.get? b with
  |none=>rw[q]at e;simp at e
  |some u =>
   rw[q]at e;simp only[R6,L4.injEq]at e;subst e;refine⟨fun z=>hn (.inl z),?_,q⟩;show g.get? b=none;cases r:g.get? b with
   |none=>rfl
   |some v=>exact(hn (.inr (by simp[r]))).elim
def aK(g h:K2) (L d:H0):List (H0×Obj):=(jW g h L).filter fun p=>decide (p.1≠d)
structure Mod(K:o0) (mg:Str->Option F0) (base:K2):Prop where
 kin:K.In base
 glob:base.Ns ab7 mg
 blt:∃mb,base.Ns builtinsNs mb/\∀x:Str,x≠"__name__"->mb x=T5 x
 nolimit:base.NoLimit
structure Cx where
 prog:K7
 w:P5
 K:o0
 mg:Str->Option F0
 base:K2
 A:M9
 N:List Str
 s₀:F1
 H₀:Hp
 env:Env
 outer:List Env
 stack:List Env
 ex:List H0
 fn:Str->Bool
 calm:Bool
 pn:List (H0×Obj)
 xe:F0->F1->Prop
def frs(l:List Env):List H0:=l.filterMap (·.frame)
abbrev Cx.fs(X:Cx):List H0:=frs X.outer
def Vis(sc:R0) (x:Str):Prop:=sc.names.lookup x=some .local∨sc.names.lookup x=some .cell∨sc.names.lookup x=some .free
def Loc(sc:R0) (x:Str):Prop:=sc.names.lookup x=some .local∨sc.names.lookup x=some .cell
def FB(env:Env) (h:K2) (m:Str->Option F0) (x:Str) (u:F0):Prop :=
 (env.kindOf x=some .local/\m x=some u)∨((env.kindOf x=some .cell∨env.kindOf x=some .free)/\∃c,env.cells.lookup x=some c/\h.IsCell c (some u))
structure Cx.Ok(X:Cx):Prop where
 mod:Mod X.K X.mg X.base
 kind:X.env.scope.kind=.function
 glob:X.env.globals=ab7
 blt:X.env.builtins=builtinsNs
 above:X.s₀.heap.objs.size<=X.env.locals
 inj:∀x y c,X.env.cells.lookup x=some c->X.env.cells.lookup y=some c->x=y
 has:∀x,(X.env.kindOf x=some .cell∨X.env.kindOf x=some .free)->∃c,X.env.cells.lookup x=some c
 cab:∀x c,X.fn x=true->X.env.cells.lookup x=some c->X.s₀.heap.objs.size<=c
 hd:X.calm=true->X.A.handled=none
 frames:X.A.frames=some X.stack
 stk:X.stack=X.outer∨(X.stack=X.env::X.outer/\X.env.frame=some X.env.locals)
 exf:∀b∈X.ex,b≠X.env.locals/\∀x c,X.env.cells.lookup x=some c->c≠b
 bs:∀b o,X.base.get? b=some o->X.s₀.heap.get? b=some o/\X.H₀ b=none
 bsz:X.base.objs.size<=X.s₀.heap.objs.size
 noex:∀b o,X.base.get? b=some o->b∉X.ex
 exfs:∀b∈X.ex,b∉X.fs
 funs:X.s₀.heap.FunFrames X.base X.outer
 frf:∀b∈X.fs,X.H₀ b=none
structure Inv(X:Cx) (aa:List (H0×Obj)) (σ:List (Option V)) (H:Hp) (s:F1):Prop where
 ok:X.Ok
 os:s.os=X.s₀.os
 bare:aa9 s.gens
 base:Un X.fs X.ex X.H₀ H X.s₀.heap s.heap
 loc:∃m,s.heap.Ns X.env.locals m/\∀(i:Nat) (x:Str) (v:V),X.N[i]?=some x->σ[i]?=some (some v)->Vis X.env.scope x->∃u,aD v u/\FB X.env s.heap m x u
 cell:∀x c,X.env.cells.lookup x=some c->∃v,s.heap.IsCell c v
 free:H X.env.locals=none
 freeC:∀x c,X.env.cells.lookup x=some c->H c=none
 pin:∀p∈X.pn++aa,s.heap.get? p.1=some p.2/\H p.1=none/\p.1≠X.env.locals/\p.1∉X.fs/\∀v,p.2.data≠.cell v
 hok:HOk X.prog X.w H s.heap
 len:σ.length=X.N.length
section
variable{X:Cx}{aa:List (H0×Obj)}{σ:List (Option V)}{H H':Hp}{s:F1}{h':K2}
theorem Cx.Ok.nofr(ok:X.Ok) {b:H0}{o:Obj}(e:X.base.get? b=some o):b∉X.fs:=fun hb=>by
 have:=(ok.funs.mem hb).1;rw[e]at this;cases this
theorem Inv.bs(I:Inv X aa σ H s):∀b o,X.base.get? b=some o->s.heap.get? b=some o/\H b=none:=fun b o e =>
 ⟨I.base.keep b o (I.ok.bs b o e).1 (I.ok.bs b o e).2 (I.ok.nofr e) (I.ok.noex b o e),I.base.free b o (I.ok.bs b o e).1 (I.ok.bs b o e).2 (I.ok.noex b o e)⟩
theorem Inv.bk(I:Inv X aa σ H s):∀b o,X.base.get? b=some o->s.heap.get? b=some o:=fun b o e=>(I.bs b o e).1
theorem Inv.mod(I:Inv X aa σ H s):Mod X.K X.mg X.base:=I.ok.mod
theorem Inv.kIn(I:Inv X aa σ H s):X.K.In s.heap:=I.ok.mod.kin.keeps I.bk
theorem Inv.lt(I:Inv X aa σ H s):X.env.locals<s.heap.objs.size:=let⟨_,hn,_⟩:=I.loc;hn.lt
theorem Inv.sz(I:Inv X aa σ H s):X.s₀.heap.objs.size<=s.heap.objs.size:=L6 I.ok.above (Nat.le_of_lt I.lt)
theorem Inv.nofs(I:Inv X aa σ H s) {a:H0}(h:s.heap.objs.size<=a):a∉X.fs:=fun hb=>by
 obtain⟨_,o,ho,_⟩:=I.ok.funs.mem hb;exact absurd (F9 (F4 ho) (L6 I.sz h)) (N8 _)
theorem Inv.cne(I:Inv X aa σ H s):∀x c,X.env.cells.lookup x=some c->c≠X.env.locals:=fun x c e z=>by
 obtain⟨v,o,ho,hd⟩:=I.cell x c e;obtain⟨m,⟨o',es,ep,ho',hd',_⟩,_⟩:=I.loc;rw[z,ho']at ho;cases ho;rw[hd']at hd;cases hd
theorem Inv.funs(I:Inv X aa σ H s):s.heap.FunFrames X.base X.outer:=by
 have all:∀(l:List Env),(∀b∈frs l,b∈X.fs)->X.s₀.heap.FunFrames X.base l->s.heap.FunFrames X.base l:=by
  intro l
  induction l with
  |nil=>intro _ _;trivial
  |cons env r ih =>
   intro hs hl;obtain⟨hk,⟨L,o,hf,hn,ho,hd⟩,hr⟩:=hl;have hL:L∈X.fs:=hs L (by unfold frs;rw[S6,hf];exact N0);obtain⟨sl,e⟩:=I.base.slot L o ho (I.ok.frf L hL) hL fun z=>I.ok.exfs L z hL;exact⟨hk,⟨L,_,hf,hn,e,hd⟩,ih (fun b hb=>hs b (by unfold frs;rw[S6,hf];exact L3 _ hb)) hr⟩
 exact all X.outer (fun _ hb=>hb) I.ok.funs
theorem Inv.stack(I:Inv X aa σ H s):s.heap.FunFrames X.base X.stack:=by
 rcases I.ok.stk with e|⟨e,hf⟩
 ·rw[e];exact I.funs
 ·rw[e];obtain⟨m,hn,_⟩:=I.loc;refine .cons (by rw[I.ok.kind];decide) hf hn ?_ I.funs;exact K2.get?_none_of_le (L6 I.ok.bsz I.ok.above)
theorem Inv.stkSub(I:Inv X aa σ H s):∀b∈frs X.stack,b∈X.env.locals::X.fs:=fun b hb=>by
 rcases I.ok.stk with e|⟨e,hf⟩
 ·rw[e]at hb;exact L3 _ hb
 ·rw[e]at hb;unfold frs at hb;rw[S6,hf]at hb;exact hb
theorem Inv.stkFree(I:Inv X aa σ H s):∀b∈frs X.stack,H b=none:=fun b hb=>by
 rcases N4.mp (I.stkSub b hb)with e|hb
 ·rw[e];exact I.free
 ·obtain⟨_,o,ho,_⟩:=I.ok.funs.mem hb;exact I.base.free b o ho (I.ok.frf b hb) fun z=>I.ok.exfs b z hb
theorem Inv.step{g':Array GenState}{t':Nat}{d':Drawn}{ch:List H0}(I:Inv X aa σ H s)
  (hch:∀b∈ch,(b∈X.ex∨X.s₀.heap.objs.size<=b)/\b≠X.env.locals/\(∀x c,X.env.cells.lookup x=some c->c≠b)/\∀p∈X.pn++aa,p.1≠b)
  (keep:∀b o,b≠X.env.locals->b∉X.fs->b∉ch->s.heap.get? b=some o->H b=none->h'.get? b=some o)
  (slot:∀b o,b≠X.env.locals->b∈X.fs->b∉ch->s.heap.get? b=some o->H b=none->∃sl,h'.get? b=some { o with slots:=sl }) (free:∀b o,b∉ch->s.heap.get? b=some o->H b=none->H' b=none)
  (there:∀b o,b∉ch->s.heap.get? b=some o->∃o',h'.get? b=some o')
  (tups:∀b xs,H b=some (.tup xs)->H' b=some (.tup xs)) (frzs:∀b o u,H b=some (.frz o u)->H' b=some (.frz o u)) (tbls:∀b ps,H b=some (.tbl ps)->∃more,H' b=some (.tbl (ps++more)))
  (ns:∀m,s.heap.Ns X.env.locals m->h'.Ns X.env.locals m) (hok:HOk X.prog X.w H' h') (hg:aa9 g') :
  Inv X aa σ H' { s with heap:=h',gens:=g',drawn:=d',toks:=t' }:=by
 have neL:∀b o,X.s₀.heap.get? b=some o->b≠X.env.locals:=fun b o e=>I0 (F9 (F4 e) I.ok.above);have neC:∀b o,X.s₀.heap.get? b=some o->b∉X.ex->b∉ch:=fun b o e hx hb=>by
  rcases(hch b hb).1 with z|z
  ·exact hx z
  ·exact absurd (F9 (F4 e) z) (N8 _)
 have cellK:∀x c,X.env.cells.lookup x=some c->∀v,s.heap.IsCell c v->h'.IsCell c v:=fun x c e v ⟨o,ho,hd⟩=>by
  have nch:c∉ch:=fun z=>(hch c z).2.2.1 x c e rfl
  by_cases hc:c∈X.fs
  ·obtain⟨sl,q⟩:=slot c o (I.cne x c e) hc nch ho (I.freeC x c e);exact⟨_,q,hd⟩
  ·exact⟨o,keep c o (I.cne x c e) hc nch ho (I.freeC x c e),hd⟩
 refine⟨I.ok,I.os,hg,⟨fun b o e n hb hx=>?_,fun b o e n hb hx=>?_,fun b o e n hx=>?_,fun b o e hx=>?_,fun b xs e=>tups b xs (I.base.tups b xs e),fun b o xs e=>frzs b o xs (I.base.frzs b o xs e),fun b ps e=>?_⟩,?_,fun x c e=>?_,?_,fun x c e=>?_,fun p hp=>?_,hok,I.len⟩
 ·exact keep b o (neL b o e) hb (neC b o e hx) (I.base.keep b o e n hb hx) (I.base.free b o e n hx)
 ·obtain⟨sl,e1⟩:=I.base.slot b o e n hb hx;obtain⟨sl',e2⟩:=slot b _ (neL b o e) hb (neC b o e hx) e1 (I.base.free b o e n hx);exact⟨sl',e2⟩
 ·obtain⟨o',e1⟩:=I.base.there b o e hx;exact free b o' (neC b o e hx) e1 (I.base.free b o e n hx)
 ·obtain⟨o',e1⟩:=I.base.there b o e hx;exact there b o' (neC b o e hx) e1
 ·obtain⟨m1,e1⟩:=I.base.tbls b ps e;obtain⟨m2,e2⟩:=tbls b _ e1;exact⟨m1++m2,by rw[e2,Array.append_assoc]⟩
 ·obtain⟨m,hn,hl⟩:=I.loc;refine⟨m,ns m hn,fun i x v e1 e2 e3=>?_⟩;obtain⟨u,r,l⟩:=hl i x v e1 e2 e3;refine⟨u,r,?_⟩;rcases l with l|⟨k,c,e,z⟩
  ·exact .inl l
  ·exact .inr ⟨k,c,e,cellK x c e _ z⟩
 ·obtain⟨v,z⟩:=I.cell x c e;exact⟨v,cellK x c e v z⟩
 ·obtain⟨m,⟨o,_,_,ho,_⟩,_⟩:=I.loc;exact free _ o (fun z=>(hch _ z).2.1 rfl) ho I.free
 ·obtain⟨v,o,ho,hd⟩:=I.cell x c e;exact free c o (fun z=>(hch c z).2.2.1 x c e rfl) ho (I.freeC x c e)
 ·obtain⟨e,n,ne,nf,d⟩:=I.pin p hp;have nch:p.1∉ch:=fun z=>(hch p.1 z).2.2.2 p hp rfl;exact⟨keep p.1 p.2 ne nf nch e n,free p.1 p.2 nch e n,ne,nf,d⟩
theorem Inv.un{t':Nat}(I:Inv X aa σ H s) (u:Un X.fs [] H H' s.heap h') (hok:HOk X.prog X.w H' h'):Inv X aa σ H' { s with heap:=h',toks:=t' }:=by
 obtain⟨m,⟨o,es,ep,ho,r⟩,_⟩:=id I.loc;obtain⟨sl,hL⟩:=u.any ho I.free (by simp);exact I.step (g':=s.gens) (d':=s.drawn) (ch:=[]) (fun _ z=>nomatch z) (fun b o _ hb _ e n=>u.keep b o e n hb (by simp)) (fun b o _ hb _ e n=>u.slot b o e n hb (by simp)) (fun b o _ e n=>u.free b o e n (by simp)) (fun b o _ e=>u.there b o e (by simp)) u.tups u.frzs u.tbls (fun m' hm=>by
  obtain⟨o',es',ep',ho',r'⟩:=hm;rw[ho]at ho';cases ho';exact⟨_,es',ep',hL,r'⟩) hok I.bare
theorem Inv.call{g':Array GenState}{t':Nat}{d':Drawn}{ch:List H0}(I:Inv X aa σ H s) (u:Un (frs X.stack) ch H H' s.heap h') (hok:HOk X.prog X.w H' h') (hg:aa9 g')
  (hch:∀b∈ch,(b∈X.ex∨X.s₀.heap.objs.size<=b)/\b≠X.env.locals/\(∀x c,X.env.cells.lookup x=some c->c≠b)/\∀p∈X.pn++aa,p.1≠b) :
  Inv X aa σ H' { s with heap:=h',gens:=g',drawn:=d',toks:=t' }:=by
 obtain⟨m,⟨o,es,ep,ho,r⟩,_⟩:=id I.loc;obtain⟨sl,hL⟩:=u.any ho I.free fun z=>(hch _ z).2.1 rfl;exact I.step (ch:=ch) hch (fun b o hL hb hc e n=>u.keep b o e n (fun z=>(N4.mp (I.stkSub b z)).elim hL hb) hc) (fun b o _ _ hc e n=>u.any e n hc) (fun b o hc e n=>u.free b o e n hc) (fun b o hc e=>u.there b o e hc) u.tups u.frzs u.tbls (fun m' hm=>by
  obtain⟨o',es',ep',ho',r'⟩:=hm;rw[ho]at ho';cases ho';exact⟨_,es',ep',hL,r'⟩) hok hg
theorem Inv.turned{t':Nat}{it:H0}(I:Inv X aa σ H s) (k:∀b o,b≠it->s.heap.get? b=some o->h'.get? b=some o) (hn:H it=none) (hL:it≠X.env.locals)
  (h1:it∈X.ex∨X.s₀.heap.objs.size<=it) (h2:∀x c,X.env.cells.lookup x=some c->c≠it) (h3:∀p∈X.pn++aa,p.1≠it):Inv X aa σ H { s with heap:=h',toks:=t' }:=by
 have nit:∀b u,H b=some u->b≠it:=fun b u e z=>by rw[z,hn]at e;cases e
 refine I.step (g':=s.gens) (d':=s.drawn) (ch:=[it]) (fun b hb=>?_) (fun b o _ _ hc e _=>k b o (fun z=>hc (by simp[z])) e) (fun b o _ _ hc e _=>⟨o.slots,k b o (fun z=>hc (by simp[z])) e⟩) (fun _ _ _ _ n=>n)
  (fun b o hc e=>⟨o,k b o (fun z=>hc (by simp[z])) e⟩) (fun _ _ e=>e) (fun _ _ _ e=>e) (fun b ps e=>⟨#[],by rw[e];simp⟩) (fun m hm=>?_) (fun b u e=>?_) I.bare
 ·have e:b=it:=by simpa using hb
  subst e;exact⟨h1,hL,h2,h3⟩
 ·obtain⟨o,es,ep,ho,r⟩:=hm;exact⟨o,es,ep,k _ o (Z9 hL) ho,r⟩
 ·refine(I.hok b u e).stay (fun c v hc q=>k c v ?_ q) (fun _ q=>q) fun _ _ q=>q;rcases hc with z|z
  ·rw[z];exact nit b u e
  ·exact nit c _ z
theorem Inv.tok(I:Inv X aa σ H s) (t:Nat):Inv X aa σ H { s with toks:=t }:=I.un (h':=s.heap) (t':=t) Un.refl I.hok
theorem Inv.kept{t':Nat}(I:Inv X aa σ H s) (k:∀b u,s.heap.get? b=some u->h'.get? b=some u):Inv X aa σ H { s with heap:=h',toks:=t' }:=I.un (Un.kept k) (I.hok.kept k)
theorem Inv.laid{a:H0}{o:HO}{t':Nat}(I:Inv X aa σ H s) (k:∀b u,s.heap.get? b=some u->h'.get? b=some u) (hp:s.heap.objs.size<=a) (new:bh X.prog X.w (upd H a o) h' a o) :
  Inv X aa σ (upd H a o) { s with heap:=h',toks:=t' }:=I.un (Un.laid k hp (I.hok.fresh hp)) (I.hok.laid k hp new)
theorem Inv.write{x e:H0}{o:HO}{t':Nat}(I:Inv X aa σ H s) (mu:Mut (H x)) (he:e=x∨H e=some (.own x)) (k:∀b u,b≠e->s.heap.get? b=some u->h'.get? b=some u) (heo:∃u,h'.get? e=some u)
  (new:bh X.prog X.w (upd H x o) h' x o):Inv X aa σ (upd H x o) { s with heap:=h',toks:=t' }:=I.un (Un.write mu he k heo) (I.hok.write mu he k heo new)
theorem Inv.pins_of{pins':List (H0×Obj)}(I:Inv X aa σ H s) (h:∀p∈pins',s.heap.get? p.1=some p.2/\H p.1=none/\p.1≠X.env.locals/\p.1∉X.fs/\∀v,p.2.data≠.cell v):Inv X pins' σ H s :=
 ⟨I.ok,I.os,I.bare,I.base,I.loc,I.cell,I.free,I.freeC,fun p hp=>(V0.mp hp).elim (fun z=>I.pin p (List.mem_append_left _ z)) (h p),I.hok,I.len⟩
theorem pG{N:List Str}(hN:N.Nodup) {i j:Nat}{x:Str}(a:N[i]?=some x) (b:N[j]?=some x):i=j:=by
 obtain⟨h1,e1⟩:=K6.mp a;obtain⟨h2,e2⟩:=K6.mp b;exact(List.getElem_inj hN).mp (e1.trans e2.symm)
theorem i8{M:Model}{A:M9}{E:F0->F1->Prop}{i:Nat}{x:Str}{v:V}{u:F0}{Q:Unit->F1->Prop}(I:Inv X aa σ H s) (hN:X.N.Nodup) (hi:X.N[i]?=some x) (hx:Loc X.env.scope x) (r:aD v u)
  (h:∀s',Inv X aa (σ.set i (some v)) H s'->(∃a,N6 a s.heap s'.heap/\(a=X.env.locals∨X.env.cells.lookup x=some a))->Q () s') (hf:X.fn x=true∨X.env.scope.names.lookup x=some .local:=by first|exact .inl rfl|exact .inr rfl|assumption):J3 M A (storeName X.env x u) Q E s:=by
 obtain⟨m,hn,hl⟩:=id I.loc;have hcls:(X.env.scope.kind==.class || (X.env.scope.kind==.module&&X.env.locals != X.env.globals))=false:=by rw[I.ok.kind];rfl
 have hiσ:i<σ.length:=by rw[I.len];exact(K6.mp hi).1
 have cne:=I.cne;have tracked:∀{a:H0} {h':K2},(∃o,s.heap.get? a=some o/\H a=none)->N6 a s.heap h'->HOk X.prog X.w H h':=fun {a h'} ha hs b ob e=>by
  obtain⟨_,_,hfree⟩:=ha;refine(I.hok b ob e).stay (fun c w' hc q=>(hs.2 c ?_).trans q) (fun _ q=>q) fun _ _ q=>q;rintro rfl;rcases hc with rfl|hc
  ·rw[hfree]at e;cases e
  ·rw[hfree]at hc;cases hc
 rcases hx with hk|hk
 ·refine wpAny_storeName_local hk hn (fun h' hn' hs=>?_) hcls;obtain⟨oL,_,_,hoL,_⟩:=id hn;refine h _ ⟨I.ok,I.os,I.bare,⟨fun b o e n hb hx=>?_,fun b o e n hb hx=>?_,I.base.free,fun b o e hx=>?_,I.base.tups,I.base.frzs,I.base.tbls⟩,⟨_,hn',fun j y v' e1 e2 e3=>?_⟩,fun y c e=>?_,I.free,I.freeC,fun p hp=>?_,tracked ⟨oL,hoL,I.free⟩ hs,by simpa using I.len⟩ ⟨_,hs,.inl rfl⟩
  ·exact(hs.2 b (I0 (F9 (F4 e) I.ok.above))).trans (I.base.keep b o e n hb hx)
  ·obtain⟨sl,e1⟩:=I.base.slot b o e n hb hx;exact⟨sl,(hs.2 b (I0 (F9 (F4 e) I.ok.above))).trans e1⟩
  ·obtain⟨o',e1⟩:=I.base.there b o e hx;exact⟨o',(hs.2 b (I0 (F9 (F4 e) I.ok.above))).trans e1⟩
  ·by_cases hj:j=i
   ·subst hj;rw[hi]at e1;cases e1;rw[Q5 hiσ]at e2;cases e2;exact⟨u,r,.inl ⟨hk,by simp⟩⟩
   ·rw[U4 (Z9 hj)]at e2;obtain⟨u',r',q⟩:=hl j y v' e1 e2 e3;refine⟨u',r',?_⟩;rcases q with⟨k,e⟩|⟨k,c,e,z⟩
    ·refine .inl ⟨k,?_⟩;have:y≠x:=fun e=>hj (pG hN e1 (e▸hi));simp[this,e]
    ·exact .inr ⟨k,c,e,z.sameBut hs (cne y c e)⟩
  ·obtain⟨w',z⟩:=I.cell y c e;exact⟨w',z.sameBut hs (cne y c e)⟩
  ·obtain⟨e,n,ne,nf,d⟩:=I.pin p hp;exact⟨(hs.2 p.1 ne).trans e,n,ne,nf,d⟩
 ·have hfn:X.fn x=true:=by
   rcases hf with z|z
   ·exact z
   ·rw[z]at hk;cases hk
  obtain⟨c,hc⟩:=I.ok.has x (.inl hk);obtain⟨w',z⟩:=I.cell x c hc;refine wpAny_storeName_cell I.ok.kind hk hc z (fun h' hc' hs=>?_);obtain⟨oc,hoc,hocd⟩:=id z;refine h { s with heap:=h' } ⟨I.ok,I.os,I.bare,⟨fun b o e n hb hx=>?_,fun b o e n hb hx=>?_,I.base.free,fun b o e hx=>?_,I.base.tups,I.base.frzs,I.base.tbls⟩,⟨m,hn.sameBut hs (Z9 (cne x c hc)),fun j y v' e1 e2 e3=>?_⟩,fun y c' e=>?_,I.free,I.freeC,fun p hp=>?_,tracked ⟨oc,hoc,I.freeC x c hc⟩ hs,by simpa using I.len⟩ ⟨c,hs,.inr hc⟩
  ·exact(hs.2 b (I0 (F9 (F4 e) (I.ok.cab x c hfn hc)))).trans (I.base.keep b o e n hb hx)
  ·obtain⟨sl,e1⟩:=I.base.slot b o e n hb hx;exact⟨sl,(hs.2 b (I0 (F9 (F4 e) (I.ok.cab x c hfn hc)))).trans e1⟩
  ·obtain⟨o',e1⟩:=I.base.there b o e hx;exact⟨o',(hs.2 b (I0 (F9 (F4 e) (I.ok.cab x c hfn hc)))).trans e1⟩
  ·by_cases hj:j=i
   ·subst hj;rw[hi]at e1;cases e1;rw[Q5 hiσ]at e2;cases e2;exact⟨u,r,.inr ⟨.inl hk,c,hc,hc'⟩⟩
   ·rw[U4 (Z9 hj)]at e2;obtain⟨u',r',q⟩:=hl j y v' e1 e2 e3;refine⟨u',r',?_⟩;rcases q with q|⟨k,c',e,z'⟩
    ·exact .inl q
    ·refine .inr ⟨k,c',e,z'.sameBut hs ?_⟩;rintro rfl;exact hj (pG hN e1 (I.ok.inj _ _ _ e hc▸hi))
  ·by_cases hcc:c'=c
   ·subst hcc;exact⟨_,hc'⟩
   ·obtain⟨w2,z2⟩:=I.cell y c' e;exact⟨w2,z2.sameBut hs hcc⟩
  ·obtain⟨e,n,ne,nf,d⟩:=I.pin p hp;refine⟨(hs.2 p.1 ?_).trans e,n,ne,nf,d⟩;intro q;rw[q,hoc]at e;have q':oc=p.2:=J9 e;exact d w' (by rw[<-q'];exact hocd)
theorem lM{M:Model}{A:M9}{E:F0->F1->Prop}{i:Nat}{x:Str}{v:V}{u:F0}{Q:Unit->F1->Prop}(I:Inv X aa σ H s) (hN:X.N.Nodup) (hi:X.N[i]?=some x) (hx:Loc X.env.scope x) (r:aD v u)
  (h:∀s',Inv X aa (σ.set i (some v)) H s'->Q () s') (hf:X.fn x=true∨X.env.scope.names.lookup x=some .local:=by first|exact .inl rfl|exact .inr rfl|assumption):J3 M A (storeName X.env x u) Q E s :=
 i8 I hN hi hx r (fun s' I' _=>h s' I') hf
theorem Inv.call'{s':F1}{ch:List H0}(I:Inv X aa σ H s) (ho:s'.os=s.os) (u:Un (frs X.stack) ch H H' s.heap s'.heap) (hok:HOk X.prog X.w H' s'.heap) (hg:aa9 s'.gens)
  (hch:∀b∈ch,(b∈X.ex∨X.s₀.heap.objs.size<=b)/\b≠X.env.locals/\(∀x c,X.env.cells.lookup x=some c->c≠b)/\∀p∈X.pn++aa,p.1≠b):Inv X aa σ H' s':=by
 obtain⟨h',g',d',t',o'⟩:=s';have e:o'=s.os:=ho;subst e;exact I.call (g':=g') (t':=t') (d':=d') u hok hg hch
end
abbrev XK:=F0->Option H0->Hp->Prop
noncomputable abbrev St:=List (Option V)
abbrev VK:=V->Hp->Prop
abbrev TE:=St->Hp->VK->Prop
abbrev TT:=St->Hp->(Bool->Hp->Prop)->Prop
abbrev TA:=St->Hp->(List V->Hp->Prop)->Prop
structure qm where
 nx:St->Hp->Prop
 rt:VK
 bk:St->Hp->Prop:=fun _ _=>False
 ct:St->Hp->Prop:=fun _ _=>False
abbrev TS:=qm->St->Hp->Prop
def EP(X:Cx) (aa:List (H0×Obj)) (σ:St) (Q:VK) (u:F0) (s':F1):Prop:=∃v H',Inv X aa σ H' s'/\aD v u/\Q v H'
def TP(X:Cx) (aa:List (H0×Obj)) (σ:St) (Q:Bool->Hp->Prop) (b:Bool) (s':F1):Prop:=∃H',Inv X aa σ H' s'/\Q b H'
def AP(X:Cx) (aa:List (H0×Obj)) (σ:St) (Q:List V->Hp->Prop) (us:List F0) (s':F1):Prop:=∃vs H',Inv X aa σ H' s'/\ao vs us/\Q vs H'
theorem EP.el{X:Cx}{aa:List (H0×Obj)}{σ:St}{Q:VK}{u:F0}{s:F1}{P:Prop}(h:EP X aa σ Q u s) (f:∀(v:V) (H:Hp),Inv X aa σ H s->aD v u->Q v H->P):P:=by
 obtain⟨x1,x2,a,b,c⟩:=h;exact f x1 x2 a b c
theorem AP.el{X:Cx}{aa:List (H0×Obj)}{σ:St}{Q:List V->Hp->Prop}{u:List F0}{s:F1}{P:Prop}(h:AP X aa σ Q u s) (f:∀(v:List V) (H:Hp),Inv X aa σ H s->ao v u->Q v H->P):P:=by
 obtain⟨x1,x2,a,b,c⟩:=h;exact f x1 x2 a b c
theorem TP.el{X:Cx}{aa:List (H0×Obj)}{σ:St}{Q:Bool->Hp->Prop}{u:Bool}{s:F1}{P:Prop}(h:TP X aa σ Q u s) (f:∀(H:Hp),Inv X aa σ H s->Q u H->P):P:=by
 obtain⟨x1,a,b⟩:=h;exact f x1 a b
def SP(X:Cx) (aa:List (H0×Obj)) (D:qm) (f:Flow) (s':F1):Prop :=
 match f with
 |.next=>∃ σ' H',Inv X aa σ' H' s'/\D.nx σ' H'
 |.brk=>∃ σ' H',Inv X aa σ' H' s'/\D.bk σ' H'
 |.cont=>∃ σ' H',Inv X aa σ' H' s'/\D.ct σ' H'
 |.ret u=>∃v σ' H',Inv X aa σ' H' s'/\aD v u/\D.rt v H'
def PE(X:Cx) (e:J4) (t:TE):Prop :=
 ∀(aa:List (H0×Obj)) (s:F1) (σ:St) (H:Hp) (Q:VK),Inv X aa σ H s->t σ H Q->J3 (K1 X.prog X.w) X.A (V7 e X.env) (EP X aa σ Q) X.xe s
def PT(X:Cx) (e:J4) (t:TT):Prop :=
 ∀(aa:List (H0×Obj)) (s:F1) (σ:St) (H:Hp) (Q:Bool->Hp->Prop),Inv X aa σ H s->t σ H Q->J3 (K1 X.prog X.w) X.A (isTrue e X.env (V7 e X.env)) (TP X aa σ Q) X.xe s
def PW(X:Cx) (e:J4) (t:TT):Prop :=
 ∀(whole:Sem F0) (aa:List (H0×Obj)) (s:F1) (σ:St) (H:Hp) (Q:Bool->Hp->Prop),Inv X aa σ H s->t σ H Q->J3 (K1 X.prog X.w) X.A (isTrue e X.env whole) (TP X aa σ Q) X.xe s
theorem PW.pt{X:Cx}{e:J4}{t:TT}(h:PW X e t):PT X e t:=h _
def PA(X:Cx) (es:List J4) (t:TA):Prop :=
 ∀(pos:Pos) (aa:List (H0×Obj)) (s:F1) (σ:St) (H:Hp) (Q:List V->Hp->Prop),Inv X aa σ H s->t σ H Q->J3 (K1 X.prog X.w) X.A (spliced (V8 pos (J5 es X.env))) (AP X aa σ Q) X.xe s
def PS(X:Cx) (st:ab0) (t:TS):Prop :=
 ∀(aa:List (H0×Obj)) (s:F1) (σ:St) (H:Hp) (D:qm),Inv X aa σ H s->t D σ H->J3 (K1 X.prog X.w) X.A (exec st X.env) (SP X aa D) X.xe s
def PSs(X:Cx) (st:List ab0) (t:TS):Prop :=
 ∀(aa:List (H0×Obj)) (s:F1) (σ:St) (H:Hp) (D:qm),Inv X aa σ H s->t D σ H->J3 (K1 X.prog X.w) X.A (execs st X.env) (SP X aa D) X.xe s
theorem thn{α:Type}{t:Sem α}{Q Q':α->F1->Prop}{M:Model}{A:M9}{E:F0->F1->Prop}{s:F1}(h:J3 M A t Q E s) (hQ:∀a s,Q a s->Q' a s):J3 M A t Q' E s:=K8 h hQ fun _ _ x=>x
section
variable{X:Cx}
def FF(i:Nat):TE:=fun σ H Q=>∃v,σ[i]?=some (some v)/\Q v H
def tC(v:V):TE:=fun _ H Q=>Q v H
theorem Bj{i:Nat}{x:Str}{pos:Pos}(hN:X.N[i]?=some x) (hv:Vis X.env.scope x) (hd:(x==("__debug__":Str))=false:=by decide) (hcd:(x==("__classdict__":Str))=false:=by decide):PE X (.Name x pos) (FF i):=by
 intro aa s σ H Q I h;obtain⟨v,e,h⟩:=h;obtain⟨m,hn,hl⟩:=I.loc;obtain⟨u,r,l⟩:=hl i x v hN e hv;have fin:EP X aa σ Q u s:=⟨v,H,I,r,h⟩;rcases l with⟨hk,hm⟩|⟨hk,c,hc,hcell⟩
 ·exact wpAny_Name (wpAny_loadName_local I.ok.kind hk hn hm fin) hd
 ·rcases hk with hk|hk
  ·exact wpAny_Name (wpAny_loadName_cell I.ok.kind hk hc hcell fin) hd
  ·exact wpAny_Name (wpAny_loadName_free I.ok.kind hk hc hcell fin hcd) hd
theorem Be{i j pos}:PE X (.Constant (.int i) j pos) (tC (.int i)):=fun _ _ _ H _ I h=>wpAny_Constant_int ⟨.int i,H,I.tok _,⟨_,rfl⟩,h⟩
theorem D5{b j pos}:PE X (.Constant (.bool b) j pos) (tC (.bl b)):=fun _ _ _ H _ I h=>Constant_bool ⟨.bl b,H,I,rfl,h⟩
theorem CA{j pos}:PE X (.Constant .none j pos) (tC .non):=fun _ _ _ H _ I h=>Constant_none ⟨.non,H,I,rfl,h⟩
theorem Bv{x j pos}:PE X (.Constant (.str x) j pos) (tC (.str x)):=fun _ _ _ H _ I h=>Calls.Constant_str ⟨.str x,H,I.tok _,⟨_,rfl⟩,h⟩
def Gl(X:Cx) (x:Str):Prop:=X.env.kindOf x=some .globalImplicit
theorem zM{E:F0->F1->Prop}{aa:List (H0×Obj)}{s:F1}{σ:St}{H:Hp}{x:Str}{u:F0}{pos:Pos}{Q:F0->F1->Prop}(I:Inv X aa σ H s) (hg:Gl X x) (hm:X.mg x=some u) (h:Q u s)
  (hd:(x==("__debug__":Str))=false:=by decide):J3 (K1 X.prog X.w) X.A (V7 (.Name x pos) X.env) Q E s :=
 Calls.Name_function_global I.ok.kind hg (Calls.loadGlobal_global (by rw[I.ok.glob];exact I.mod.glob.keeps I.bk) hm h) hd
theorem di{E:F0->F1->Prop}{aa:List (H0×Obj)}{s:F1}{σ:St}{H:Hp}{x:Str}{u:F0}{pos:Pos}{Q:F0->F1->Prop}(I:Inv X aa σ H s) (hg:Gl X x) (hm:X.mg x=none) (hv:T5 x=some u) (h:Q u s)
  (hn:x≠"__name__":=by decide) (hd:(x==("__debug__":Str))=false:=by decide):J3 (K1 X.prog X.w) X.A (V7 (.Name x pos) X.env) Q E s:=by
 obtain⟨mb,h1,h2⟩:=I.mod.blt;exact Calls.Name_function_global I.ok.kind hg (Calls.loadGlobal_builtin (by rw[I.ok.glob];exact I.mod.glob.keeps I.bk) hm (by rw[I.ok.blt];exact h1.keeps I.bk) ((h2 x hn).trans hv) h) hd
variable{a b:J4}{ta tb:TE}{pos:Pos}
theorem vh(b:J4) {op:CmpOp}(h:op≠.In) (h2:op≠.NotIn):V1 op b=false:=by
 have e1:(op==CmpOp.In)=false:=by cases op<;>first|rfl|exact absurd rfl h
 have e2:(op==CmpOp.NotIn)=false:=by cases op<;>first|rfl|exact absurd rfl h2
 cases b<;>simp[V1,e1,e2]
def tB(t:TE):TT:=fun σ H Q=>t σ H fun x H1=>∃c,x=.bl c/\Q c H1
theorem CZ{e:J4}{t:TE}(h:PE X e t) (he:∀whole,isTrue e X.env whole=(do let v <-whole;ad4 e.pos;holding [v] (truthy v)):=by intro _;rfl):PT X e (tB t):=by
 intro aa s σ H Q I hw;refine isTrue_plain (thn (h aa s σ H _ I hw) fun v s1 hup=>hup.el fun x H1 I1 r1 q1=>?_) (he _);obtain⟨d,rfl,q⟩:=q1;cases r1;exact R7 ⟨H1,I1,q⟩
variable{tA tB':TT}{aK:List J4}
def FO(t u:TT):TT:=fun σ H Q=>t σ H fun c H1=>if c=true then u σ H1 Q else Q false H1
def tOr(t u:TT):TT:=fun σ H Q=>t σ H fun c H1=>if c=true then Q true H1 else u σ H1 Q
def FS(t:TT):TT:=fun σ H Q=>t σ H fun c H1=>Q (!c) H1
theorem yM(ha:PT X a tA):PW X (.BoolOp .And [a] pos) tA:=by
 intro wh aa s σ H Q I h;refine isTrue_and (thn (ha aa s σ H Q I h) fun c s1 e=>?_);cases c with
 |true=>exact isTrue_and_nil e
 |false=>exact e
theorem Bm(ha:PT X a tA):PW X (.BoolOp .Or [a] pos) tA:=by
 intro wh aa s σ H Q I h;refine isTrue_or (thn (ha aa s σ H Q I h) fun c s1 e=>?_);cases c with
 |false=>exact isTrue_or_nil e
 |true=>exact e
theorem B5(ha:PT X a tA) (hb:PW X (.BoolOp .And (b::aK) pos) tB'):PW X (.BoolOp .And (a::b::aK) pos) (FO tA tB'):=by
 intro wh aa s σ H Q I h;refine isTrue_and (thn (ha aa s σ H _ I h) fun c s1 hup=>hup.el fun H1 I1 q1=>?_);cases c with
 |true=>exact hb wh aa s1 σ H1 Q I1 q1
 |false=>exact⟨H1,I1,q1⟩
theorem D0(ha:PT X a tA) (hb:PW X (.BoolOp .Or (b::aK) pos) tB'):PW X (.BoolOp .Or (a::b::aK) pos) (tOr tA tB'):=by
 intro wh aa s σ H Q I h;refine isTrue_or (thn (ha aa s σ H _ I h) fun c s1 hup=>hup.el fun H1 I1 q1=>?_);cases c with
 |true=>exact⟨H1,I1,q1⟩
 |false=>exact hb wh aa s1 σ H1 Q I1 q1
theorem A7(ha:PT X a tA):PT X (.UnaryOp .Not a pos) (FS tA):=by
 intro aa s σ H Q I h;exact isTrue_not (ha aa s σ H (fun c H1=>Q (!c) H1) I h)
def E8(ta tb:TE):TE:=fun σ H Q=>ta σ H fun x H1=>∃c,x=.bl c/\if c=true then tb σ H1 Q else Q (.bl false) H1
theorem Bu{op}{t:TE}(h:PE X a t):PE X (.BoolOp op [a] pos) t:=fun aa s σ H Q I hw=>BoolOp_one (h aa s σ H Q I hw)
theorem A5(ha:PE X a ta) (hb:PE X (.BoolOp .And (b::aK) pos) tb):PE X (.BoolOp .And (a::b::aK) pos) (E8 ta tb):=by
 intro aa s σ H Q I h;refine BoolOp_and (thn (ha aa s σ H _ I h) fun v s1 hup=>hup.el fun x H1 I1 r1 q1=>?_);obtain⟨c,rfl,q1⟩:=q1;cases r1;refine R7 ?_;cases c with
 |true=>exact hb aa s1 σ H1 Q I1 q1
 |false=>exact⟨.bl false,H1,I1,rfl,q1⟩
end
def SqL(K:o0) (H:Hp) (a:H0) (xs:List V):Prop :=
 Rd H a (.lst xs) ∨
  ∃(o:Obj) (its:Array F0) (n:Nat),K.lookup a=some o/\o.cls=.type "list"/\o.dict=none/\o.data=.seq its n/\its.size<=F3/\ao xs its.toList
def SqT(K:o0) (H:Hp) (a:H0) (xs:List V):Prop :=
 Rd H a (.tup xs) ∨
  ∃(o:Obj) (its:Array F0) (n:Nat),K.lookup a=some o/\(o.cls=.type "tuple"/\o.dict=none)/\o.data=.seq its n/\its.size<=F3/\ao xs its.toList
noncomputable def Fx:F0->Option V
 |.none=>some .non
 |.bool b=>some (.bl b)
 |.int i _=>some (.int i)
 |.str x _=>some (.str x)
 |.bytes b _=>some (.byt b)
 |.float b _=>some (.flt b)
 |.ref a=>some (.ref a)
 |.type n=>some (.ty n)
 |_=>none
theorem aD.abs{x:V}{u:F0}(r:aD x u):Fx u=some x:=by
 cases x with
 |non=>cases r;rfl
 |bl _=>cases r;rfl
 |int _=>obtain⟨t,rfl⟩:=r;rfl
 |str _=>obtain⟨t,rfl⟩:=r;rfl
 |byt _=>obtain⟨t,rfl⟩:=r;rfl
 |flt _=>obtain⟨t,rfl⟩:=r;rfl
 |ref _=>cases r;rfl
 |ty _=>cases r;rfl
theorem aD.inj{x y:V}{u:F0}(r:aD x u) (q:aD y u):x=y:=J9 (r.abs.symm.trans q.abs)
theorem ao.inj:∀{xs ys:List V}{us:List F0},ao xs us->ao ys us->xs=ys
 |_,_,_,.nil,.nil=>rfl
 |_,_,_,.cons r t,.cons r' t'=>by rw[r.inj r',ao.inj t t']
section
variable{X:Cx}{aa:List (H0×Obj)}{σ:St}{H:Hp}{s:F1}{a:H0}{xs ys:List V}
theorem SqL.of{K:o0}(h:H a=some (.lst xs)):SqL K H a xs:=.inl (.inl h)
theorem SqT.of{K:o0}(h:H a=some (.tup xs)):SqT K H a xs:=.inl (.inl h)
theorem Inv.list(I:Inv X aa σ H s) (h:SqL X.K H a xs):∃its:List F0,ao xs its/\PlainL s.heap a its.toArray/\xs.length<=F3:=by
 rcases h with h|⟨o,its,n,hk,hc,hd,hs,hz,r⟩
 ·obtain⟨z,its,n,r,e⟩:=h.ok I.hok;exact⟨its,r,⟨_,n,e,rfl,rfl,rfl⟩,z⟩
 ·refine⟨its.toList,r,⟨o,n,I.kIn a o hk,hc,hd,by simpa using hs⟩,?_⟩;have e:=r.length;simp only[U6]at e
  lia
theorem Inv.tuple(I:Inv X aa σ H s) (h:SqT X.K H a xs):∃its:List F0,ao xs its/\ac7 s.heap a its.toArray/\xs.length<=F3:=by
 rcases h with h|⟨o,its,n,hk,hc,hs,hz,r⟩
 ·obtain⟨z,its,r,p⟩:=h.ok I.hok;exact⟨its,r,p.tup,z⟩
 ·refine⟨its.toList,r,⟨o,I.kIn a o hk,hc.1,n,by simpa using hs⟩,?_⟩;have e:=r.length;simp only[U6]at e
  lia
theorem Inv.list_inj(I:Inv X aa σ H s) (h:SqL X.K H a xs) (h':SqL X.K H a ys):xs=ys:=by
 obtain⟨its,r,⟨o,n,e,_,_,d⟩,_⟩:=I.list h;obtain⟨its',r',⟨o',n',e',_,_,d'⟩,_⟩:=I.list h';rw[e]at e';cases e';rw[d]at d';injection d' with d1 _
 have:its=its':=by simpa using congrArg Array.toList d1
 subst this;exact r.inj r'
theorem Inv.tuple_inj(I:Inv X aa σ H s) (h:SqT X.K H a xs) (h':SqT X.K H a ys):xs=ys:=by
 obtain⟨its,r,⟨o,e,_,n,d⟩,_⟩:=I.tuple h;obtain⟨its',r',⟨o',e',_,n',d'⟩,_⟩:=I.tuple h';rw[e]at e';cases e';rw[d]at d';injection d' with d1 _
 have:its=its':=by simpa using congrArg Array.toList d1
 subst this;exact r.inj r'
end
abbrev Cx.wish(X:Cx) (E:F0->F1->Prop):Cx:={ X with xe:=E }
abbrev Cx.nox(X:Cx):Cx:=X.wish fun _ _=>False
theorem Cx.Ok.wish{X:Cx}(ok:X.Ok) (E:F0->F1->Prop):(X.wish E).Ok :=
 ⟨ok.mod,ok.kind,ok.glob,ok.blt,ok.above,ok.inj,ok.has,ok.cab,ok.hd,ok.frames,ok.stk,ok.exf,ok.bs,ok.bsz,ok.noex,ok.exfs,ok.funs,ok.frf⟩
theorem Cx.Ok.unwish{X:Cx}{E:F0->F1->Prop}(ok:(X.wish E).Ok):X.Ok :=
 ⟨ok.mod,ok.kind,ok.glob,ok.blt,ok.above,ok.inj,ok.has,ok.cab,ok.hd,ok.frames,ok.stk,ok.exf,ok.bs,ok.bsz,ok.noex,ok.exfs,ok.funs,ok.frf⟩
section
variable{X:Cx}{aa:List (H0×Obj)}{σ:St}{H:Hp}{s:F1}{E:F0->F1->Prop}
theorem Inv.wish(I:Inv X aa σ H s) (E:F0->F1->Prop):Inv (X.wish E) aa σ H s:=⟨I.ok.wish E,I.os,I.bare,I.base,I.loc,I.cell,I.free,I.freeC,I.pin,I.hok,I.len⟩
theorem Inv.unwish(I:Inv (X.wish E) aa σ H s):Inv X aa σ H s:=⟨I.ok.unwish,I.os,I.bare,I.base,I.loc,I.cell,I.free,I.freeC,I.pin,I.hok,I.len⟩
theorem SP.unwish{D:qm}{f:Flow}{s':F1}(h:SP (X.wish E) aa D f s'):SP X aa D f s':=by
 cases f with
 |next=>obtain⟨σ',H',I,q⟩:=h;exact⟨σ',H',I.unwish,q⟩
 |brk=>obtain⟨σ',H',I,q⟩:=h;exact⟨σ',H',I.unwish,q⟩
 |cont=>obtain⟨σ',H',I,q⟩:=h;exact⟨σ',H',I.unwish,q⟩
 |ret u=>obtain⟨v,σ',H',I,r,q⟩:=h;exact⟨v,σ',H',I.unwish,r,q⟩
theorem PSs.nox{st:List ab0}{t:TS}(h:PSs X.nox st t):PSs X st t:=fun aa s σ H D I hw =>
 K8 (h aa s σ H D (I.wish _) hw) (fun _ _ q=>q.unwish) fun _ _ z=>U7 z
end
section
variable{X:Cx}{st:ab0}{aK:List ab0}{t u:TS}{e:J4}{te:TE}{pos:Pos}
def Dv:TS:=fun D σ H=>D.nx σ H
def FG(t u:TS):TS:=fun D σ H=>t { D with nx:=u D } σ H
theorem Aa:PSs X [] Dv:=fun _ _ σ H _ I h=>X9 ⟨σ,H,I,h⟩
theorem vQ(h1:PS X st t) (h2:PSs X aK u):PSs X (st::aK) (FG t u):=by
 intro aa s σ H D I h;refine wpAny_execs_cons (thn (h1 aa s σ H { D with nx:=u D } I h) fun f s1 q=>?_);cases f with
 |next =>
  obtain⟨σ',H',I',q⟩:=q;exact h2 aa s1 σ' H' D I' q
 |ret v=>exact q
 |brk=>exact q
 |cont=>exact q
theorem z5(h1:PS X st t):PSs X [st] t:=by
 intro aa s σ H D I h;refine wpAny_execs_cons (thn (h1 aa s σ H D I h) fun f s1 q=>?_);cases f with
 |next=>exact X9 q
 |ret v=>exact q
 |brk=>exact q
 |cont=>exact q
theorem Inv.quiet{aa:List (H0×Obj)}{σ:St}{H:Hp}{s:F1}(I:Inv X aa σ H s):interactive X.env=false:=by simp[interactive,I.ok.kind]
def EO(te:TE):TS:=fun D σ H=>te σ H fun _ H1=>D.nx σ H1
theorem yT(he:PE X e te) (hs:W9 e none pos.line X.env=W4 false:=by rfl):PS X (.Expr e pos) (EO te):=by
 intro aa s σ H D I h;exact wpAny_Expr_any (thn (he aa s σ H _ I h) fun v s1 hup=>hup.el fun x H1 I1 r1 q1=>⟨σ,H1,I1,q1⟩) I.quiet hs
def FV(te:TE):TS:=fun D σ H=>te σ H D.rt
theorem rD(he:PE X e te):PS X (.Return (some e) pos) (FV te):=by
 intro aa s σ H D I h;exact wpAny_Return_some (thn (he aa s σ H _ I h) fun v s1 hup=>hup.el fun x H1 I1 r1 q1=>⟨x,σ,H1,I1,r1,q1⟩)
def Fp(c:TT) (t u:TS):TS:=fun D σ H=>c σ H fun b H1=>if b=true then t D σ H1 else u D σ H1
theorem ES{c:J4}{a b:List ab0}{tc:TT}(hc:PT X c tc) (ha:PSs X a t) (hb:PSs X b u):PS X (.If c a b pos) (Fp tc t u):=by
 intro aa s σ H D I h;refine wpAny_If (thn (hc aa s σ H _ I h) fun d s1 hup=>hup.el fun H1 I1 q1=>?_);cases d with
 |true=>exact ha aa s1 σ H1 D I1 q1
 |false=>exact hb aa s1 σ H1 D I1 q1
end
abbrev TG:=V->St->Hp->(St->Hp->Prop)->Prop
abbrev TGs:=List V->St->Hp->(St->Hp->Prop)->Prop
def PG(X:Cx) (target:J4) (t:TG):Prop :=
 ∀(aa:List (H0×Obj)) (s:F1) (σ:St) (H:Hp) (v:V) (u:F0) (Q:St->Hp->Prop),Inv X aa σ H s->aD v u->t v σ H Q ->
  J3 (K1 X.prog X.w) X.A (X1 target X.env u) (fun _ s'=>∃ σ' H',Inv X aa σ' H' s'/\Q σ' H') X.xe s
def PGs(X:Cx) (ts:List J4) (t:TGs):Prop :=
 ∀(aa:List (H0×Obj)) (s:F1) (σ:St) (H:Hp) (vs:List V) (us:List F0) (Q:St->Hp->Prop),Inv X aa σ H s->ao vs us->t vs σ H Q ->
  J3 (K1 X.prog X.w) X.A (assignInOrder ((P4 ts X.env).map (·.2)) us) (fun _ s'=>∃ σ' H',Inv X aa σ' H' s'/\Q σ' H') X.xe s
abbrev TIp:=V->V->Hp->VK->Prop
def PIp(X:Cx) (op:ad2) (t:TIp):Prop :=
 ∀(aa:List (H0×Obj)) (s:F1) (σ:St) (H:Hp) (x y:V) (v u:F0) (Q:VK),Inv X aa σ H s->aD x v->aD y u->t x y H Q ->
  J3 (K1 X.prog X.w) X.A (ad5 op v u) (EP X aa σ Q) X.xe s
section
variable{X:Cx}{pos:Pos}
def j5(i:Nat):TG:=fun v σ H Q=>Q (σ.set i (some v)) H
theorem oo{i:Nat}{x:Str}(hN:X.N.Nodup) (hi:X.N[i]?=some x) (hx:Loc X.env.scope x) (hf:X.fn x=true∨X.env.scope.names.lookup x=some .local:=by first|exact .inl rfl|exact .inr rfl|assumption):PG X (.Name x pos) (j5 i):=by
 intro aa s σ H v u Q I r h;exact wpAny_assign_Name (lM I hN hi hx r (fun s' I'=>⟨_,H,I',h⟩) hf)
def C1:TGs:=fun vs σ H Q=>vs=[]/\Q σ H
def vb(t:TG) (u:TGs):TGs:=fun vs σ H Q=>∃v r,vs=v::r/\t v σ H fun σ' H'=>u r σ' H' Q
theorem si:PGs X [] C1:=by
 intro aa s σ H vs us Q I r h;obtain⟨e,h⟩:=h;subst e;cases r;exact assignInOrder_nil ⟨σ,H,I,h⟩
theorem pQ{e:J4}{es:List J4}{t:TG}{u:TGs}(h1:PG X e t) (h2:PGs X es u)
  (hs:(P4 (e::es) X.env).map (·.2)=X1 e X.env::(P4 es X.env).map (·.2):=by rfl):PGs X (e::es) (vb t u):=by
 intro aa s σ H vs us Q I r h;obtain⟨v,vr,e1,h⟩:=h;subst e1;cases r with
 |cons r rr =>
  rw[hs];refine assignInOrder_cons (thn (h1 aa s σ H _ _ _ I r h) fun _ s1 ⟨σ1,H1,I1,q1⟩=>?_);exact h2 aa s1 σ1 H1 _ _ Q I1 rr q1
def Cp(K:o0) (n:Nat) (t:TGs):TG:=fun v σ H Q=>∃a xs,v=.ref a/\SqT K H a xs/\xs.length=n/\t xs σ H Q
theorem vj{es:List J4}{k:Nat}{t:TGs}{n:Nat}(hc:X.calm=true) (h:PGs X es t)
  (hn:(P4 es X.env).length=n:=by rfl) (hst:(P4 es X.env).findIdx? (·.1)=none:=by rfl):PG X (.Tuple es k pos) (Cp X.K n t):=by
 intro aa s σ H v u Q I r hw;obtain⟨a,xs,e1,hq,hl,hw⟩:=hw;subst e1;cases r;obtain⟨its,rv,ht,hz⟩:=I.tuple hq;refine assign_Tuple_tuple (I.ok.hd hc) ht (by simp[hn,<-hl,rv.length]) hst fun h' hx=>?_;have I1:Inv X aa σ H { s with heap:=h' }:=I.kept (t':=s.toks) fun b o e=>hx b o (I0 (F4 e)) e;exact h aa _ σ H xs _ Q I1 (by simpa using rv) hw
def yf(te:TE) (g:TG):TS:=fun D σ H=>te σ H fun x H1=>g x σ H1 D.nx
theorem C0{tg e:J4}{te:TE}{g:TG}(he:PE X e te) (hg:PG X tg g) (hs:swapsWithSole [tg] e pos.line X.env=W4 false:=by rfl) (hw:swappedStores [tg] e X.env=W4 none:=by rfl)
  (h1:(P4 [tg] X.env).map (·.2)=[X1 tg X.env]:=by rfl):PS X (.Assign [tg] e pos) (yf te g):=by
 intro aa s σ H D I h;refine wpAny_Assign_stores (thn (he aa s σ H _ I h) fun v s1 hup=>hup.el fun x H1 I1 r1 q1=>?_) hs hw;rw[h1];exact thn (hg aa s1 σ H1 x v _ I1 r1 q1) fun _ s2 q=>q
theorem BR{i:Nat}{x:Str}{e:J4}{te:TE}{pos':Pos}(hN:X.N.Nodup) (hi:X.N[i]?=some x) (hx:Loc X.env.scope x) (he:PE X e te) (hs:W9 e (some (.Name x pos')) pos.line X.env=W4 false:=by rfl) (hf:X.fn x=true∨X.env.scope.names.lookup x=some .local:=by first|exact .inl rfl|exact .inr rfl|assumption) :
  PS X (.Assign [.Name x pos'] e pos) (yf te (j5 i)):=by
 intro aa s σ H D I h;refine wpAny_Assign_Name (thn (he aa s σ H _ I h) fun v s1 hup=>hup.el fun y H1 I1 r1 q1=>?_) hs;exact lM I1 hN hi hx r1 (fun s2 I2=>⟨_,H1,I2,q1⟩) hf
def FQ(i:Nat) (te:TE) (ti:TIp):TS:=fun D σ H=>∃x,σ[i]?=some (some x)/\te σ H fun y H1=>ti x y H1 fun z H2=>D.nx (σ.set i (some z)) H2
theorem BP{i:Nat}{x:Str}{e:J4}{te:TE}{op:ad2}{ti:TIp}{pos':Pos}(hN:X.N.Nodup) (hi:X.N[i]?=some x) (hx:Loc X.env.scope x) (he:PE X e te) (ho:PIp X op ti) (hf:X.fn x=true∨X.env.scope.names.lookup x=some .local:=by first|exact .inl rfl|exact .inr rfl|assumption) :
  PS X (.AugAssign (.Name x pos') op e pos) (FQ i te ti):=by
 intro aa s σ H D I h;obtain⟨v,e1,h⟩:=h;obtain⟨m,hn,hl⟩:=I.loc;have vis:Vis X.env.scope x:=by rcases hx with k|k;exact .inl k;exact .inr (.inl k)
 obtain⟨u,r,l⟩:=hl i x v hi e1 vis;refine wpAny_AugAssign_Name ?_;have go:J3 (K1 X.prog X.w) X.A (V7 e X.env) (fun w s₂=>J3 (K1 X.prog X.w) X.A (ad5 op u w) (fun r s₃=>J3 (K1 X.prog X.w) X.A (storeName X.env x r) (fun _=>SP X aa D .next) X.xe s₃) X.xe s₂) X.xe s:=by
  refine thn (he aa s σ H _ I h) fun w s1 hup=>hup.el fun y H1 I1 r1 q1=>?_;refine thn (ho aa s1 σ H1 v y u w _ I1 r r1 q1) fun z s2 hup=>hup.el fun zv H2 I2 r2 q2=>?_;exact lM I2 hN hi hx r2 (fun s3 I3=>⟨_,H2,I3,q2⟩) hf
 rcases l with⟨hk,hm⟩|⟨hk,c,hc,hcell⟩
 ·exact wpAny_loadName_local I.ok.kind hk hn hm go
 ·rcases hk with hk|hk
  ·exact wpAny_loadName_cell I.ok.kind hk hc hcell go
  ·rcases hx with k|k
   ·have:X.env.scope.names.lookup x=some .free:=hk;rw[k]at this;cases this
   ·have:X.env.scope.names.lookup x=some .free:=hk;rw[k]at this;cases this
def ipI(f:Int->Int->Int):TIp:=fun x y H Q=>∃i j,x=.int i/\y=.int j/\Q (.int (f i j)) H
theorem BJ:PIp X .Add (ipI fun i j=>i+j):=by
 intro aa s σ H x y v u Q I r1 r2 h;obtain⟨i,j,e1,e2,q⟩:=h;subst e1;subst e2;obtain⟨t,rfl⟩:=r1;obtain⟨t',rfl⟩:=r2;exact iadd_int ⟨.int _,H,I.tok _,⟨_,rfl⟩,q⟩
end
section
variable{X:Cx}{pos:Pos}
def CM(c:TT) (tb:TS):TS:=fun D σ H=>∃W:Nat->St->Hp->Prop,(∃m,W m σ H)/\∀m σ H,W m σ H ->
 c σ H fun b H1=>if b=true then ∃N:St->Hp->Prop,(∀ σ' H',N σ' H'->∃m',m'<m/\W m' σ' H')/\tb { D with nx:=N,ct:=N,bk:=D.nx } σ H1 else D.nx σ H1
theorem vW{c:J4}{body:List ab0}{tc:TT}{tb:TS}(hp:ad6 (K1 X.prog X.w) X.A X.env X.xe) (hc:PT X c tc) (hb:PSs X body tb):PS X (.While c body [] pos) (CM tc tb):=by
 intro aa s σ H D I h;obtain⟨W,⟨m0,w0⟩,turn⟩:=h;refine wpAny_While (codeAny_whileLoop (fun n s'=>∃ σ' H',Inv X aa σ' H' s'/\W n σ' H') ?_ m0 ⟨σ,H,I,w0⟩);rintro n s1 ⟨σ1,H1,I1,w1⟩;refine R8 hp (thn (hc aa s1 σ1 H1 _ I1 (turn n σ1 H1 w1)) fun b s2 hup=>hup.el fun H2 I2 q2=>?_);cases b with
 |true =>
  obtain⟨N,hN,q2⟩:=q2;rw[if_pos rfl];refine R8 hp (thn (hb aa s2 σ1 H2 _ I2 q2) fun f s3 q3=>?_);cases f with
  |next =>
   obtain⟨σ3,H3,I3,n3⟩:=q3;obtain⟨m',hm,w3⟩:=hN σ3 H3 n3;exact⟨m',hm,σ3,H3,I3,w3⟩
  |cont =>
   obtain⟨σ3,H3,I3,n3⟩:=q3;obtain⟨m',hm,w3⟩:=hN σ3 H3 n3;exact⟨m',hm,σ3,H3,I3,w3⟩
  |brk=>exact q3
  |ret v=>exact q3
 |false =>
  rw[if_neg K9];exact X9 ⟨σ1,H2,I2,q2⟩
end
structure It where
 go:Nat->Hp->Prop
 yld:Nat->Hp->V->Hp->Prop
 stop:Nat->Hp->Prop
def cH(X:Cx) (aa:List (H0×Obj)) (H:Hp) (b:H0):Prop :=
 H b=none/\b≠X.env.locals/\b∉X.fs/\(b∈X.ex∨X.s₀.heap.objs.size<=b)/\(∀x c,X.env.cells.lookup x=some c->c≠b)/\∀p∈X.pn++aa,p.1≠b
theorem Inv.fpOk{X:Cx}{aa:List (H0×Obj)}{σ:St}{H H':Hp}{s:F1}{b:H0}(I:Inv X aa σ H s) (hb:s.heap.objs.size<=b) (hn:H' b=none):cH X aa H' b:=by
 refine⟨hn,T6 (F9 I.lt hb),I.nofs hb,.inr (L6 I.sz hb),fun x c e z=>?_,fun p hp z=>?_⟩
 ·obtain⟨v,q⟩:=I.cell x c e;exact absurd (F9 q.lt (by rw[z];exact hb)) (N8 _)
 ·exact absurd (F9 (F4 (I.pin p hp).1) (by rw[z];exact hb)) (N8 _)
structure iJ(P:K7) (w:P5) (K:o0) (tg:J4) (J:It) (fp:List H0) (it:H0) (tn:Nat->K2->Prop):Prop where
 mem:it∈fp
 obj:∀i h,tn i h->∀b∈fp,∃o,h.get? b=some o/\∀v,o.data≠.cell v
 keep:∀i h h',tn i h->(∀b∈fp,∀o,h.get? b=some o->h'.get? b=some o)->tn i h'
 item:∀(X:Cx),X.prog=P->X.w=w->X.K=K->X.calm=true->∀(i:Nat) (aa:List (H0×Obj)) (s:F1) (σ:St) (H:Hp) (E:F0->F1->Prop),Inv X aa σ H s->(∀b∈fp,cH X aa H b)->tn i s.heap->J.go i H ->
  J3 (K1 P w) X.A (ad1 (.ref it)) (fun r s1=>∃u,r=some u /\
   J3 (K1 P w) X.A (T7 tg (.ref it) u) (fun _ s2=>∃x H',Inv X aa σ H' s2/\aD x u/\J.yld i H x H'/\tn (i+1) s2.heap/\∀b∈fp,H' b=none) E s1) E s
 done:∀(X:Cx),X.prog=P->X.w=w->X.K=K->X.calm=true->∀(i:Nat) (aa:List (H0×Obj)) (s:F1) (σ:St) (H:Hp) (E:F0->F1->Prop),Inv X aa σ H s->(∀b∈fp,cH X aa H b)->tn i s.heap->J.stop i H ->
  J3 (K1 P w) X.A (ad1 (.ref it)) (fun r s1=>r=none/\Inv X aa σ H s1) E s
 self:∀(A:M9) (i:Nat) (s:F1) (Q:F0->F1->Prop) (E:F0->F1->Prop),tn i s.heap->Q (.ref it) s->J3 (K1 P w) A (ac3 (.ref it)) Q E s
abbrev TI:=St->Hp->(It->Hp->Prop)->Prop
def PIE(X:Cx) (aa:List (H0×Obj)) (σ:St) (tg:J4) (R:It->Hp->Prop) (itv:F0) (s2:F1):Prop :=
 ∃(it:H0) (fp:List H0) (tn:Nat->K2->Prop) (J:It) (H':Hp),itv=.ref it/\Inv X aa σ H' s2/\iJ X.prog X.w X.K tg J fp it tn/\tn 0 s2.heap/\(∀b∈fp,cH X aa H' b)/\R J H'
def PI(X:Cx) (tg iter:J4) (wi:TI):Prop :=
 ∀(aa:List (H0×Obj)) (s:F1) (σ:St) (H:Hp) (R:It->Hp->Prop),Inv X aa σ H s->wi σ H R ->
  J3 (K1 X.prog X.w) X.A (V7 iter X.env) (fun v s1=>J3 (K1 X.prog X.w) X.A (ac3 v) (PIE X aa σ tg R) X.xe s1) X.xe s
theorem nc{M:Model}{A:M9}{E:F0->F1->Prop}{s:F1}{tg:J4}{it:H0}{u:F0}{o:Obj}{n:String}{vs:Array F0}{Q:Unit->F1->Prop}(ho:s.heap.get? it=some o) (hc:o.cls=.type n) (hd:o.data=.fields vs)
    (hn:["enumerate","zip","dict_itemiterator","dict_reverseitemiterator","odict_iterator","itertools.zip_longest","itertools.pairwise"].contains n=false) (hQ:Q () s):J3 M A (T7 tg (.ref it) u) Q E s:=by
  unfold T7;cases tg<;>first
    |exact F7 hQ
    |(cases u<;>first
        |exact F7 hQ
        | (refine u8 (wpAny_load ho ?_)
           rw[hc,hd];show J3 M A (if(["enumerate","zip","dict_itemiterator","dict_reverseitemiterator","odict_iterator","itertools.zip_longest","itertools.pairwise"].contains n&&vs[0]?==some (aa1 _))=true then _ else _) Q E s;rw[if_neg (by intro h;rw[hn,Bool.false_and]at h;cases h)];exact F7 hQ))
def Itl(K:o0) (a:H0):It :=
 ⟨fun i H=>∃xs x,SqL K H a xs/\xs[i]?=some x,fun i H x H'=>H'=H/\∀xs,SqL K H a xs->xs[i]?=some x,fun i H=>∃xs,SqL K H a xs/\xs.length<=i⟩
def Itt(K:o0) (a:H0):It :=
 ⟨fun i H=>∃xs x,SqT K H a xs/\xs[i]?=some x,fun i H x H'=>H'=H/\∀xs,SqT K H a xs->xs[i]?=some x,fun i H=>∃xs,SqT K H a xs/\xs.length<=i⟩
def Itr(lo:Int) (n:Nat):It:=⟨fun i _=>i<n,fun i H x H'=>H'=H/\x=.int (lo+i),fun i _=>n<=i⟩
theorem nz{P:K7}{w:P5}{K:o0}{tg:J4}(a it:H0):iJ P w K tg (Itl K a) [it] it (fun i h=>h.IsListIter it a i) where
 mem:=by simp
 obj:=fun i h st b hb=>by
  have e:b=it:=by simpa using hb
  subst e;obtain⟨o,e,c,d⟩:=st;exact⟨o,e,fun v z=>by rw[d]at z;cases z⟩
 keep:=fun i h h' st k=>st.at fun o e=>k it (by simp) o e
 item:=by
  intro X hP hw hK hc i aa s σ H E I hf st hg;subst hP hw hK;obtain⟨xs,x,hq,hx⟩:=hg;obtain⟨its,rv,p,hz⟩:=I.list hq;obtain⟨u,hu,ru⟩:=rv.get hx;obtain⟨f0,f1,f2,f3,f4,f5⟩:=hf it (by simp);refine wpAny_pyNext_list_item st p.isList (x:=u) (by simpa using hu) fun h' st' sb=>?_;have I1:Inv X aa σ H { s with heap:=h' }:=I.turned (t':=s.toks) (fun b o hb e=>(sb.2 b hb).trans e) f0 f1 f3 f4 f5;obtain⟨o,e,c,d⟩:=id st';exact⟨u,rfl,nc (s:={ s with heap:=h' }) e c d (by decide) ⟨x,H,I1,ru,⟨rfl,fun ys hy=>by rw[I.list_inj hy hq];exact hx⟩,st',fun b hb=>(hf b hb).1⟩⟩
 done:=by
  intro X hP hw hK hc i aa s σ H E I hf st hg;subst hP hw hK;obtain⟨xs,hq,hx⟩:=hg;obtain⟨its,rv,p,hz⟩:=I.list hq;obtain⟨f0,f1,f2,f3,f4,f5⟩:=hf it (by simp);have hl:=rv.length;exact wpAny_pyNext_list_end (I.ok.hd hc) st p.isList (by simp;lia) fun h' eb=>⟨rfl,I.turned (t':=s.toks) (fun b o hb e=>eb b o hb e) f0 f1 f3 f4 f5⟩
 self:=fun _ _ _ _ _ st h=>wpAny_pyIter_listiter st h
theorem rL{P:K7}{w:P5}{K:o0}{tg:J4}(a it:H0):iJ P w K tg (Itt K a) [it] it (fun i h=>h.IsTupleIter it a i) where
 mem:=by simp
 obj:=fun i h st b hb=>by
  have e:b=it:=by simpa using hb
  subst e;obtain⟨o,e,c,d⟩:=st;exact⟨o,e,fun v z=>by rw[d]at z;cases z⟩
 keep:=fun i h h' st k=>st.at fun o e=>k it (by simp) o e
 item:=by
  intro X hP hw hK hc i aa s σ H E I hf st hg;subst hP hw hK;obtain⟨xs,x,hq,hx⟩:=hg;obtain⟨its,rv,p,hz⟩:=I.tuple hq;obtain⟨u,hu,ru⟩:=rv.get hx;obtain⟨f0,f1,f2,f3,f4,f5⟩:=hf it (by simp);refine wpAny_pyNext_tuple_item st (show s.heap.IsTuple a its.toArray from p) (x:=u) (by simpa using hu) fun h' st' sb=>?_;have I1:Inv X aa σ H { s with heap:=h' }:=I.turned (t':=s.toks) (fun b o hb e=>(sb.2 b hb).trans e) f0 f1 f3 f4 f5;obtain⟨o,e,c,d⟩:=id st';exact⟨u,rfl,nc (s:={ s with heap:=h' }) e c d (by decide) ⟨x,H,I1,ru,⟨rfl,fun ys hy=>by rw[I.tuple_inj hy hq];exact hx⟩,st',fun b hb=>(hf b hb).1⟩⟩
 done:=by
  intro X hP hw hK hc i aa s σ H E I hf st hg;subst hP hw hK;obtain⟨xs,hq,hx⟩:=hg;obtain⟨its,rv,p,hz⟩:=I.tuple hq;obtain⟨f0,f1,f2,f3,f4,f5⟩:=hf it (by simp);have hl:=rv.length;exact wpAny_pyNext_tuple_end (I.ok.hd hc) st (show s.heap.IsTuple a its.toArray from p) (by simp;lia) fun h' eb=>⟨rfl,I.turned (t':=s.toks) (fun b o hb e=>eb b o hb e) f0 f1 f3 f4 f5⟩
 self:=fun _ _ _ _ _ st h=>wpAny_pyIter_tupleiter st h
theorem qI{P:K7}{w:P5}{K:o0}{tg:J4}(it:H0) (lo:Int) (n:Nat):iJ P w K tg (Itr lo n) [it] it (fun i h=>ab8 h it (lo+(i:Nat)*1) ((n:Int)-(i:Nat)) 1) where
 mem:=by simp
 obj:=fun i h st b hb=>by
  have e:b=it:=by simpa using hb
  subst e;exact⟨_,st,fun v z=>by
   have z':Data.fields _=Data.cell v:=z;cases z'⟩
 keep:=fun i h h' st k=>k it (by simp) _ st
 item:=by
  intro X hP hw hK hc i aa s σ H E I hf st hg;subst hP hw hK;obtain⟨f0,f1,f2,f3,f4,f5⟩:=hf it (by simp);have W:=Walks.range (prog:=X.prog) (w:=X.w) (I.ok.hd hc) it lo 1 n;refine W.item i s _ _ hg st fun v h' tk hv st' kk=>?_;obtain⟨t,rfl⟩:=hv;have I1:Inv X aa σ H { s with heap:=h',toks:=tk }:=I.turned (fun b o hb e=>kk b o (by simpa using hb) e) f0 f1 f3 f4 f5;refine⟨_,rfl,nc (s:={ s with heap:=h',toks:=tk }) (n:="range_iterator") st' rfl rfl (by decide) ⟨.int (lo+i),H,I1,⟨t,?_⟩,⟨rfl,rfl⟩,st',fun b hb=>(hf b hb).1⟩⟩;rw[Int.mul_one]
 done:=by
  intro X hP hw hK hc i aa s σ H E I hf st hg;subst hP hw hK;obtain⟨f0,f1,f2,f3,f4,f5⟩:=hf it (by simp);exact wpAny_pyNext_range_end (I.ok.hd hc) st (by have:n<=i:=hg;lia) fun h' eb=>⟨rfl,I.turned (t':=s.toks) (fun b o hb e=>eb b o hb e) f0 f1 f3 f4 f5⟩
 self:=fun _ _ _ _ _ st h=>wpAny_pyIter_rangeiter st h
section
variable{X:Cx}{tg:J4}
theorem wI{aa:List (H0×Obj)}{σ:St}{H:Hp}{s:F1}{R:It->Hp->Prop}{E:F0->F1->Prop}{lo hi:Int}{t u v:Tok}{tk:Nat}(I:Inv X aa σ H s) (h1:-(2 ^ 62)<=lo) (h2:lo<2 ^ 62) (h3:-(2 ^ 62)<=hi) (h4:hi<2 ^ 62)
  (q:R (Itr lo (hi-lo).toNat) H):J3 (K1 X.prog X.w) X.A (ac3 (.ref s.heap.objs.size)) (PIE X aa σ tg R) E { s with heap:=s.heap.push { cls:=.type "range",data:=.fields #[.int lo t,.int hi u,.int 1 v] },toks:=tk }:=by
 refine wpAny_pyIter_range (IsRange.new ..) (small_one h1 h2 h3 h4) ?_;have I1:Inv X aa σ H { s with heap:=s.heap.push { cls:=.type "range",data:=.fields #[.int lo t,.int hi u,.int 1 v] },toks:=tk }:=I.kept fun b o e=>F2 _ e;refine⟨(s.heap.push { cls:=.type "range",data:=.fields #[.int lo t,.int hi u,.int 1 v] }).objs.size,[(s.heap.push { cls:=.type "range",data:=.fields #[.int lo t,.int hi u,.int 1 v] }).objs.size],_,_,H,rfl,
  I1.kept (t':=tk) fun b o e=>F2 _ e,qI _ lo (hi-lo).toNat,?_,fun b hb=>?_,q⟩
 ·have e1:lo+((0:Nat):Int)*1=lo:=by simp
  have e2:(((hi-lo).toNat:Nat):Int)-((0:Nat):Int)=O0 lo hi 1:=by rw[rangeSize_one];split<;>lia
  show ab8 _ _ (lo+((0:Nat):Int)*1) ((((hi-lo).toNat:Nat):Int)-((0:Nat):Int)) 1;rw[e1,e2];exact F6 _ rfl
 ·have e:b=(s.heap.push { cls:=.type "range",data:=.fields #[.int lo t,.int hi u,.int 1 v] }).objs.size:=by simpa using hb
  subst e;exact I1.fpOk (F8 _) (I1.hok.fresh (F8 _))
def Ei(ta:TA):TI:=fun σ H R=>ta σ H fun vs H1=>∃j:Int,vs=[.int j]/\-(2 ^ 62)<=j/\j<2 ^ 62/\R (Itr 0 j.toNat) H1
theorem uQ{a:J4}{ta:TA}{p pos:Pos}(hg:Gl X "range") (hm:X.mg "range"=none) (ha:PA X [a] ta) (hs:J5 [a] X.env=[(false,V7 a X.env)]:=by rfl):PI X tg (.Call (.Name "range" p) [a] [] pos) (Ei ta):=by
 intro aa s σ H R I h;refine Call_ (di I hg hm boot_range (O1 (thn (ha pos aa s σ H _ I h) fun us s1 hup=>hup.el fun vs H1 I1 r1 q1=>?_) hs rfl));obtain⟨j,e,q1,q2,q⟩:=q1;subst e;cases r1 with
 |cons r rr =>
  cases rr;obtain⟨t,rfl⟩:=r;exact call_range_1 (wI I1 (by lia) (by lia) q1 q2 (by simpa using q))
def FJ(wi:TI) (g:TG) (tb:TS):TS:=fun D σ H=>wi σ H fun J H1=>∃W:Nat->Nat->St->Hp->Prop,(∃m,W 0 m σ H1)/\∀i m σ H,W i m σ H ->
 (J.stop i H/\D.nx σ H)∨(J.go i H/\∃N:St->Hp->Prop,(∀ σ' H',N σ' H'->∃m',m'<m/\W (i+1) m' σ' H')/\∀x H',J.yld i H x H'->g x σ H' fun σ2 H2=>tb { D with nx:=N,ct:=N,bk:=D.nx } σ2 H2)
def gS(fp:List H0) (h:K2):List (H0×Obj):=fp.filterMap fun b=>(h.get? b).map fun o=>(b,o)
theorem cP{fp:List H0}{h:K2}{b:H0}{o:Obj}(hb:b∈fp) (e:h.get? b=some o):(b,o)∈gS fp h:=P3.mpr ⟨b,hb,by rw[e];rfl⟩
theorem mO{fp:List H0}{h:K2}{p:H0×Obj}(hp:p∈gS fp h):p.1∈fp/\h.get? p.1=some p.2:=by
 obtain⟨b,hb,e⟩:=P3.mp hp;cases q:h.get? b with
 |none=>rw[q]at e;cases e
 |some o =>
  rw[q]at e;have e':(b,o)=p:=J9 e;subst e';exact⟨hb,q⟩
theorem Inv.pinned{aa:List (H0×Obj)}{σ:St}{H:Hp}{s:F1}{fp:List H0}(I:Inv X aa σ H s) (hf:∀b∈fp,cH X aa H b) (ho:∀b∈fp,∃o,s.heap.get? b=some o/\∀v,o.data≠.cell v):Inv X (aa++gS fp s.heap) σ H s :=
 I.pins_of fun p hp=>(V0.mp hp).elim (fun z=>I.pin p (J0 _ z)) fun z=>by
  obtain⟨hb,e⟩:=mO z;obtain⟨f0,f1,f2,_⟩:=hf p.1 hb;obtain⟨o,e',d⟩:=ho p.1 hb;rw[e]at e';cases e';exact⟨e,f0,f1,f2,d⟩
theorem Inv.unpinned{aa pl:List (H0×Obj)}{σ:St}{H:Hp}{s:F1}(I:Inv X (aa++pl) σ H s):Inv X aa σ H s:=I.pins_of fun p hp=>I.pin p (J0 _ (List.mem_append_left _ hp))
theorem BN{iter:J4}{body:List ab0}{wi:TI}{g:TG}{tb:TS}{pos:Pos}(hp:ad6 (K1 X.prog X.w) X.A X.env X.xe) (hc:X.calm=true) (hi:PI X tg iter wi) (hg:PG X tg g) (hb:PSs X body tb)
  (hs:∀x,M0 iter X.env x=W4 x:=by intro _;rfl):PS X (.For tg iter body [] pos) (FJ wi g tb):=by
 intro aa s σ H D I h;refine wpAny_For (thn (hi aa s σ H _ I h) fun v s1 h1=>thn h1 fun itv s2 h2=>?_) hs;obtain⟨it,fp,tn,J,H2,e,I2,T,st2,f2,W,⟨m0,w0⟩,turn⟩:=h2;subst e
 -- what stays true of the iterator's objects through the loop
 have stat:∀{H':Hp},(∀b∈fp,H' b=none)->∀b∈fp,cH X aa H' b:=fun hn b hb=>⟨hn b hb,(f2 b hb).2⟩;refine codeAny_forLoop_any (fun n s'=>∃i σ' H',Inv X aa σ' H' s'/\tn i s'.heap/\(∀b∈fp,H' b=none)/\W i n σ' H') ?_ m0 ⟨0,σ,H2,I2,st2,fun b hb=>(f2 b hb).1,w0⟩;rintro n s3 ⟨i,σ3,H3,I3,st3,fr3,w3⟩;rcases turn i n σ3 H3 w3 with⟨stop,qn⟩|⟨go,N,hN,step⟩
 ·refine R8 hp (thn (T.done X rfl rfl rfl hc i aa s3 σ3 H3 X.xe I3 (stat fr3) st3 stop) fun r s4 ⟨hr,I4⟩=>?_);subst hr;exact X9 ⟨σ3,H3,I4,qn⟩
 ·refine R8 hp (thn (T.item X rfl rfl rfl hc i aa s3 σ3 H3 X.xe I3 (stat fr3) st3 go) fun r s4 ⟨u,hr,h4⟩=>?_);subst hr;refine R8 hp (thn h4 fun _ s5 ⟨x,H5,I5,r5,y5,st5,fr5⟩=>?_);have I5':=I5.pinned (stat fr5) (T.obj _ _ st5);refine R8 hp (thn (hg _ s5 σ3 H5 x u _ I5' r5 (step x H5 y5)) fun _ s6 ⟨σ6,H6,I6,q6⟩=>?_);refine R8 hp (thn (hb _ s6 σ6 H6 _ I6 q6) fun f s7 q7=>?_);have again:∀{σ7:St} {H7:Hp},Inv X (aa++gS fp s5.heap) σ7 H7 s7->N σ7 H7->∃m,m<n/\∃i σ' H',Inv X aa σ' H' s7/\tn i s7.heap/\(∀b∈fp,H' b=none)/\W i m σ' H':=fun {σ7 H7} I7 n7=>by
   obtain⟨m',hm,w7⟩:=hN σ7 H7 n7;refine⟨m',hm,i+1,σ7,H7,I7.unpinned,T.keep _ _ _ st5 fun b hb o e=>(I7.pin (b,o) (J0 _ (J0 _ (cP hb e)))).1,fun b hb=>?_,w7⟩;obtain⟨o,e,d⟩:=T.obj _ _ st5 b hb;exact(I7.pin (b,o) (J0 _ (J0 _ (cP hb e)))).2.1
  cases f with
  |next=>obtain⟨σ7,H7,I7,n7⟩:=q7;exact again I7 n7
  |cont=>obtain⟨σ7,H7,I7,n7⟩:=q7;exact again I7 n7
  |brk=>obtain⟨σ7,H7,I7,q7⟩:=q7;exact⟨σ7,H7,I7.unpinned,q7⟩
  |ret v=>obtain⟨x7,σ7,H7,I7,r7,q7⟩:=q7;exact⟨x7,σ7,H7,I7.unpinned,r7,q7⟩
end
abbrev R2:=V->V->Hp->VK->Prop
def OpR(X:Cx) (f:F0->F0->Sem F0) (r:R2):Prop :=
 ∀(aa:List (H0×Obj)) (s:F1) (σ:St) (H:Hp) (x y:V) (v u:F0) (Q:VK),Inv X aa σ H s->aD x v->aD y u->r x y H Q ->
  J3 (K1 X.prog X.w) X.A (f v u) (EP X aa σ Q) X.xe s
def UnR(X:Cx) (f:F0->Sem F0) (r:V->Hp->VK->Prop):Prop :=
 ∀(aa:List (H0×Obj)) (s:F1) (σ:St) (H:Hp) (x:V) (v:F0) (Q:VK),Inv X aa σ H s->aD x v->r x H Q ->
  J3 (K1 X.prog X.w) X.A (f v) (EP X aa σ Q) X.xe s
def dP(X:Cx) (f:F0) (r:List V->Hp->VK->Prop):Prop :=
 ∀(aa:List (H0×Obj)) (s:F1) (σ:St) (H:Hp) (xs:List V) (us:List F0) (Q:VK),Inv X aa σ H s->ao xs us->r xs H Q ->
  J3 (K1 X.prog X.w) X.A (call f us) (EP X aa σ Q) X.xe s
def tOp(r:R2) (ta tb:TE):TE:=fun σ H Q=>ta σ H fun x H1=>tb σ H1 fun y H2=>r x y H2 Q
def tUn(r:V->Hp->VK->Prop) (ta:TE):TE:=fun σ H Q=>ta σ H fun x H1=>r x H1 Q
def rI(C:Int->Int->Prop) (g:Int->Int->V):R2:=fun x y H Q=>∃i j,x=.int i/\y=.int j/\C i j/\Q (g i j) H
def rI0(g:Int->Int->V):R2:=fun x y H Q=>∃i j,x=.int i/\y=.int j/\Q (g i j) H
def rU(g:Int->V):V->Hp->VK->Prop:=fun x H Q=>∃i,x=.int i/\Q (g i) H
section
variable{X:Cx}{a b c:J4}{ta tb tc:TE}{pos:Pos}
theorem Bw(ha:PE X a ta) (hb:PE X b tb) {aa:List (H0×Obj)}{s:F1}{σ:St}{H:Hp}{R:V->V->Hp->Prop}(I:Inv X aa σ H s)
  (h:ta σ H fun x H1=>tb σ H1 fun y H2=>R x y H2) {Q:F0->F1->Prop} {f:F0->F0->Sem F0}
  (hf:∀v u s2 x y H2,Inv X aa σ H2 s2->aD x v->aD y u->R x y H2->J3 (K1 X.prog X.w) X.A (f v u) Q X.xe s2) :
  J3 (K1 X.prog X.w) X.A (V7 a X.env) (fun v s₁=>J3 (K1 X.prog X.w) X.A (V7 b X.env) (fun u s₂=>J3 (K1 X.prog X.w) X.A (f v u) Q X.xe s₂) X.xe s₁) X.xe s:=by
 refine thn (ha aa s σ H _ I h) fun v s1 hup=>hup.el fun x H1 I1 r1 q1=>?_;refine thn (hb aa s1 σ H1 _ I1 q1) fun u s2 hup=>hup.el fun y H2 I2 r2 q2=>?_;exact hf v u s2 x y H2 I2 r1 r2 q2
theorem Ey{op:ad2}{r:R2}(ho:OpR X (O6 op) r) (ha:PE X a ta) (hb:PE X b tb):PE X (.BinOp a op b pos) (tOp r ta tb):=by
 intro aa s σ H Q I h;exact wpAny_BinOp (Bw ha hb I h fun v u s2 x y H2 I2 rx ry q=>ho aa s2 σ H2 x y v u Q I2 rx ry q)
theorem DW{op:UnaryOp}{r:V->Hp->VK->Prop}(ho:UnR X (unaryOp op) r) (ha:PE X a ta):PE X (.UnaryOp op a pos) (tUn r ta):=by
 intro aa s σ H Q I h;exact UnaryOp_ (thn (ha aa s σ H _ I h) fun v s1 hup=>hup.el fun x H1 I1 r1 q1=>ho aa s1 σ H1 x v Q I1 r1 q1)
theorem opI{f:F0->F0->Sem F0}{C:Int->Int->Prop}{g:Int->Int->Int}
  (rule:∀(i j:Int) (t u:Tok) (s:F1) (Q:F0->F1->Prop) (E:F0->F1->Prop),C i j->Q (.int (g i j) s.toks) { s with toks:=s.toks+1 }->J3 (K1 X.prog X.w) X.A (f (.int i t) (.int j u)) Q E s) :
  OpR X f (rI C fun i j=>.int (g i j)):=by
 intro aa s σ H x y v u Q I rx ry h;obtain⟨i,j,rfl,rfl,hc,q⟩:=h;obtain⟨t,rfl⟩:=rx;obtain⟨t',rfl⟩:=ry;exact rule i j t t' s _ _ hc ⟨.int (g i j),H,I.tok _,⟨_,rfl⟩,q⟩
theorem EC{f:F0->F0->Sem F0}{g:Int->Int->Int}
  (rule:∀(i j:Int) (t u:Tok) (s:F1) (Q:F0->F1->Prop) (E:F0->F1->Prop),Q (.int (g i j) s.toks) { s with toks:=s.toks+1 }->J3 (K1 X.prog X.w) X.A (f (.int i t) (.int j u)) Q E s) :
  OpR X f (rI0 fun i j=>.int (g i j)):=by
 intro aa s σ H x y v u Q I rx ry h;obtain⟨i,j,rfl,rfl,q⟩:=h;obtain⟨t,rfl⟩:=rx;obtain⟨t',rfl⟩:=ry;exact rule i j t t' s _ _ ⟨.int (g i j),H,I.tok _,⟨_,rfl⟩,q⟩
theorem yr{f:F0->F0->Sem F0}{g:Int->Int->Bool}
  (rule:∀(i j:Int) (t u:Tok) (s:F1) (Q:F0->F1->Prop) (E:F0->F1->Prop),Q (.bool (g i j)) s->J3 (K1 X.prog X.w) X.A (f (.int i t) (.int j u)) Q E s) :
  OpR X f (rI0 fun i j=>.bl (g i j)):=by
 intro aa s σ H x y v u Q I rx ry h;obtain⟨i,j,rfl,rfl,q⟩:=h;obtain⟨t,rfl⟩:=rx;obtain⟨t',rfl⟩:=ry;exact rule i j t t' s _ _ ⟨.bl (g i j),H,I,rfl,q⟩
def pH(i j:Int):Prop:=0<j/\j<1073741824
def ph(i j:Int):Prop:=0<=j/\j<=1000000/\i.natAbs<2 ^ 64
def iY(i j:Int):Prop:=(-(2 ^ 64)<i/\i<2 ^ 64)∨(-(2 ^ 64)<j/\j<2 ^ 64)
theorem iY.ok{i j:Int}(h:iY i j):IntMulOk i j:=by
 rcases h with⟨h1,h2⟩|⟨h1,h2⟩
 ·exact .of_left (intBits_le_64 h1 h2)
 ·exact .of_right (intBits_le_64 h1 h2)
theorem CS:OpR X (O6 .Add) (rI0 fun i j=>.int (i+j)):=EC fun _ _ _ _ _ _ _ q=>add_int q
theorem BI:OpR X (O6 .Sub) (rI0 fun i j=>.int (i-j)):=EC fun _ _ _ _ _ _ _ q=>sub_int q
theorem Bf:OpR X (O6 .Mult) (rI iY fun i j=>.int (i*j)):=opI fun _ _ _ _ _ _ _ hc q=>mul_int q hc.ok
theorem zB:OpR X (O6 .FloorDiv) (rI pH fun i j=>.int (i / j)):=opI fun i j _ _ _ _ _ hc q=>by
 have h1:(0:Int)<j:=hc.1;have h2:j<1073741824:=hc.2;exact floordiv_int (by lia) (by rw[Int.fdiv_eq_ediv_of_nonneg i (by lia)];exact q) (.inl (PyProof.noPylong_small (by lia)))
theorem Bb:OpR X (O6 .Mod) (rI (fun _ j=>0<j) fun i j=>.int (i % j)):=opI fun i j _ _ _ _ _ hc q=>by
 have h1:(0:Int)<j:=hc;exact mod_int' (by lia) (by rw[Int.fmod_eq_emod_of_nonneg i (by lia)];exact q)
theorem C5:OpR X (O6 .Pow) (rI ph fun i j=>.int (i ^ j.toNat)):=opI fun _ _ _ _ _ _ _ hc q=>pow_int_small hc.1 hc.2.1 hc.2.2 q
theorem unI{f:F0->Sem F0}{g:Int->Int}
  (rule:∀(i:Int) (t:Tok) (s:F1) (Q:F0->F1->Prop) (E:F0->F1->Prop),Q (.int (g i) s.toks) { s with toks:=s.toks+1 }->J3 (K1 X.prog X.w) X.A (f (.int i t)) Q E s) :
  UnR X f (rU fun i=>.int (g i)):=by
 intro aa s σ H x v Q I rx h;obtain⟨i,rfl,q⟩:=h;obtain⟨t,rfl⟩:=rx;exact rule i t s _ _ ⟨.int (g i),H,I.tok _,⟨_,rfl⟩,q⟩
theorem AY:UnR X (unaryOp .USub) (rU fun i=>.int (-i)):=unI fun _ _ _ _ _ q=>neg_int q
end
section
variable{X:Cx}{a b c:J4}{ta tb tc:TE}{pos:Pos}
theorem nB{aa:List (H0×Obj)}{σ:St}{H:Hp}{s:F1}{Q:VK}{k k':Bool}(I:Inv X aa σ H s) (q:Q (.bl k) H) (e:k=k'):EP X aa σ Q (.bool k') s:=by
 subst e;exact⟨.bl k,H,I,rfl,q⟩
theorem E2:OpR X (L7 .Lt) (rI0 fun i j=>.bl (decide (i<j))):=yr fun _ _ _ _ _ _ _ q=>lt_int q
theorem DA:OpR X (L7 .LtE) (rI0 fun i j=>.bl (decide (i<=j))):=yr fun _ _ _ _ _ _ _ q=>le_int q
theorem DI:OpR X (L7 .Gt) (rI0 fun i j=>.bl (decide (j<i))):=yr fun _ _ _ _ _ _ _ q=>gt_int q
theorem D3:OpR X (L7 .GtE) (rI0 fun i j=>.bl (decide (j<=i))):=yr fun _ _ _ _ _ _ _ q=>ge_int q
theorem uA:OpR X (L7 .In) (fun x y H Q=>∃i j,x=.str i/\y=.str j/\Q (.bl (!(S7 j i 0 j.length 1).isEmpty)) H):=by
 intro aa s σ H x y v u Q I rx ry h;obtain⟨i,j,rfl,rfl,q⟩:=h;obtain⟨t,rfl⟩:=rx;obtain⟨t',rfl⟩:=ry;exact in_str (nB I q rfl)
theorem BU:OpR X (L7 .Is) (fun x y H Q=>y=.non/\Q (.bl (decide (x=.non))) H):=by
 intro aa s σ H x y v u Q I rx ry h;obtain⟨rfl,q⟩:=h;cases ry;refine is_none_gen (nB I q ?_);cases x<;>first
  |(cases rx;rfl)
  |(obtain⟨t,rfl⟩:=rx;rfl)
theorem yp:OpR X (L7 .IsNot) (fun x y H Q=>y=.non/\Q (.bl (!decide (x=.non))) H):=by
 intro aa s σ H x y v u Q I rx ry h;obtain⟨rfl,q⟩:=h;cases ry;refine isnot_none_gen (nB I q ?_);cases x<;>first
  |(cases rx;rfl)
  |(obtain⟨t,rfl⟩:=rx;rfl)
theorem nG:OpR X (L7 .NotIn) (fun x y H Q=>∃i j,x=.str i/\y=.str j/\Q (.bl (!(!(S7 j i 0 j.length 1).isEmpty))) H):=by
 intro aa s σ H x y v u Q I rx ry h;obtain⟨i,j,rfl,rfl,q⟩:=h;obtain⟨t,rfl⟩:=rx;obtain⟨t',rfl⟩:=ry;exact notIn_str (nB I q rfl)
theorem xW{op:CmpOp}{r:R2}(ho:OpR X (L7 op) r) (ha:PE X a ta) (hb:PE X b tb) (hm:V1 op b=false):PE X (.Compare a [op] [b] pos) (tOp r ta tb):=by
 intro aa s σ H Q I h;exact wpAny_Compare1 (Bw ha hb I h fun v u s2 x y H2 I2 rx ry q=>ho aa s2 σ H2 x y v u Q I2 rx ry q) hm
def v4(t:TE):TT:=fun σ H Q=>t σ H fun x H'=>∃k,x=.bl k/\Q k H'
theorem Ah{op:CmpOp}{r:R2}(ho:OpR X (L7 op) r) (ha:PE X a ta) (hb:PE X b tb) (hm:V1 op b=false):PT X (.Compare a [op] [b] pos) (v4 (tOp r ta tb)):=by
 intro aa s σ H Q I h;refine wpAny_isTrue_Compare1 (thn (ha aa s σ H _ I h) fun v s1 hup=>hup.el fun x H1 I1 r1 q1=>thn (hb aa s1 σ H1 _ I1 q1) fun u s2 hup=>hup.el fun y H2 I2 r2 q2 =>
  thn (ho aa s2 σ H2 x y v u _ I2 r1 r2 q2) fun c s3 ⟨z,H3,I3,r3,k,e,q3⟩=>?_) hm
 subst e;cases r3;exact R7 ⟨H3,I3,q3⟩
def Cv(r r':R2) (ta tb tc:TE):TE:=fun σ H Q=>ta σ H fun x H1=>tb σ H1 fun y H2=>r x y H2 fun z H3=>∃k,z=.bl k /\
 (if k=true then tc σ H3 fun w' H4=>r' y w' H4 Q else Q (.bl false) H3)
theorem vJ{op op':CmpOp}{r r':R2}(ho:OpR X (L7 op) r) (ho':OpR X (L7 op') r') (ha:PE X a ta) (hb:PE X b tb) (hc:PE X c tc)
  (hm:lastMarks [op,op'] [b,c]=false:=by with_unfolding_all rfl):PT X (.Compare a [op,op'] [b,c] pos) (v4 (Cv r r' ta tb tc)):=by
 intro aa s σ H Q I h;refine isTrue_chain (thn (ha aa s σ H _ I h) fun v s1 hup=>hup.el fun x H1 I1 r1 q1=>test_link (thn (hb aa s1 σ H1 _ I1 q1) fun u s2 hup=>hup.el fun y H2 I2 r2 q2 =>
  thn (ho aa s2 σ H2 x y v u _ I2 r1 r2 q2) fun d s3 ⟨z,H3,I3,r3,k,e,q3⟩=>?_)) hm
 subst e;cases r3;refine R7 ?_;cases k with
 |false =>
  obtain⟨k',e',q'⟩:=q3;cases e';exact ite_ff ⟨H3,I3,q'⟩
 |true =>
  refine ite_tt (test_last (thn (hc aa s3 σ H3 _ I3 q3) fun w' s4 ⟨z',H4,I4,r4,q4⟩=>thn (ho' aa s4 σ H4 y z' u w' _ I4 r2 r4 q4) fun d' s5 ⟨z2,H5,I5,r5,k2,e2,q5⟩=>?_));subst e2;cases r5;exact R7 ⟨H5,I5,q5⟩
theorem kK:(F3:Nat)<2 ^ 63:=by rw[sizeLine_eq];decide
theorem rN:OpR X (O6 .Add) (fun x y H Q=>∃i j,x=.str i/\y=.str j/\i.length+j.length<=F3/\Q (.str (i++j)) H):=by
 intro aa s σ H x y v u Q I rx ry h;obtain⟨i,j,rfl,rfl,hz,q⟩:=h;obtain⟨t,rfl⟩:=rx;obtain⟨t',rfl⟩:=ry;exact add_str (fun t' tk=>⟨.str (i++j),H,I.tok _,⟨_,rfl⟩,q⟩) hz
theorem tN{x:V}{us:List F0}(r:ao [x] us):∃u,us=[u]/\aD x u:=by
 cases r with
 |cons r1 r2=>cases r2;exact⟨_,rfl,r1⟩
end
theorem jD.some_of{v:V}{o:Option F0}(r:jD (some v) o):∃u,o=some u/\aD v u:=by
 cases o with
 |none=>exact(show False from r).elim
 |some u=>exact⟨u,rfl,r⟩
section
variable{X:Cx}{aa:List (H0×Obj)}{σ:St}{H:Hp}{s:F1}{a C dx:H0}{fs:List (Str×V)}{f:Str}{v:V}{A:M9}{E:F0->F1->Prop}
theorem Inv.made(I:Inv X aa σ H s):Inv X aa σ (upd (upd H s.heap.objs.size (.own (s.heap.objs.size+1))) (s.heap.objs.size+1) (.ins C s.heap.objs.size []))
  { s with heap:=(s.heap.push O8).push (U9 C s.heap.objs.size) }:=by
 have e1:(s.heap.push O8).get? s.heap.objs.size=some O8:=F6 s.heap rfl;have e2:((s.heap.push O8).push (U9 C s.heap.objs.size)).get? (s.heap.objs.size+1)=some (U9 C s.heap.objs.size):=by
  have:=F6 (s.heap.push O8) (o:=U9 C s.heap.objs.size) rfl
  rwa [P0]at this
 have e3:(s.heap.push O8).Ns s.heap.objs.size (fun _=>none):=⟨O8,#[],_,e1,rfl,(fun e he=>absurd he (by simp)),fun _=>rfl⟩;have I1:=I.laid (a:=s.heap.objs.size) (o:=.own (s.heap.objs.size+1)) (h':=s.heap.push O8) (t':=s.toks) (fun b u q=>F2 _ q) (F8 _) ⟨_,e1⟩;refine I1.laid (a:=s.heap.objs.size+1) (o:=.ins C s.heap.objs.size []) (t':=s.toks) (fun b u q=>F2 _ q) (Nat.le_of_eq (P0 _ _)) ?_;have ne:s.heap.objs.size≠s.heap.objs.size+1:=I0 (O5 _);refine⟨by rw[aq ne,aA],P9 _,ne,e2,fun _=>none,(K2.Ns1.of_empty e3).at fun o q=>F2 _ q,fun _=>aa2,fun y hy=>absurd rfl hy⟩
end
structure cI(k:Nat) (A:M9):Prop where
 hd:A.handled=none
 dp:A.depth+3*k+5<recursionLimit
 un:A.units+16*k+200<aa7
theorem cI.mono{j k:Nat}{A:M9}(r:cI k A) (h:j<=k):cI j A:=⟨r.hd,by have:=r.dp;lia,by have:=r.un;lia⟩
theorem cI.deeper{k:Nat}{A:M9}(r:cI (k+1) A) (env:Env):cI k (A.deeper env) :=
 ⟨r.hd,by have:=r.dp;show A.depth+1+3*k+5<_;lia,by have:=r.un;show A.units+3+16*k+200<_;lia⟩
theorem cI.depth{k:Nat}{A:M9}(r:cI k A):A.depth<recursionLimit:=by have:=r.dp;lia
theorem cI.units{k:Nat}{A:M9}(r:cI k A):A.units+64<aa7:=by have:=r.un;lia
theorem cI.units0{k:Nat}{A:M9}(r:cI k A):A.units<aa7:=by have:=r.un;lia
def FR:TA:=fun _ H Q=>Q [] H
def El(ta:TE) (tr:TA):TA:=fun σ H Q=>ta σ H fun x H1=>tr σ H1 fun xs H2=>Q (x::xs) H2
section
variable{X:Cx}{e:J4}{es:List J4}{te:TE}{t:TA}{pos:Pos}
theorem oh:PA X [] FR:=fun _ _ _ _ H Q I h=>Calls.spliced_nil ⟨[],H,I,.nil,h⟩
theorem j0(ha:PE X e te) (hr:PA X es t) (hs:J5 (e::es) X.env=(false,V7 e X.env)::J5 es X.env:=by rfl):PA X (e::es) (El te t):=by
 intro pos aa s σ H Q I h;rw[hs];show J3 _ _ (spliced ((false,V7 e X.env)::V8 pos (J5 es X.env))) _ _ s;refine Calls.spliced_cons (thn (ha aa s σ H _ I h) fun u s1 hup=>hup.el fun x H1 I1 r1 q1=>?_);exact thn (hr pos aa s1 σ H1 _ I1 q1) fun us s2 hup=>hup.el fun xs H2 I2 r2 q2=>⟨x::xs,H2,I2,.cons r1 r2,q2⟩
def C2(t:TA):TE:=fun σ H Q=>t σ H fun xs H1=>xs.length<=F3/\∀p,H1 p=none->Q (.ref p) (upd H1 p (.tup xs))
def Fc(t:TA):TE:=fun σ H Q=>t σ H fun xs H1=>xs.length<=F3/\∀p,H1 p=none->Q (.ref p) (upd H1 p (.lst xs))
theorem kB{x1}(h:PA X es t):PE X (.Tuple es x1 pos) (C2 t):=by
 intro aa s σ H Q I hq;refine wpAny_Tuple_spliced (thn (h pos aa s σ H _ I hq) fun us s1 ⟨xs,H1,I1,r,z,q⟩=>⟨by rw[<-r.length];exact z,?_⟩);have hf:H1 s1.heap.objs.size=none:=I1.hok.fresh (F8 _);refine⟨.ref s1.heap.objs.size,upd H1 s1.heap.objs.size (.tup xs),I1.laid (t':=s1.toks) (fun b u e=>F2 _ e) (F8 _) ?_,rfl,q _ hf⟩;exact⟨z,us,r,⟨_,F6 _ rfl,rfl,⟨_,rfl⟩,rfl⟩⟩
theorem vY(h:PA X es t):PE X (.List es pos) (Fc t):=by
 intro aa s σ H Q I hq;refine wpAny_List_spliced (thn (h pos aa s σ H _ I hq) fun us s1 ⟨xs,H1,I1,r,z,q⟩=>⟨by rw[<-r.length];exact z,?_⟩);have hf:H1 s1.heap.objs.size=none:=I1.hok.fresh (F8 _);refine⟨.ref s1.heap.objs.size,upd H1 s1.heap.objs.size (.lst xs),I1.laid (t':=s1.toks) (fun b u e=>F2 _ e) (F8 _) ?_,rfl,q _ hf⟩;exact⟨z,us,0,r,F6 _ rfl⟩
end
abbrev Sp:=List V->Hp->VK->XK->Prop
abbrev CXT:=List Env->Hp->F1->XK->F0->F1->Prop
structure zf(P:K7) (w:P5) (K:o0) (mg:Str->Option F0) (base:K2) (A:M9) (outer:List Env) (s:F1) (H:Hp):Prop where
 frames:A.frames=some outer
 mod:Mod K mg base
 bs:∀b o,base.get? b=some o->s.heap.get? b=some o/\H b=none
 bsz:base.objs.size<=s.heap.objs.size
 funs:s.heap.FunFrames base outer
 frf:∀b∈frs outer,H b=none
 hok:HOk P w H s.heap
 bare:aa9 s.gens
def CE(outer:List Env) (P:K7) (w:P5) (H:Hp) (s:F1) (Q:VK) (u:F0) (s':F1):Prop :=
 ∃v H',s'.os=s.os/\aa9 s'.gens/\Un (frs outer) [] H H' s.heap s'.heap/\HOk P w H' s'.heap/\aD v u/\Q v H'
def CR(CX:CXT) (outer:List Env) (P:K7) (w:P5) (H:Hp) (s:F1) (Q:VK) (E:XK) (r:ad7) (s':F1):Prop :=
 match r with
 |.ok (.ret u)=>CE outer P w H s Q u s'
 |.ok _=>False
 |.error e=>CX outer H s E e s'
structure bq(P:K7) (w:P5) (K:o0) (mg:Str->Option F0) (base:K2) (CX:CXT) (k:Nat) (f:H0) (fd:V2) (ps:List Str) (sp:Sp):Prop where
 len:∀vs H Q E,sp vs H Q E->vs.length=ps.length
 run:∀(A:M9) (outer:List Env) (s:F1) (H:Hp) (args:Args) (us:List F0) (vs:List V) (Q:VK) (E:XK),cI k A->zf P w K mg base A outer s H->BindsTo s fd args (ps.zip us)->ao vs us->sp vs H Q E ->
  V3 (K1 P w) A (.call (.ref f) args) (CR CX outer P w H s Q E) s
section
variable{X:Cx}{aa:List (H0×Obj)}{σ:St}{H:Hp}{s s':F1}
theorem Inv.env0(I:Inv X aa σ H s):zf X.prog X.w X.K X.mg X.base X.A X.stack s H :=
 ⟨I.ok.frames,I.ok.mod,I.bs,L6 I.ok.bsz I.sz,I.stack,I.stkFree,I.hok,I.bare⟩
theorem Inv.after{Q:VK}{u:F0}(I:Inv X aa σ H s) (h:CE X.stack X.prog X.w H s Q u s'):EP X aa σ Q u s':=by
 obtain⟨v,H',os,bare,un,hok,r,q⟩:=h;obtain⟨hh,g,d,t,os'⟩:=s';obtain rfl:os'=s.os:=os;exact⟨v,H',I.call (h':=hh) (g':=g) (d':=d) (t':=t) (ch:=[]) un hok bare (fun b z=>absurd z (by simp)),r,q⟩
end
def ER(sp:Sp) (dvs:List V) (E:XK) (t:TA):TE:=fun σ H Q=>t σ H fun vs H1=>sp (vs++dvs) H1 Q E
def ef(K:o0) (fd:V2) (ps:List Str) (ds:List F0):Prop :=
 ∀(s:F1) (us:List F0),K.In s.heap->(us++ds).length=ps.length->BindsTo s fd ⟨us,[]⟩ (ps.zip (us++ds))
theorem ef.all{K:o0}{fd:V2}{ps:List Str}(h:∀us:List F0,us.length=ps.length->bindArgs fd ⟨us,[]⟩=W4 (ps.zip us)):ef K fd ps []:=fun s us _ hl=>by
 rw[Z0]at hl ⊢;exact .of_eq (h us hl)
def rF(CX:CXT) (X:Cx) (E:XK):Prop:=∀(aa:List (H0×Obj)) (σ:St) (H:Hp) (s:F1) (e:F0) (s':F1),Inv X aa σ H s->CX X.stack H s E e s'->X.xe e s'
section
variable{X:Cx}{CX:CXT}{k:Nat}{f C:H0}{fd:V2}{ps:List Str}{sp:Sp}{dvs:List V}{ds:List F0}{E:XK}{x m:Str}{p pos cM:Pos}{e o:J4}{es:List J4}{ta:TE}{t:TA}
theorem B7{aa:List (H0×Obj)}{σ:St}{H:Hp}{s:F1}{Q:VK}{us:List F0}{vs:List V}(F:bq X.prog X.w X.K X.mg X.base CX k f fd ps sp) (hr:cI k X.A) (hb:ef X.K fd ps ds) (hd:ao dvs ds) (hx:rF CX X E)
  (I:Inv X aa σ H s) (r:ao vs us) (h:sp (vs++dvs) H Q E):J3 (K1 X.prog X.w) X.A (call (.ref f) us) (EP X aa σ Q) X.xe s:=by
 have r2:ao (vs++dvs) (us++ds):=r.append hd;have hl:(us++ds).length=ps.length:=by rw[<-r2.length];exact F.len _ _ _ _ h
 refine wpAny_call (ab1 (F.run X.A X.stack s H ⟨us,[]⟩ (us++ds) (vs++dvs) Q E hr I.env0 (hb s us I.kIn hl) r2 h) fun r s' hq=>?_);cases r with
 |error e=>exact hx aa σ H s e s' I hq
 |ok fl =>
  cases fl with
  |ret u=>exact I.after hq
  |next=>exact U7 hq
  |brk=>exact U7 hq
  |cont=>exact U7 hq
theorem zK(F:bq X.prog X.w X.K X.mg X.base CX k f fd ps sp) (hr:cI k X.A) (hg:Gl X x) (hm:X.mg x=some (.ref f)) (hk:W5 X.K (.ref f)=true) (hb:ef X.K fd ps ds) (hd:ao dvs ds) (hx:rF CX X E)
  (ha:PA X (e::es) t) (hdb:(x==("__debug__":Str))=false:=by decide) (he:J5 (e::es) X.env=(false,V7 e X.env)::J5 es X.env:=by rfl) (hpl:(V8 pos (J5 es X.env)).any (·.1)=false:=by rfl) :
  PE X (.Call (.Name x p) (e::es) [] pos) (ER sp dvs E t):=by
 intro aa s σ H Q I h;refine wpAny_Call_Name_kw (zM I hg hm ?_ hdb);refine PySem.W.callWith_K (h₀:=X.base) I.ok.mod.kin hk (thn (ha pos aa s σ H _ I h) fun us s1 hup=>hup.el fun vs H1 I1 r q=>⟨I1.kIn,?_⟩) he hpl;exact B7 F hr hb hd hx I1 r q
end
structure aB(N P:List Str) (sc:R0):Prop where
 kind:sc.kind=.function
 co:sc.isCoroutine=false
 gen:sc.isGenerator=false
 nd:N.Nodup
 pre:N.take P.length=P
 par:∀x∈P,sc.names.lookup x=some .local∨sc.names.lookup x=some .cell
 nofree:∀y∈sc.names,y.2≠.free
theorem ng{aa3:Str->Option J7}{x:Str}:∀{binds:List (Str×F0)}{m:Str->Option F0},(∀v,(x,v)∉binds)->bindL aa3 binds m x=m x
 |[],_,_=>rfl
 |(n,v)::r,m,h=>by
  unfold bindL;rw[ng fun w hw=>h w (L3 _ hw)]
  split
  ·have:x≠n:=by rintro rfl;exact h v N0
   simp[this]
  ·rfl
theorem mY{aa3:Str->Option J7}{x:Str}:∀{binds:List (Str×F0)}{m:Str->Option F0},(∀v,(x,v)∉binds)->bindC aa3 binds m x=m x
 |[],_,_=>rfl
 |(n,v)::r,m,h=>by
  unfold bindC;rw[mY fun w hw=>h w (L3 _ hw)]
  split
  ·rfl
  ·have:x≠n:=by rintro rfl;exact h v N0
   simp[this]
theorem mW{aa3:Str->Option J7}{x:Str}{v:F0}:∀{P:List Str}{vs:List F0}{i:Nat}{m:Str->Option F0},P.Nodup->P[i]?=some x->vs[i]?=some v->aa3 x=some .local ->
  bindL aa3 (P.zip vs) m x=some v
 |[],_,_,_,_,h,_,_=>by simp at h
 |_::_,[],_,_,_,_,h,_=>by simp at h
 |p::P,w::vs,0,m,nd,h1,h2,hk=>by
  simp at h1 h2;subst h1;subst h2;show bindL aa3 ((p,w)::P.zip vs) m p=_;unfold bindL;rw[ng fun v hv=>(V4.mp nd).1 (List.of_mem_zip hv).1,if_pos hk];simp
 |p::P,w::vs,i+1,m,nd,h1,h2,hk=>by
  show bindL aa3 ((p,w)::P.zip vs) m x=_;unfold bindL;exact mW (i:=i) (V4.mp nd).2 (by simpa using h1) (by simpa using h2) hk
theorem mJ{aa3:Str->Option J7}{x:Str}{v:F0}:∀{P:List Str}{vs:List F0}{i:Nat}{m:Str->Option F0},P.Nodup->P[i]?=some x->vs[i]?=some v->aa3 x≠some .local ->
  bindC aa3 (P.zip vs) m x=some v
 |[],_,_,_,_,h,_,_=>by simp at h
 |_::_,[],_,_,_,_,h,_=>by simp at h
 |p::P,w::vs,0,m,nd,h1,h2,hk=>by
  simp at h1 h2;subst h1;subst h2;show bindC aa3 ((p,w)::P.zip vs) m p=_;unfold bindC;rw[mY fun v hv=>(V4.mp nd).1 (List.of_mem_zip hv).1,if_neg hk];simp
 |p::P,w::vs,i+1,m,nd,h1,h2,hk=>by
  show bindC aa3 ((p,w)::P.zip vs) m x=_;unfold bindC;exact mJ (i:=i) (V4.mp nd).2 (by simpa using h1) (by simpa using h2) hk
def fw(N:List Str) (vs:List V):St:=vs.map some++J1 (N.length-vs.length) none
noncomputable def nO(CX:CXT) (P:K7) (w:P5) (K:o0) (mg:Str->Option F0) (base:K2) (N:List Str) (qual:Str) (scope:R0) (f:H0) (cd:F0) (A:M9) (outer:List Env) (s:F1) (H:Hp) (E:XK):Cx where
 prog:=P
 w:=w
 K:=K
 mg:=mg
 base:=base
 A:=A.deeper (ac4 qual scope s.heap.objs.size f cd)
 N:=N
 s₀:=s
 H₀:=H
 env:=ac4 qual scope s.heap.objs.size f cd
 outer:=outer
 stack:=ac4 qual scope s.heap.objs.size f cd::outer
 ex:=[]
 calm:=true
 fn:=fun _=>true
 pn:=[]
 xe:=fun e s'=>J3 (K1 P w) (A.deeper (ac4 qual scope s.heap.objs.size f cd)) (leaving (ac4 qual scope s.heap.objs.size f cd) e) (fun _ s''=>CX outer H s E e s'') (fun e' s''=>CX outer H s E e' s'') s'
theorem qy{sc:R0}{n:Nat}{x:Str}(h:sc.names.lookup x=some .cell):∃c,(O7 n sc.names []).lookup x=some c:=by
 have q:=N7 sc.names n [] (.inl h);exact N9.mp q
theorem uF{CX:CXT}{P:K7}{w:P5}{K:o0}{mg:Str->Option F0}{base:K2}{N ps:List Str}{qual:Str}{scope:R0}{f:H0}{cd:F0}{A:M9}{outer:List Env}{s s1:F1}{H:Hp}{E:XK}{us:List F0}{vs:List V}
  (S:aB N ps scope) (hd:A.handled=none) (e0:zf P w K mg base A outer s H) (hl:vs.length=ps.length) (r:ao vs us)
  (x:InCallC s s.heap.objs.size (bindL (ac4 qual scope s.heap.objs.size f cd).kindOf (ps.zip us) fun _=>none) (O7 (s.heap.objs.size+1) scope.names []) (bindC (ac4 qual scope s.heap.objs.size f cd).kindOf (ps.zip us) fun _=>none) s1) :
  Inv (nO CX P w K mg base N qual scope f cd A outer s H E) [] (fw N vs) H s1:=by
 have hpl:ps.length<=N.length:=by have:=congrArg aa4 S.pre;rw[List.length_take]at this;lia
 obtain⟨h1,tk,rfl,hk⟩:=x.done;have noA:∀b:H0,b∉(nO CX P w K mg base N qual scope f cd A outer s H E).ex:=fun b z=>absurd (show b∈([]:List H0)from z) (by simp);refine⟨⟨e0.mod,S.kind,rfl,rfl,F8 _,fun y z c h1 h2=>?_,fun y hy=>?_,fun y c _ h=>?_,fun _=>hd,M9.frames_deeper e0.frames,.inr ⟨rfl,rfl⟩,fun b z=>absurd z (noA b),e0.bs,e0.bsz,fun b _ _=>noA b,fun b z=>absurd z (noA b),e0.funs,e0.frf⟩,
  rfl,e0.bare,Un.kept hk,⟨_,x.toInCall.ns,fun i y v h1 h2 h3=>?_⟩,fun y c h=>⟨_,x.cell y c h⟩,e0.hok.fresh (F8 _),fun y c h=>?_,fun p hp=>absurd (show p∈([]:List (H0×Obj))from hp) (by simp),e0.hok.kept hk,?_⟩
 ·exact name_of_addr x.apart (K3 h1) (K3 h2)
 ·have hy:scope.names.lookup y=some .cell∨scope.names.lookup y=some .free:=hy;rcases hy with hy|hy
  ·exact qy hy
  ·exact absurd rfl (S.nofree _ (K3 hy))
 ·exact Nat.le_of_lt (x.above y c (K3 h))
 ·have hi:i<vs.length:=by
   unfold fw at h2
   by_cases hi:i<vs.length
   ·exact hi
   ·rw[Q6 (by simpa using hi)]at h2;rw[S8]at h2
    split at h2<;>cases h2
  have ha:vs[i]?=some v:=by
   unfold fw at h2;rw[L9 (by simpa using hi),P6]at h2;cases e:vs[i]? with
   |none=>rw[e]at h2;cases h2
   |some a=>rw[e]at h2;cases h2;rfl
  obtain⟨u,hu,rv⟩:=r.get ha;have hp:ps[i]?=some y:=by
   rw[<-S.pre,List.getElem?_take_of_lt (by lia)];exact h1
  have ndP:ps.Nodup:=by rw[<-S.pre];exact S.nd.sublist (List.take_sublist _ _)
  refine⟨u,rv,?_⟩;rcases S.par y (List.mem_of_getElem? hp)with k|k
  ·exact .inl ⟨k,mW ndP hp hu k⟩
  ·obtain⟨c,e⟩:=qy (n:=s.heap.objs.size+1) k;refine .inr ⟨.inl k,c,e,?_⟩;have q:=x.cell y c e;rw[mJ ndP hp hu (by show scope.names.lookup y≠_;rw[k];decide)]at q;exact q
 ·exact e0.hok.fresh (Nat.le_of_lt (x.above y c (K3 h)))
 ·unfold fw;show _=N.length;rw[L8,Z1,List.length_replicate]
  lia
theorem AB{CX:CXT}{P:K7}{w:P5}{K:o0}{mg:Str->Option F0}{base:K2}{k:Nat}{f:H0}{name qual:Str}{params:Arguments}{body:List ab0}{scope:R0}{dV kV doc pm cdv ct oc:F0}{an od:Option H0}
  {osl:Array (Option F0)} {N ps:List Str} {sp:Sp} (lk:K.lookup f=some ⟨oc,od,.func (X0 name qual params body scope dV kV doc pm an cdv ct),osl⟩) (hcd:PySem.W.codeIn K cdv qual=true) (S:aB N ps scope)
  (len:∀vs H Q E,sp vs H Q E->vs.length=ps.length)
  (hbody:∀ (A:M9) (outer:List Env) (s:F1) (H:Hp) (vs:List V) (Q:VK) (E:XK),cI k (A.deeper (ac4 qual scope s.heap.objs.size f cdv)) → sp vs H Q E →
   ∃t,PSs (nO CX P w K mg base N qual scope f cdv A outer s H E) body t/\t { nx:=fun _ H'=>Q .non H',rt:=Q } (fw N vs) H) :
  bq P w K mg base CX (k+1) f (X0 name qual params body scope dV kV doc pm an cdv ct) ps sp:=by
 refine⟨len,fun A outer s H args us vs Q E hr e0 hb r hsp=>?_⟩;have hl:=len _ _ _ _ hsp;have KX:K.In s.heap:=e0.mod.kin.keeps fun b o e=>(e0.bs b o e).1;have lim:s.heap.NoLimit:=e0.mod.nolimit.keeps fun b o e=>(e0.bs b o e).1;have hkind:∀y∈ps.zip us,scope.names.lookup y.1=some .local∨(scope.names.lookup y.1=some .cell/\((O7 (s.heap.objs.size+1) scope.names []).lookup y.1).isSome=true):=fun⟨n,v⟩ hy=>by
  rcases S.par n (List.of_mem_zip hy).1 with q|q
  ·exact .inl q
  ·exact .inr ⟨q,N7 _ _ _ (.inl q)⟩
 refine codeAny_call_function hr.depth (KX _ _ lk) rfl S.co S.gen rfl (PySem.W.codeRec_of KX hcd) (hb _ _ _ _ ?_);refine wpAny_newFunctionEnv_cells S.kind hkind fun env he s1 x=>?_;subst he;refine⟨lim.keeps x.toInCall.keep,codeAny_func ?_⟩;obtain⟨t,ht,hq⟩:=hbody A outer s H vs Q E (hr.deeper _) hsp;have I:Inv (nO CX P w K mg base N qual scope f cdv A outer s H E) [] (fw N vs) H s1:=uF S hr.hd e0 hl r x;refine K8 (ht [] s1 (fw N vs) H _ I hq) (fun fl s' hs=>?_) fun e s' hs=>hs;have fin:∀{σ':St} {H':Hp} {v:V} {u:F0},Inv (nO CX P w K mg base N qual scope f cdv A outer s H E) [] σ' H' s'->aD v u->Q v H'->CE outer P w H s Q u s' :=
  fun {σ' H' v u} J rv q=>⟨v,H',J.os,J.bare,J.base,J.hok,rv,q⟩
 cases fl with
 |ret u =>
  obtain⟨v,σ',H',J,rv,q⟩:=hs;exact fin J rv q
 |next =>
  obtain⟨σ',H',J,q⟩:=hs;exact fin (v:=V.non) (u:=V9) J rfl q
 |brk =>
  obtain⟨_,_,_,q⟩:=hs;exact U7 q
 |cont =>
  obtain⟨_,_,_,q⟩:=hs;exact U7 q
section
variable{X:Cx}{x:Str}{p pos:Pos}{e:J4}{es:List J4}{t:TA}{id T:String}{r:List V->Hp->VK->Prop}
def tCB(r:List V->Hp->VK->Prop) (t:TA):TE:=fun σ H Q=>t σ H fun vs H1=>r vs H1 Q
theorem v9(hc:dP X (.builtin id) r) (hg:Gl X x) (hm:X.mg x=none) (hv:T5 x=some (.builtin id)) (ha:PA X (e::es) t) (hn:x≠"__name__":=by decide) (hdb:(x==("__debug__":Str))=false:=by decide)
  (he:J5 (e::es) X.env=(false,V7 e X.env)::J5 es X.env:=by rfl) (hpl:(V8 pos (J5 es X.env)).any (·.1)=false:=by rfl):PE X (.Call (.Name x p) (e::es) [] pos) (tCB r t):=by
 intro aa s σ H Q I h;refine wpAny_Call_Name_kw (di I hg hm hv ?_ hn hdb);exact PyProof.Rows.callWith_builtin1 (thn (ha pos aa s σ H _ I h) fun us s1 hup=>hup.el fun vs H1 I1 r1 q1=>hc aa s1 σ H1 vs us Q I1 r1 q1) he hpl
theorem uw(hc:dP X (.type T) r) (hg:Gl X x) (hm:X.mg x=none) (hv:T5 x=some (.type T)) (ha:PA X (e::es) t) (hn:x≠"__name__":=by decide) (hdb:(x==("__debug__":Str))=false:=by decide)
  (he:J5 (e::es) X.env=(false,V7 e X.env)::J5 es X.env:=by rfl) (hpl:(V8 pos (J5 es X.env)).any (·.1)=false:=by rfl):PE X (.Call (.Name x p) (e::es) [] pos) (tCB r t):=by
 intro aa s σ H Q I h;refine wpAny_Call_Name_kw (di I hg hm hv ?_ hn hdb);exact O1 (thn (ha pos aa s σ H _ I h) fun us s1 hup=>hup.el fun vs H1 I1 r1 q1=>hc aa s1 σ H1 vs us Q I1 r1 q1) he hpl
end
end L2
namespace HT
open PySem PyProof.Rows
section
open PySem.SeqAt
open PySem.AutoSeq1 (wpAny_loadPart')
open PySem.MeetsSeq PySem.MeetsSeq2 PySem.MeetsSeq3
end
section
variable{prog:K7}{w:P5}{A:M9}{E:F0->F1->Prop}{s:F1}
theorem cat_tup{t b:H0}{vs ws:List F0}{Q:F0->F1->Prop}(ht:ac7 s.heap t vs.toArray) (hb:ac7 s.heap b ws.toArray) (hv:vs≠[])
  (h1:ws=[]->Q (.ref t) s) (h2:ws≠[]->Q (.ref s.heap.objs.size) { s with heap:=s.heap.push { cls:=.type "tuple",data:=.seq (vs++ws).toArray } })
  (hsz:vs.length+ws.length<=F3):J3 (K1 prog w) A (O6 .Add (.ref t) (.ref b)) Q E s:=by
 obtain⟨⟨cls,dd,data,sl⟩,ho,hc,n,hd⟩:=id ht;obtain⟨⟨cls2,dd2,data2,sl2⟩,ho2,hc2,n2,hd2⟩:=id hb;simp only at hc hd hc2 hd2;subst hc hd hc2 hd2;have e:vs.toArray++ws.toArray=(vs++ws).toArray:=by simp
 by_cases hw:ws=[]
 ·exact concat_meets ⟨_,ho,rfl⟩ ⟨_,ho2,rfl⟩ noFill_tuple_add seq_tuple_add PySem.F.slot_tuple_add PySem.F.entry_tuple_add (PySem.F.args_tuple_add_2 _ _)
   (tuple_addW1 t b vs.toArray ws.toArray n n2 dd dd2 sl sl2 (by simpa using hv) (by simp[hw])) ⟨ho,ho2,h1 hw⟩
 ·refine concat_meets ⟨_,ho,rfl⟩ ⟨_,ho2,rfl⟩ noFill_tuple_add seq_tuple_add PySem.F.slot_tuple_add PySem.F.entry_tuple_add (PySem.F.args_tuple_add_2 _ _)
   (tuple_addW2 t b vs.toArray ws.toArray n n2 dd dd2 sl sl2 (by simpa using hv) (by simpa using hw) (by rw[F5,F5];exact hsz)) ⟨ho,ho2,?_⟩
  rw[e];exact h2 hw
noncomputable def sIx(n d:Nat):Option Int->Nat
 |none=>d
 |some v=>if v<0 then(v+(n:Int)).toNat else min v.toNat n
theorem sIx_none(n d:Nat):sIx n d none=d:=rfl
theorem sIx_nat(n d k:Nat):sIx n d (some (k:Int))=min k n:=by
 show(if(k:Int)<0 then((k:Int)+(n:Int)).toNat else min (k:Int).toNat n)=min k n;rw[if_neg (by lia),Int.toNat_natCast]
theorem Bn(n d:Nat) (hd:d<=n) (o:Option Int):sIx n d o<=n:=by
 cases o with
 |none=>exact hd
 |some v =>
  show(if v<0 then(v+(n:Int)).toNat else min v.toNat n)<=n
  by_cases hv:v<0
  ·rw[if_pos hv];lia
  ·rw[if_neg hv];exact Nat.min_le_right _ _
theorem tP(v:Int) (n d:Nat):(if v<0 then max (v+(n:Int)) 0 else min v (n:Int))=((sIx n d (some v):Nat):Int):=by
 show(if v<0 then max (v+(n:Int)) 0 else min v (n:Int))=(((if v<0 then(v+(n:Int)).toNat else min v.toNat n):Nat):Int)
 by_cases hv:v<0
 ·simp only[if_pos hv];lia
 ·simp only[if_neg hv];lia
theorem qX(lo hi:Option Int) (n:Nat):J8.Slice.sliceAdjust lo hi 1 (n:Int)=(((sIx n 0 lo:Nat):Int),((sIx n n hi:Nat):Int)):=by
 have h1:¬ ((1:Int)<0):=by lia
 unfold J8.Slice.sliceAdjust;simp only[h1,if_false];refine Prod.ext ?_ ?_
 ·cases lo with
  |none=>rfl
  |some v=>exact tP v n 0
 ·cases hi with
  |none=>rfl
  |some v=>exact tP v n n
theorem qH(i j:Nat):R4 (i:Int) (j:Int) 1=j-i:=by
 unfold R4;have h1:(1:Int) > 0:=by lia
 simp only[h1,if_true,Int.ediv_one]
 split<;>lia
theorem kn{v:F0}{o:Option Int}{Q:Option Int->F1->Prop}(p:ac5 v o) (h:Q o s):J3 (K1 prog w) A (J8.Slice.slicePartIndex v) Q E s:=by
 cases p with
 |none=>exact slicePart_none h
 |int i t=>exact slicePart_int h
theorem eh{sl:H0}{vl vu:F0}{lo hi:Option Int}{n:Nat}{Q:Int×Int×Nat->F1->Prop}(hs:s.heap.IsSliceOf sl vl vu .none) (pl:ac5 vl lo) (pu:ac5 vu hi)
  (h:Q (((sIx n 0 lo:Nat):Int),1,sIx n n hi-sIx n 0 lo) s):J3 (K1 prog w) A (J8.Slice.sliceApplied (.ref sl) (W4 (n:Int))) Q E s:=by
 obtain⟨os,hos,hcs,hds⟩:=id hs;unfold J8.Slice.sliceApplied J8.Slice.sliceFields;refine u8 (u8 (Q0 hos hds (x:=vl) rfl (u8 (Q0 hos hds (x:=vu) rfl (u8 (Q0 hos hds (x:=.none) rfl (F7 ?_)))))));refine u8 (slicePart_none ?_);show J3 _ _ (if((1:Int)==0)=true then _ else _) _ _ s;rw[if_neg (by decide)];refine u8 (kn pl (u8 (kn pu (u8 (F7 ?_)))));show J3 _ _ (match J8.Slice.sliceAdjust lo hi 1 (n:Int)with|(lo,hi)=>W4 (lo,(1:Int),R4 lo hi 1)) _ _ s;rw[qX lo hi n];show J3 _ _ (W4 (((sIx n 0 lo:Nat):Int),(1:Int),R4 ((sIx n 0 lo:Nat):Int) ((sIx n n hi:Nat):Int) 1)) _ _ s;rw[qH];exact F7 h
theorem xa(xs:Array F0) (i k:Nat):((W0 k).filterMap fun(m:Nat)=>xs[((i:Int)+(m:Int)*1).toNat]?).toArray=((xs.toList.drop i).take k).toArray:=by
 have e:(fun(m:Nat)=>xs[((i:Int)+(m:Int)*1).toNat]?)=fun m=>xs[i+m]?:=by
  funext m;have:((i:Int)+(m:Int)*1).toNat=i+m:=by lia
  rw[this]
 rw[e];have:=pick_run xs i k;rw[List.filterMap_map]at this;have e2:((fun x=>xs[x]?)∘fun x=>i+x)=fun m=>xs[i+m]?:=rfl;rw[e2]at this;rw[this]
theorem getItem_tuple_cut{t sl:H0}{items:Array F0}{vl vu:F0}{lo hi:Option Int}{Q:F0->F1->Prop}(ht:ac7 s.heap t items) (hs:s.heap.IsSliceOf sl vl vu .none) (pl:ac5 vl lo) (pu:ac5 vu hi)
  (hw:¬ (sIx items.size 0 lo=0/\sIx items.size items.size hi=items.size))
  (h:Q (.ref s.heap.objs.size) { s with heap:=s.heap.push { cls:=.type "tuple",data:=.seq ((items.toList.drop (sIx items.size 0 lo)).take (sIx items.size items.size hi-sIx items.size 0 lo)).toArray } })
  (hsz:items.size<=F3):J3 (K1 prog w) A (aa5 (.ref t) (.ref sl)) Q E s:=by
 have htake:sizeOk (.seq ((items.toList.drop (sIx items.size 0 lo)).take (sIx items.size items.size hi-sIx items.size 0 lo)).toArray):=by
  show((items.toList.drop (sIx items.size 0 lo)).take (sIx items.size items.size hi-sIx items.size 0 lo)).toArray.size<=F3;rw[F5,List.length_take,List.length_drop,U6]
  lia
 have hj:sIx items.size items.size hi<=items.size:=Bn _ _ (F8 _) hi;obtain⟨os,hos,hcs,hds⟩:=id hs;have hTs:s.TypeIs (.ref sl) "slice":=⟨os,hos,hcs⟩;unfold aa5
 try with_reducible refine X5 ?_
 first|refine u8 (F7 ?_)|skip
 refine u8 (wpAny_sequenceKey ht.typeIs (by decide) ?_);refine u8 (O2 (name:=U8 "__getitem__") ht.typeIs M7
  (Q8 M7 ht.typeIs entry_tuple_getitem ?_ (args_tuple_getitem _ _)))
 show J3 _ _ (J8.Tuple.tupleItemsOf (.ref t) >>= _) _ _ s;refine u8 (tupleItemsOf_ ht ?_);refine u8 (wpAny_typeOf hTs ?_);rw[if_pos (by decide)];refine u8 (eh hs pl pu ?_);have hno:¬ ((((sIx items.size 0 lo:Nat):Int)==0&&(1:Int)==1&&(sIx items.size items.size hi-sIx items.size 0 lo)==items.size)=true):=by
  intro q;rw[K0,K0]at q;have q1:((sIx items.size 0 lo:Nat):Int)=0:=eq_of_beq q.1.1;have q2:sIx items.size items.size hi-sIx items.size 0 lo=items.size:=eq_of_beq q.2;exact hw ⟨by lia,by lia⟩
 show J3 _ _ (if(((sIx items.size 0 lo:Nat):Int)==0&&(1:Int)==1&&(sIx items.size items.size hi-sIx items.size 0 lo)==items.size)=true then _ else _) _ _ s;rw[if_neg hno,xa]
 first
  |exact u8 (m:=N2 _) (L5 (F7 ⟨_,rfl,F7 h⟩) htake)
  |exact u8 (m:=N2 _) (L5 (u8 (F7 (F7 ⟨_,rfl,F7 h⟩))) htake)
  |exact u8 (u8 (m:=N2 _) (L5 (F7 (F7 ⟨_,rfl,F7 h⟩)) htake))
  |exact u8 (u8 (m:=N2 _) (L5 (F7 ⟨_,rfl,F7 h⟩) htake))
end
end HT
namespace L2
open PySem PySem.Spec PyProof.Rows
abbrev TO:=St->Hp->(Option Int->Hp->Prop)->Prop
def PO(X:Cx) (e:Option J4) (t:TO):Prop :=
 ∀(aa:List (H0×Obj)) (s:F1) (σ:St) (H:Hp) (Q:Option Int->Hp->Prop),Inv X aa σ H s->t σ H Q ->
  J3 (K1 X.prog X.w) X.A (evalPart e X.env) (fun u s'=>∃o H',Inv X aa σ H' s'/\ac5 u o/\Q o H') X.xe s
def yA:TO:=fun _ H Q=>Q none H
def DS(t:TE):TO:=fun σ H Q=>t σ H fun x H1=>∃i,x=.int i/\Q (some i) H1
section
variable{X:Cx}{e:J4}{te:TE}{lo hi:Option J4}{tl th:TO}{pos p2:Pos}
theorem yw:PO X none yA:=by
 intro aa s σ H Q I h;rw[evalPart_none];exact F7 ⟨none,H,I,.none,h⟩
theorem zU(h:PE X e te):PO X (some e) (DS te):=by
 intro aa s σ H Q I hw;rw[evalPart_some];refine thn (h aa s σ H _ I hw) fun u s1 hup=>hup.el fun x H1 I1 r1 q1=>?_;obtain⟨i,rfl,q⟩:=q1;obtain⟨t,rfl⟩:=r1;exact⟨some i,H1,I1,.int i t,q⟩
def SlR(X:Cx) (r:V->Option Int->Option Int->Hp->VK->Prop):Prop :=
 ∀(aa:List (H0×Obj)) (s:F1) (σ:St) (H:Hp) (x:V) (v vl vu:F0) (lo hi:Option Int) (sl:H0) (Q:VK),Inv X aa σ H s->aD x v->s.heap.IsSliceOf sl vl vu .none->ac5 vl lo->ac5 vu hi->r x lo hi H Q ->
  ∃T id,typeLookup (.type T) "__getitem__"=W4 (some (.builtin id))/\s.TypeIs v T/\J3 (K1 X.prog X.w) X.A (aa5 v (.ref sl)) (EP X aa σ Q) X.xe s
theorem SlR.or{r r':V->Option Int->Option Int->Hp->VK->Prop}(h:SlR X r) (h':SlR X r'):SlR X (fun x lo hi H Q=>r x lo hi H Q∨r' x lo hi H Q):=by
 intro aa s σ H x v vl vu lo hi sl Q I rx hs pl pu q;rcases q with q|q
 ·exact h aa s σ H x v vl vu lo hi sl Q I rx hs pl pu q
 ·exact h' aa s σ H x v vl vu lo hi sl Q I rx hs pl pu q
def tSl(r:V->Option Int->Option Int->Hp->VK->Prop) (te:TE) (tl th:TO):TE:=fun σ H Q=>te σ H fun x H1=>tl σ H1 fun l H2=>th σ H2 fun u H3=>r x l u H3 Q
theorem wF{r:V->Option Int->Option Int->Hp->VK->Prop}(hr:SlR X r) (he:PE X e te) (hl:PO X lo tl) (hu:PO X hi th):PE X (.Subscript e (.Slice lo hi none p2) pos) (tSl r te tl th):=by
 intro aa s σ H Q I h;refine Subscript_ (thn (he aa s σ H _ I h) fun v s1 hup=>hup.el fun x H1 I1 r1 q1=>?_);refine wpAny_Slice (thn (hl aa s1 σ H1 _ I1 q1) fun vl s2 ⟨l,H2,I2,pl,q2⟩=>thn (hu aa s2 σ H2 _ I2 q2) fun vu s3 ⟨u,H3,I3,pu,q3⟩=>?_);rw[evalPart_none];refine F7 ?_;have I4:Inv X aa σ H3 { s3 with heap:=s3.heap.push { cls:=.type "slice",data:=.fields #[vl,vu,.none] } }:=I3.kept (t':=s3.toks) fun b ob q=>F2 _ q;obtain⟨T,id,hT,ht,hg⟩:=hr aa { s3 with heap:=s3.heap.push { cls:=.type "slice",data:=.fields #[vl,vu,.none] } } σ H3 x v vl vu l u s3.heap.objs.size Q I4 r1 (K2.IsSliceOf.new ..) pl pu q3;show J3 (K1 X.prog X.w) X.A (subscriptTail e (.Slice lo hi none p2) v (.ref s3.heap.objs.size)) (EP X aa σ Q) X.xe { s3 with heap:=s3.heap.push { cls:=.type "slice",data:=.fields #[vl,vu,.none] } };exact tail_any (ops:=[.ref s3.heap.objs.size,v]) ht hT hg (by with_unfolding_all rfl)
def nM(xs:List V) (lo hi:Option Int):List V:=(xs.drop (HT.sIx xs.length 0 lo)).take (HT.sIx xs.length xs.length hi-HT.sIx xs.length 0 lo)
theorem je(xs:List V) (lo hi:Option Int):(nM xs lo hi).length<=xs.length:=by
 unfold nM;rw[List.length_take,List.length_drop]
 lia
def FC(K:o0):V->Option Int->Option Int->Hp->VK->Prop:=fun x lo hi H Q=>∃a xs,x=.ref a/\SqT K H a xs /\
 ¬ (HT.sIx xs.length 0 lo=0/\HT.sIx xs.length xs.length hi=xs.length)/\∀p,H p=none->Q (.ref p) (upd H p (.tup (nM xs lo hi)))
theorem CI:SlR X (FC X.K):=by
 intro aa s σ H x v vl vu lo hi sl Q I rx hs pl pu h;obtain⟨a,xs,rfl,hx,hw,q⟩:=h;cases rx;obtain⟨its,r,ht,hz⟩:=I.tuple hx;have bv:its.toArray.size=xs.length:=by rw[F5];exact r.length.symm
 refine⟨"tuple",_,M7.lookup,ht.typeIs,?_⟩;refine HT.getItem_tuple_cut ht hs pl pu (by rw[bv];exact hw) ?_ (by rw[bv];exact hz);rw[bv];refine⟨.ref s.heap.objs.size,_,I.laid (t':=s.toks) (o:=.tup (nM xs lo hi)) (fun b ob q=>F2 _ q) (F8 _) ?_,rfl,q _ (I.hok.fresh (F8 _))⟩;exact⟨L6 (je xs lo hi) hz,_,(r.drop (HT.sIx xs.length 0 lo)).take (HT.sIx xs.length xs.length hi-HT.sIx xs.length 0 lo),kH.new _ _⟩
def Dy(K:o0):R2:=fun x y H Q=>∃a b xs ys,x=.ref a/\y=.ref b/\SqT K H a xs/\SqT K H b ys/\xs≠[]/\xs.length+ys.length<=F3 /\
 (ys=[]->Q (.ref a) H)/\(ys≠[]->∀p,H p=none->Q (.ref p) (upd H p (.tup (xs++ys))))
theorem ao.nil_iff{xs:List V}{us:List F0}(r:ao xs us):us=[]↔xs=[]:=by
 cases r with
 |nil=>simp
 |cons _ _=>simp
theorem zN:OpR X (O6 .Add) (Dy X.K):=by
 intro aa s σ H x y v u Q I rx ry h;obtain⟨a,b,xs,ys,rfl,rfl,ha,hb,hx,hz,q1,q2⟩:=h;cases rx;cases ry;obtain⟨its,r1,p1,_⟩:=I.tuple ha;obtain⟨its2,r2,p2,_⟩:=I.tuple hb;refine HT.cat_tup p1 p2 (fun z=>hx (r1.nil_iff.mp z)) (fun z=>⟨.ref a,H,I,rfl,q1 (r2.nil_iff.mp z)⟩) (fun z=>?_) (by rw[<-r1.length,<-r2.length];exact hz);refine⟨.ref s.heap.objs.size,_,I.laid (t':=s.toks) (o:=.tup (xs++ys)) (fun b ob q=>F2 _ q) (F8 _) ?_,rfl,q2 (fun w=>z (r2.nil_iff.mpr w)) _ (I.hok.fresh (F8 _))⟩;exact⟨by rw[L8];exact hz,_,r1.append r2,kH.new _ _⟩
end
noncomputable def ixN(n:Nat) (i:Int):Option Nat:=if 0<=i then(if i<n then some i.toNat else none)else if -(n:Int)<=i then some (i+n).toNat else none
def atI{α:Type}(xs:List α) (i:Int):Option α:=(ixN xs.length i).bind fun j=>xs[j]?
theorem yc{n:Nat}{i:Int}{j:Nat}(h:ixN n i=some j):seqIndex? i n=some j/\j<n/\-(n:Int)<=i/\i<n:=by
 unfold ixN at h
 by_cases h0:0<=i
 ·rw[if_pos h0]at h
  by_cases h1:i<n
  ·rw[if_pos h1]at h;have e:i.toNat=j:=J9 h;exact⟨by rw[seqIndex_of h0 h1,e],by lia,by lia,h1⟩
  ·rw[if_neg h1]at h;cases h
 ·rw[if_neg h0]at h
  by_cases h1:-(n:Int)<=i
  ·rw[if_pos h1]at h;have e:(i+n).toNat=j:=J9 h;exact⟨by rw[seqIndex_neg (by lia) h1,e],by lia,h1,by lia⟩
  ·rw[if_neg h1]at h;cases h
theorem oH{α:Type}{xs:List α}{i:Int}{v:α}(h:atI xs i=some v):∃j,seqIndex? i xs.length=some j/\xs[j]?=some v/\j<xs.length/\-(xs.length:Int)<=i/\i<xs.length:=by
 unfold atI at h;cases e:ixN xs.length i with
 |none=>rw[e]at h;cases h
 |some j =>
  rw[e]at h;obtain⟨h1,h2,h3,h4⟩:=yc e;exact⟨j,h1,h,h2,h3,h4⟩
theorem cy{α:Type}{xs:List α}{j:Nat}{v:α}(h:xs[j]?=some v):atI xs (j:Int)=some v:=by
 have hj:j<xs.length:=(K6.mp h).1;have e:ixN xs.length (j:Int)=some j:=by
  unfold ixN;rw[if_pos (by lia),if_pos (by lia)];simp
 unfold atI;rw[e];exact h
def sT(b:J4):Prop:=∀o i,ab9 b false o i=operate [o,i] (aa5 o i)
def IxR(X:Cx) (r:R2):Prop :=
 ∀(value slice:J4) (aa:List (H0×Obj)) (s:F1) (σ:St) (H:Hp) (x y:V) (v u:F0) (Q:VK),Inv X aa σ H s->aD x v->aD y u->r x y H Q ->
  ab9 slice false v u=operate [v,u] (aa5 v u)->J3 (K1 X.prog X.w) X.A (subscriptTail value slice v u) (EP X aa σ Q) X.xe s
def MtR(X:Cx) (id:String) (r:V->List V->Hp->VK->Prop):Prop :=
 ∀(aa:List (H0×Obj)) (s:F1) (σ:St) (H:Hp) (x:V) (xs:List V) (v:F0) (us:List F0) (Q:VK),Inv X aa σ H s->aD x v->ao xs us->r x xs H Q ->
  J3 (K1 X.prog X.w) X.A (call (.builtin id) (v::us)) (EP X aa σ Q) X.xe s
section
variable{X:Cx}{a b:J4}{ta tb:TE}{pos:Pos}
theorem Ds{r:R2}(hr:IxR X r) (ha:PE X a ta) (hb:PE X b tb) (hs:sT b):PE X (.Subscript a b pos) (tOp r ta tb):=by
 intro aa s σ H Q I h;exact Subscript_ (Bw ha hb I h fun v u s2 x y H2 I2 rx ry q=>hr a b aa s2 σ H2 x y v u Q I2 rx ry q (hs _ _))
def Fh(K:o0):R2:=fun x y H Q=>∃p xs i v,x=.ref p/\y=.int i/\SqL K H p xs/\atI xs i=some v/\Q v H
def Fw(K:o0):R2:=fun x y H Q=>∃p xs i v,x=.ref p/\y=.int i/\SqT K H p xs/\atI xs i=some v/\Q v H
def Fd:R2:=fun x y H Q=>∃z i c,x=.str z/\y=.int i/\z.length<=F3/\atI z.cps.toList i=some c/\Q (.str ⟨#[c]⟩) H
theorem tm:IxR X (Fh X.K):=by
 intro value slice aa s σ H x y v u Q I rx ry h hs;obtain⟨p,xs,i,z,rfl,rfl,hq,he,q⟩:=h;cases rx;obtain⟨t,rfl⟩:=ry;obtain⟨its,r,pl,hz⟩:=I.list hq;obtain⟨j,h1,h2,h3,h4,h5⟩:=oH he;obtain⟨w,ew,rw'⟩:=r.get h2;have hl:=r.length;have hn:=kK;have fin:EP X aa σ Q w s:=⟨z,H,I,rw',q⟩
 by_cases h0:0<=i
 ·have hj:i.toNat=j:=by
   rw[seqIndex_of h0 h5]at h1;exact J9 h1
  exact item_listR pl.isList h0 (by lia) (by rw[hj];simpa using ew) fin hs
 ·have hj:(i+(its.toArray.size:Int)).toNat=j:=by
   rw[seqIndex_neg (by lia) h4]at h1;rw[F5,<-hl];exact J9 h1
  exact subscriptTail_builtinR (x:=w) pl.isList.typeIs slot_list_getitem.lookup
   (wpAny_getItem_list_neg (Q:=fun r s'=>r=w/\EP X aa σ Q r s') pl.isList (by lia) (by rw[F5]<;>lia) (by lia) (by rw[hj];simpa using ew) ⟨rfl,fin⟩) hs
theorem BD:IxR X (Fw X.K):=by
 intro value slice aa s σ H x y v u Q I rx ry h hs;obtain⟨p,xs,i,z,rfl,rfl,hq,he,q⟩:=h;cases rx;obtain⟨t,rfl⟩:=ry;obtain⟨its,r,pl,hz⟩:=I.tuple hq;obtain⟨j,h1,h2,h3,h4,h5⟩:=oH he;obtain⟨w,ew,rw'⟩:=r.get h2;have hl:=r.length;have hn:=kK;have fin:EP X aa σ Q w s:=⟨z,H,I,rw',q⟩;exact subscriptTail_builtinR (x:=w) pl.typeIs slot_tuple_getitem.lookup
  (getItem_tuple (j:=j) (Q:=fun r s'=>r=w/\EP X aa σ Q r s') pl (by lia) (by lia) (by rw[F5,<-hl];exact h1) (by simpa using ew) ⟨rfl,fin⟩) hs
theorem BG:IxR X Fd:=by
 intro value slice aa s σ H x y v u Q I rx ry h hs;obtain⟨z,i,c,rfl,rfl,hz,he,q⟩:=h;obtain⟨t,rfl⟩:=rx;obtain⟨t',rfl⟩:=ry;obtain⟨j,h1,h2,h3,h4,h5⟩:=oH he;have hl:z.cps.toList.length=z.length:=by simp[Str.length]
 rw[hl]at h1 h4 h5;have hn:=kK;exact tail_any (typeIs_str s z t) slot_str_getitem.lookup (getItem_str (c:=c) (by
  have e1:decide (i < -(2 ^ 63:Int))=false:=decide_eq_false (by lia);have e2:decide (i>=2 ^ 63)=false:=decide_eq_false (by lia);rw[e1,e2,Bool.or_false]) (by rw[h1];simpa using h2) ⟨.str ⟨#[c]⟩,H,I.tok _,⟨_,rfl⟩,q⟩) hs
theorem Inv.lst{aa:List (H0×Obj)}{σ:St}{H:Hp}{s:F1}{p:H0}{xs:List V}(I:Inv X aa σ H s) (h:H p=some (.lst xs)) :
  ∃(its:List F0) (n:Nat),ao xs its/\s.heap.get? p=some { cls:=.type "list",data:=.seq its.toArray n }/\xs.length<=F3:=by
 obtain⟨z,its,n,r,e⟩:=I.hok p _ h;exact⟨its,n,r,e,z⟩
theorem oM(lo hi:Option Int) (n:Nat):(T8 lo hi none n).1=((HT.sIx n 0 lo:Nat):Int)/\(T8 lo hi none n).2.1=((HT.sIx n n hi:Nat):Int)/\(T8 lo hi none n).2.2=1:=by
 refine⟨?_,?_,rfl⟩
 ·cases lo with
  |none=>simp[T8,HT.sIx]
  |some i =>
   simp only[T8,HT.sIx,Option.getD_none,show(1:Int) > 0 by decide,if_true]
   by_cases h:i<0
   ·simp only[h,if_true]<;>lia
   ·simp only[h,if_false]<;>lia
 ·cases hi with
  |none=>simp[T8,HT.sIx]
  |some i =>
   simp only[T8,HT.sIx,Option.getD_none,show(1:Int) > 0 by decide,if_true]
   by_cases h:i<0
   ·simp only[h,if_true]<;>lia
   ·simp only[h,if_false]<;>lia
theorem mm(its:List F0) (lo hi:Option Int):slicePick its.toArray lo hi none=((its.drop (HT.sIx its.length 0 lo)).take (HT.sIx its.length its.length hi-HT.sIx its.length 0 lo)).toArray:=by
 obtain⟨h1,h2,h3⟩:=oM lo hi its.toArray.size;unfold slicePick;rw[h1,h2,h3];simp only[sliceRange_one,pick_run,F5]<;>rfl
def Fj(K:o0):V->Option Int->Option Int->Hp->VK->Prop:=fun x lo hi H Q=>∃a xs,x=.ref a/\SqL K H a xs/\∀p,H p=none->Q (.ref p) (upd H p (.lst (nM xs lo hi)))
theorem zp:SlR X (Fj X.K):=by
 intro aa s σ H x v vl vu lo hi sl Q I rx hs pl pu h;obtain⟨a,xs,rfl,hx,q⟩:=h;cases rx;obtain⟨its,r,ht,hz⟩:=I.list hx;have bv:=r.length;refine⟨"list",_,slot_list_getitem.lookup,ht.isList.typeIs,?_⟩;refine wpAny_getItem_list_slice ht.isList hs pl pu .none (by simp) ?_ (by rw[F5]<;>lia);rw[mm,<-bv];refine⟨.ref s.heap.objs.size,_,I.laid (t':=s.toks) (o:=.lst (nM xs lo hi)) (fun b ob q=>F2 _ q) (F8 _) ?_,rfl,q _ (I.hok.fresh (F8 _))⟩;exact⟨L6 (je xs lo hi) hz,_,0,(r.drop (HT.sIx xs.length 0 lo)).take (HT.sIx xs.length xs.length hi-HT.sIx xs.length 0 lo),F6 _ rfl⟩
def gf:V->Bool
 |.non=>true
 |.bl _=>true
 |.int _=>true
 |.str _=>true
 |_=>false
noncomputable def eqV:V->V->Bool
 |.non,.non=>true
 |.bl a,.bl b=>a==b
 |.bl a,.int b=>(if a then 1 else 0)==b
 |.int a,.bl b=>a==(if b then 1 else 0)
 |.int a,.int b=>a==b
 |.str a,.str b=>a==b
 |_,_=>false
theorem C6{A:M9}{s:F1}{y x:V}{u v:F0}(ry:aD y u) (rx:aD x v) (fy:gf y=true) (fx:gf x=true):N3 A s u v (eqV y x):=by
 cases y with
 |non =>
  cases ry;cases x with
  |non=>cases rx;exact N3.same _
  |bl b=>cases rx;exact N3.none_bool b
  |int b=>obtain⟨t,rfl⟩:=rx;exact N3.none_int b t
  |str b=>obtain⟨t,rfl⟩:=rx;exact N3.none_str b t
  |_=>exact absurd (show false=true from fx) K9
 |bl a =>
  cases ry;cases x with
  |non=>cases rx;exact N3.bool_none a
  |bl b=>cases rx;exact N3.bool_bool a b
  |int b=>obtain⟨t,rfl⟩:=rx;exact N3.bool_int a b t
  |str b=>obtain⟨t,rfl⟩:=rx;exact N3.bool_str a b t
  |_=>exact absurd (show false=true from fx) K9
 |int a =>
  obtain⟨t',rfl⟩:=ry;cases x with
  |non=>cases rx;exact N3.int_none a t'
  |bl b=>cases rx;exact N3.int_bool a t' b
  |int b=>obtain⟨t,rfl⟩:=rx;exact N3.int_int a t' b t
  |str b=>obtain⟨t,rfl⟩:=rx;exact N3.int_str a t' b t
  |_=>exact absurd (show false=true from fx) K9
 |str a =>
  obtain⟨t',rfl⟩:=ry;cases x with
  |non=>cases rx;exact N3.str_none a t'
  |bl b=>cases rx;exact N3.str_bool a t' b
  |int b=>obtain⟨t,rfl⟩:=rx;exact N3.str_int a t' b t
  |str b=>obtain⟨t,rfl⟩:=rx;exact N3.str_str a t' b t
  |_=>exact absurd (show false=true from fx) K9
 |_=>exact absurd (show false=true from fy) K9
def eqU(x:V) (u:F0):Bool:=match u with
 |.none=>eqV .non x
 |.bool b=>eqV (.bl b) x
 |.int i _=>eqV (.int i) x
 |.str z _=>eqV (.str z) x
 |_=>false
theorem xj{x y:V}{u:F0}(r:aD y u) (f:gf y=true):eqU x u=eqV y x:=by
 cases y with
 |non=>cases r;rfl
 |bl b=>cases r;rfl
 |int i=>obtain⟨t,rfl⟩:=r;rfl
 |str z=>obtain⟨t,rfl⟩:=r;rfl
 |_=>exact absurd (show false=true from f) K9
theorem gZ{x:V}:∀{xs:List V}{us:List F0},ao xs us->xs.all gf=true->us.any (eqU x)=xs.any fun y=>eqV y x
 |_,_,.nil,_=>rfl
 |y::xs,u::us,.cons r t,f=>by
  rw[V6,K0]at f;rw[P1,P1,xj r f.1,gZ t f.2]
theorem fQ{A:M9}{s:F1}{x:V}{v:F0}(rx:aD x v) (fx:gf x=true):∀{xs:List V}{us:List F0},ao xs us->xs.all gf=true->∀u∈us,N3 A s u v (eqU x u)
 |_,_,.nil,_=>fun u hu=>by cases hu
 |y::xs,u::us,.cons r t,f=>fun u' hu=>by
  rw[V6,K0]at f;rcases N4.mp hu with rfl|hu
  ·rw[xj r f.1];exact C6 r rx f.1 fx
  ·exact fQ rx fx t f.2 u' hu
def inV(x:V) (xs:List V):Bool:=xs.any fun y=>eqV y x
def rIn(K:o0) (neg:Bool):R2:=fun x y H Q=>∃p xs,y=.ref p/\(SqL K H p xs∨SqT K H p xs)/\gf x=true/\xs.all gf=true/\Q (.bl (if neg then !inV x xs else inV x xs)) H
theorem uJ:OpR X (L7 .In) (rIn X.K false):=by
 intro aa s σ H x y v u Q I rx ry h;obtain⟨p,xs,rfl,hq,fx,fs,q⟩:=h;cases ry;rcases hq with hq|hq
 ·obtain⟨its,r,pl,hz⟩:=I.list hq;refine SeqAt.in_listAt (eqU x) pl.isList (fun w hw=>fQ rx fx r fs w (by simpa using hw)) ⟨.bl _,H,I,rfl,?_⟩;rw[show its.toArray.any (eqU x)=its.any (eqU x)by simp,gZ r fs];exact q
 ·obtain⟨its,r,pl,hz⟩:=I.tuple hq;refine SeqAt.in_tupleAt (eqU x) pl (fun w hw=>fQ rx fx r fs w (by simpa using hw)) ⟨.bl _,H,I,rfl,?_⟩;rw[show its.toArray.any (eqU x)=its.any (eqU x)by simp,gZ r fs];exact q
theorem nK:OpR X (L7 .NotIn) (rIn X.K true):=by
 intro aa s σ H x y v u Q I rx ry h;obtain⟨p,xs,rfl,hq,fx,fs,q⟩:=h;cases ry;rcases hq with hq|hq
 ·obtain⟨its,r,pl,hz⟩:=I.list hq;refine SeqAt.notIn_listAt (eqU x) pl.isList (fun w hw=>fQ rx fx r fs w (by simpa using hw)) ⟨.bl _,H,I,rfl,?_⟩;rw[show its.toArray.any (eqU x)=its.any (eqU x)by simp,gZ r fs];exact q
 ·obtain⟨its,r,pl,hz⟩:=I.tuple hq;refine SeqAt.notIn_tupleAt (eqU x) pl (fun w hw=>fQ rx fx r fs w (by simpa using hw)) ⟨.bl _,H,I,rfl,?_⟩;rw[show its.toArray.any (eqU x)=its.any (eqU x)by simp,gZ r fs];exact q
theorem nY:dP X (.builtin "len") (fun xs H Q=>∃p ys,xs=[.ref p]/\(SqL X.K H p ys∨SqT X.K H p ys)/\Q (.int ys.length) H):=by
 intro aa s σ H xs us Q I r h;obtain⟨p,ys,rfl,hq,q⟩:=h;obtain⟨u,rfl,rx⟩:=tN r;cases rx;have hn:=kK;rcases hq with hq|hq
 ·obtain⟨its,r',pl,hz⟩:=I.list hq;have bv:=r'.length;exact Calls.call_len_list pl.isList (by simp only[F5]<;>lia) ⟨.int ys.length,H,I.tok _,⟨s.toks+1,by rw[F5,bv]⟩,q⟩
 ·obtain⟨its,r',pl,hz⟩:=I.tuple hq;have bv:=r'.length;exact len_tuple pl (by simp only[F5]<;>lia) ⟨.int ys.length,H,I.tok _,⟨s.toks+1,by rw[F5,bv]⟩,q⟩
theorem nJ:dP X (.builtin "len") (fun xs H Q=>∃z,xs=[.str z]/\z.length<=F3/\Q (.int z.length) H):=by
 intro aa s σ H xs us Q I r h;obtain⟨z,rfl,hz,q⟩:=h;obtain⟨u,rfl,t,rfl⟩:=tN r;have hn:=kK;exact len_str (by lia) ⟨.int z.length,H,I.tok _,⟨_,rfl⟩,q⟩
theorem dP.or{f:F0}{r r':List V->Hp->VK->Prop}(h:dP X f r) (h':dP X f r'):dP X f (fun xs H Q=>r xs H Q∨r' xs H Q):=by
 intro aa s σ H xs us Q I rs q;rcases q with q|q
 ·exact h aa s σ H xs us Q I rs q
 ·exact h' aa s σ H xs us Q I rs q
theorem n8:dP X (.type "list") (fun xs H Q=>∃p ys,xs=[.ref p]/\(SqL X.K H p ys∨SqT X.K H p ys)/\∀l,H l=none->Q (.ref l) (upd H l (.lst ys))):=by
 intro aa s σ H xs us Q I r h;obtain⟨p,ys,rfl,hq,q⟩:=h;obtain⟨u,rfl,rx⟩:=tN r;cases rx;have fin:∀(its:List F0),ao ys its->ys.length<=F3->∀(h':K2) (c':Nat),(∀b o',s.heap.get? b=some o'->h'.get? b=some o') ->
   h'.get? s.heap.objs.size=some { cls:=.type "list",dict:=none,data:=.seq its.toArray c',slots:=#[] }->EP X aa σ Q (.ref s.heap.objs.size) { s with heap:=h' }:=fun its r' hz h' c' kp e =>
  ⟨.ref s.heap.objs.size,_,I.laid (t':=s.toks) kp (F8 _) (show bh X.prog X.w _ h' _ (.lst ys)from⟨hz,its,c',r',e⟩),rfl,q _ (I.hok.fresh (F8 _))⟩
 rcases hq with hq|hq
 ·obtain⟨its,r',pl,hz⟩:=I.list hq;have bv:=r'.length;obtain⟨o,ho,hc,n,hd⟩:=pl.isList;exact call_list_seq p (.inl rfl) ho hc hd (fun h' c' kp e=>fin its r' hz h' c' kp e) (by simp only[F5]<;>lia)
 ·obtain⟨its,r',pl,hz⟩:=I.tuple hq;have bv:=r'.length;obtain⟨o,ho,hc,n,hd⟩:=pl;exact call_list_seq p (.inr rfl) ho hc hd (fun h' c' kp e=>fin its r' hz h' c' kp e) (by simp only[F5]<;>lia)
theorem ml:dP X (.type "tuple") (fun xs H Q=>∃p ys,xs=[.ref p]/\((SqL X.K H p ys/\∀l,H l=none->Q (.ref l) (upd H l (.tup ys)))∨(SqT X.K H p ys/\Q (.ref p) H))):=by
 intro aa s σ H xs us Q I r h;obtain⟨p,ys,rfl,h⟩:=h;obtain⟨u,rfl,rx⟩:=tN r;cases rx;rcases h with⟨hq,q⟩|⟨hq,q⟩
 ·obtain⟨its,r',pl,hz⟩:=I.list hq;have bv:=r'.length;refine call_tuple_list pl.isList (fun h' kp=>?_) (by simp only[F5]<;>lia);have I1:Inv X aa σ H { s with heap:=h' }:=I.kept (t':=s.toks) kp;have I2:Inv X aa σ (upd H h'.objs.size (.tup ys)) { s with heap:=h'.push { cls:=.type "tuple",data:=.seq its.toArray } } :=
   I1.laid (t':=s.toks) (fun b o e=>F2 _ e) (F8 _) (show bh X.prog X.w _ _ _ (.tup ys)from⟨hz,its,r',kH.new _ _⟩)
  exact⟨.ref h'.objs.size,_,I2,rfl,q _ (I1.hok.fresh (F8 _))⟩
 ·obtain⟨its,r',pl,hz⟩:=I.tuple hq;exact call_tuple_same pl ⟨.ref p,H,I,rfl,q⟩
def tyV(K:o0) (T:String) (x:V) (H:Hp):Prop:=match x with
 |.str _=>T="str"
 |.int _=>T="int"
 | .ref p => (T = "list" ∧ ∃ xs,SqL K H p xs) ∨ (T = "tuple" ∧ ∃ o,K.lookup p = some o ∧ o.cls = .type "tuple" ∧ o.dict = none) ∨
   (T="dict"/\((∃kvs,H p=some (.dK kvs))∨∃kvs,H p=some (.dT kvs)))∨(T="set"/\∃S n,H p=some (.set S n))
 |_=>False
theorem vU{aa:List (H0×Obj)}{σ:St}{H:Hp}{s:F1}{T:String}{x:V}{v:F0}(I:Inv X aa σ H s) (r:aD x v) (ty:tyV X.K T x H) :
  s.TypeIs v T/\∀a,v=.ref a->∃ob,s.heap.get? a=some ob/\ob.dict=none:=by
 cases x with
 |str z =>
  obtain⟨t,rfl⟩:=r;cases(show T="str" from ty);exact⟨typeIs_str s z t,fun _ e=>nomatch e⟩
 |int i =>
  obtain⟨t,rfl⟩:=r;cases(show T="int" from ty);exact⟨ab4 s i t,fun _ e=>nomatch e⟩
 |ref p =>
  cases r;rcases ty with⟨rfl,xs,hq⟩|⟨rfl,o,hk,hc,hd⟩|⟨rfl,hk⟩|⟨rfl,S,n,hk⟩
  ·obtain⟨its,_,pl,_⟩:=I.list hq;refine⟨pl.isList.typeIs,fun a e=>?_⟩;cases e;obtain⟨o,n,e,c,hd,_⟩:=pl;exact⟨o,e,hd⟩
  ·refine⟨⟨o,I.kIn p o hk,hc⟩,fun a e=>?_⟩;cases e;exact⟨o,I.kIn _ o hk,hd⟩
  ·have z:∃o,s.heap.get? p=some o/\o.ExactDict:=by
    rcases hk with⟨kvs,hk⟩|⟨kvs,hk⟩
    ·obtain⟨_,_,_,_,o,_,_,e,ex,_⟩:=I.hok p _ hk;exact⟨o,e,ex⟩
    ·obtain⟨_,_,_,_,o,_,_,e,ex,_⟩:=I.hok p _ hk;exact⟨o,e,ex⟩
   obtain⟨o,e,ex⟩:=z;refine⟨⟨o,e,ex.1⟩,fun a e2=>?_⟩;cases e2;exact⟨o,e,ex.2.1⟩
  ·obtain⟨o,_,_,_,e,ex,_⟩:=I.hok p _ hk;refine⟨⟨o,e,ex.1⟩,fun a e2=>?_⟩;cases e2;exact⟨o,e,ex.2.1⟩
 |_=>exact U7 ty
def FN(K:o0) (T:String) (r:V->List V->Hp->VK->Prop) (to:TE):TE:=fun σ H Q=>to σ H fun x H1=>tyV K T x H1/\r x [] H1 Q
def tBM(K:o0) (T:String) (r:V->List V->Hp->VK->Prop) (to:TE) (t:TA):TE:=fun σ H Q=>to σ H fun x H1=>tyV K T x H1/\t σ H1 fun xs H2=>r x xs H2 Q
variable{o e:J4}{es:List J4}{to:TE}{t:TA}{name:Str}{cM bf:Pos}{T id:String}{r:V->List V->Hp->VK->Prop}
theorem BV(pa:PlainAttrs T) (slot:Slot T name id) (hty:typeOf (.builtin id)=W4 (.type "method_descriptor")) (hm:MtR X id r) (ho:PE X o to)
  (fS:X6 o name X.env (V7 o X.env)=V7 o X.env:=by rfl) (fR:(cM.endLine==bf.line)=true:=by rfl):PE X (.Call (.Attribute o name cM) [] [] bf) (FN X.K T r to):=by
 intro aa s σ H Q I h;refine wpAny_Call_method0_late fS fR (thn (ho aa s σ H _ I h) fun v s1 ⟨x,H1,I1,r1,ty,q1⟩=>?_);obtain⟨h1,h2⟩:=vU I1 r1 ty;exact⟨T,id,pa,slot,hty,h1,h2,Calls.callWith_builtin rfl (PySem.evalArgs_none (hm aa s1 σ H1 x [] v [] Q I1 r1 .nil q1))⟩
theorem vB(pa:PlainAttrs T) (slot:Slot T name id) (hty:typeOf (.builtin id)=W4 (.type "method_descriptor")) (hm:MtR X id r) (ho:PE X o to) (ha:PA X (e::es) t)
  (fS:X6 o name X.env (V7 o X.env)=V7 o X.env:=by rfl)
  (oK:((V8 bf (J5 (e :: es) X.env)).all (fun x => !x.1) && (backToKw bf (ac0 [] X.env)).all (fun x => x.1.isSome)
  &&decide ((e::es).length+([]:List ac1).length+(if([]:List ac1).isEmpty then 0 else 1)<30))=true:=by rfl)
  (fR:(cM.endLine==bf.line)=true:=by rfl) (hs:J5 (e::es) X.env=(false,V7 e X.env)::J5 es X.env:=by rfl) (gM:(V8 bf (J5 es X.env)).any (·.1)=false:=by rfl) :
  PE X (.Call (.Attribute o name cM) (e::es) [] bf) (tBM X.K T r to t):=by
 intro aa s σ H Q I h;refine wpAny_Call_method_late fS oK fR rfl (thn (ho aa s σ H _ I h) fun v s1 ⟨x,H1,I1,r1,ty,q1⟩=>?_);obtain⟨h1,h2⟩:=vU I1 r1 ty;refine⟨T,id,pa,slot,hty,h1,h2,?_⟩;have hA:=ha bf aa s1 σ H1 _ I1 q1;rw[hs]at hA ⊢;refine Calls.callWith_builtin (by show(false || (V8 bf (J5 es X.env)).any (·.1))=false;rw[gM]<;>rfl) (Calls.evalArgs_plain ?_);exact thn hA fun us s2 hup=>hup.el fun vs H2 I2 r2 q2=>hm aa s2 σ H2 x vs v us Q I2 r1 r2 q2
end
def MtM(X:Cx) (id:String) (r:V->List V->Hp->VK->Prop):Prop :=
 ∀(aa:List (H0×Obj)) (s:F1) (σ:St) (H:Hp) (x:V) (xs:List V) (v:F0) (us:List F0) (Q:VK),Inv X aa σ H s->aD x v->ao xs us->r x xs H Q ->
  J3 (K1 X.prog X.w) X.A (call (.builtin id) (v::us)) (EP X aa σ Q) X.xe s
theorem ao.un{x:V}{xs:List V}{us:List F0}(h:ao (x::xs) us):∃u vs,us=u::vs/\aD x u/\ao xs vs:=by
 cases h with
 |cons r t=>exact⟨_,_,rfl,r,t⟩
theorem ao.one{x:V}{us:List F0}(h:ao [x] us):∃u,us=[u]/\aD x u:=by
 obtain⟨u,vs,rfl,r,t⟩:=h.un;cases t;exact⟨u,rfl,r⟩
theorem ao.two{x y:V}{us:List F0}(h:ao [x,y] us):∃u v,us=[u,v]/\aD x u/\aD y v:=by
 obtain⟨u,vs,rfl,r,t⟩:=h.un;obtain⟨v,rfl,q⟩:=t.one;exact⟨u,v,rfl,r,q⟩
theorem ao.zero:∀{us:List F0},ao [] us->us=[]
 |_,.nil=>rfl
theorem ao.dropLast{xs:List V}{us:List F0}(h:ao xs us):ao xs.dropLast us.dropLast:=by
 induction h with
 |nil=>exact .nil
 |cons r t ih =>
  cases t with
  |nil=>exact .nil
  |cons q t'=>exact .cons r ih
theorem ao.reverse{xs:List V}{us:List F0}(h:ao xs us):ao xs.reverse us.reverse:=by
 induction h with
 |nil=>exact .nil
 |cons r t ih=>rw[W1,W1];exact ao.append ih (.cons r .nil)
theorem ao.rep{xs:List V}{us:List F0}(h:ao xs us):∀k:Nat,ao (J1 k xs).flatten (J1 k us).flatten
 |0=>.nil
 |k+1=>by
  rw[O9,O9,R9,R9];exact ao.append h (ao.rep h k)
theorem rf{α:Type}(l:List α):l.eraseIdx (l.length-1)=l.dropLast:=by
 induction l with
 |nil=>rfl
 |cons a r ih =>
  cases r with
  |nil=>rfl
  |cons b r =>
   have e:(a::b::r).length-1=((b::r).length-1)+1:=by
    have h1:(a::b::r).length=r.length+2:=rfl;have h2:(b::r).length=r.length+1:=rfl
    lia
   rw[e,List.eraseIdx_cons_succ,ih]
   all_goals rfl
theorem iZ(its:List F0):∀(k:Nat) (acc:List F0),
  ac8 (fun x1 x2=>x1++x2) acc.toArray (J1 k its.toArray)=(acc++(J1 k its).flatten).toArray
 |0,acc=>by simp
 |k+1,acc=>by
  have e:acc.toArray++its.toArray=(acc++its).toArray:=by simp
  have e2:(acc++its)++(J1 k its).flatten=acc++(J1 (k+1) its).flatten:=by
   rw[O9,R9,List.append_assoc]
  rw[<-e2,<-iZ its k (acc++its),<-e,O9,List.foldl_cons]
section
variable{X:Cx}{aa:List (H0×Obj)}{σ:St}{H:Hp}{s:F1}{l b:H0}{xs ys zs:List V}
theorem Inv.lset{its its':List F0}{n:Nat}{f:Array F0->Array F0}{t':Nat}(I:Inv X aa σ H s) (hH:H l=some (.lst xs))
  (e:s.heap.get? l=some { cls:=.type "list",data:=.seq its.toArray n }) (hf:f its.toArray=its'.toArray) (hv:ao ys its') (hz:ys.length<=F3) :
  Inv X aa σ (upd H l (.lst ys)) { s with heap:=s.heap.update l (Obj.mapSeq f),toks:=t' }:=by
 have q:=PySem.IsL.update e f;rw[hf]at q;refine I.write (x:=l) (e:=l) (by rw[hH];exact trivial) (.inl rfl) (fun b' u hb hu=>(K2.get?_update_other s.heap (Obj.mapSeq f) (Z9 hb)).trans hu) ⟨_,q⟩ ?_;exact⟨hz,its',_,hv,q⟩
theorem Inv.lnew{its:List F0}{t':Nat}(I:Inv X aa σ H s) (hv:ao ys its) (hz:ys.length<=F3) :
  Inv X aa σ (upd H s.heap.objs.size (.lst ys)) { s with heap:=s.heap.push { cls:=.type "list",data:=.seq its.toArray },toks:=t' } :=
 I.laid (fun _ _ q=>F2 _ q) (F8 _) ⟨hz,its,0,hv,F6 _ rfl⟩
theorem Inv.fresh(I:Inv X aa σ H s):H s.heap.objs.size=none:=I.hok.fresh (F8 _)
theorem Inv.lstM(I:Inv X aa σ H s) (hH:H l=some (.lst xs)):xs.length<=F3/\∃(its:List F0) (n:Nat),ao xs its/\xs.length=its.length/\s.heap.get? l=some { cls:=.type "list",data:=.seq its.toArray n }:=by
 obtain⟨z,its,n,r,e⟩:=I.hok l _ hH;exact⟨z,its,n,r,r.length,e⟩
theorem oY{n:Nat}(h:n<=F3):S0 n=false:=by
 unfold S0;exact decide_eq_false (by lia)
end
section
variable{X:Cx}
def sY:V->List V->Hp->VK->Prop:=fun x vs H Q=>∃l xs y,x=.ref l/\vs=[y]/\H l=some (.lst xs)/\xs.length<F3/\Q .non (upd H l (.lst (xs++[y])))
theorem uK:MtM X "list.append" sY:=by
 intro aa s σ H x vs v us Q I rx rv h;obtain⟨l,xs,y,rfl,rfl,hH,hz,q⟩:=h;cases rx;obtain⟨u,rfl,ru⟩:=rv.one;obtain⟨z,its,n,r,hl,e⟩:=I.lstM hH;refine X8 F.slot_list_append ⟨_,e,rfl⟩ F.entry_list_append (F.args_list_append_2 _ _) (PySem.list_append l its.toArray n u (by rw[F5];lia)) ⟨e,?_⟩;refine⟨.non,_,I.lset (its':=its++[u]) hH e (by simp) (r.append (.cons ru .nil)) ?_,rfl,q⟩;rw[L8,List.length_singleton]
 lia
def sk:V->List V->Hp->VK->Prop:=fun x vs H Q=>∃l b xs zs,x=.ref l/\vs=[.ref b]/\H l=some (.lst xs)/\H b=some (.lst zs)/\xs.length+zs.length<=F3/\Q .non (upd H l (.lst (xs++zs)))
theorem ut:MtM X "list.extend" sk:=by
 intro aa s σ H x vs v us Q I rx rv h;obtain⟨l,b,xs,zs,rfl,rfl,hH,hB,hz,q⟩:=h;cases rx;obtain⟨u,rfl,ru⟩:=rv.one;cases ru;obtain⟨z,its,n,r,hl,e⟩:=I.lstM hH;obtain⟨z2,its2,n2,r2,hl2,e2⟩:=I.lstM hB;have hsz:its.toArray.size+its2.toArray.size<=F3:=by rw[F5,F5];lia
 have hlong:¬ (!its.toArray.isEmpty&&S0 (its.toArray.size+its2.toArray.size))=true:=by
  rw[oY hsz,Bool.and_false];exact K9
 refine X8 F.slot_list_extend ⟨_,e,rfl⟩ F.entry_list_extend (F.args_list_extend_2 _ _)
  (AutoSeq1.list_extend_list_list_0 l its.toArray n b its2.toArray n2 hlong (by rw[F5];lia) (by lia)) ⟨e,e2,?_⟩
 refine⟨.non,_,I.lset (its':=its++its2) hH e (by simp) (r.append r2) ?_,rfl,q⟩;rw[L8]
 lia
def DN:V->List V->Hp->VK->Prop:=fun x vs H Q=>∃l xs y,x=.ref l/\vs=[]/\H l=some (.lst xs)/\xs[xs.length-1]?=some y/\Q y (upd H l (.lst xs.dropLast))
theorem Cq:MtM X "list.pop" DN:=by
 intro aa s σ H x vs v us Q I rx rv h;obtain⟨l,xs,y,rfl,rfl,hH,hy,q⟩:=h;cases rx;have hus:=rv.zero;subst hus;obtain⟨z,its,n,r,hl,e⟩:=I.lstM hH;obtain⟨u,hu,ru⟩:=r.get hy;have hy':its.toArray[its.toArray.size-1]?=some u:=by
  show its.toArray[its.length-1]?=some u;rw[<-Array.getElem?_toList,<-hl];exact hu
 refine X8 F.slot_list_pop ⟨_,e,rfl⟩ F.entry_list_pop (F.args_list_pop_1 _) (MeetsSeq.list_pop_last l its.toArray n u hy' (by rw[F5];lia)) ⟨e,?_⟩;refine⟨y,_,I.lset (its':=its.dropLast) hH e ?_ r.dropLast ?_,ru,q⟩
 ·show its.toArray.eraseIdxIfInBounds (its.toArray.size-1)=its.dropLast.toArray;rw[F5,List.eraseIdxIfInBounds_toArray,rf]
 ·rw[List.length_dropLast]
  lia
def FU:R2:=fun x y H Q=>∃l b xs zs,x=.ref l/\y=.ref b/\H l=some (.lst xs)/\H b=some (.lst zs)/\xs.length+zs.length<=F3/\∀p,H p=none->Q (.ref p) (upd H p (.lst (xs++zs)))
theorem Ck:OpR X (O6 .Add) FU:=by
 intro aa s σ H x y v u Q I rx ry h;obtain⟨l,b,xs,zs,rfl,rfl,hH,hB,hz,q⟩:=h;cases rx;cases ry;obtain⟨z,its,n,r,hl,e⟩:=I.lstM hH;obtain⟨z2,its2,n2,r2,hl2,e2⟩:=I.lstM hB;refine PySem.P.add_list e e2 ?_ (by rw[F5,F5];lia);have ea:its.toArray++its2.toArray=(its++its2).toArray:=by simp
 rw[ea];exact⟨.ref _,_,I.lnew (t':=s.toks) (r.append r2) (by rw[L8];lia),rfl,q _ I.fresh⟩
def Fs:R2:=fun x y H Q=>∃l k xs,x=.ref l/\y=.int k/\H l=some (.lst xs)/\-(2 ^ 63)<=k/\k<2 ^ 63/\xs.length*k.toNat<=F3 /\
 ∀p,H p=none->Q (.ref p) (upd H p (.lst (J1 k.toNat xs).flatten))
theorem n6{α:Type}(xs:List α) (k:Nat):(J1 k xs).flatten.length=k*xs.length:=by
 induction k with
 |zero=>simp
 |succ k ih=>rw[O9,R9,L8,ih,Nat.succ_mul,Nat.add_comm]
theorem CO:OpR X (O6 .Mult) Fs:=by
 intro aa s σ H x y v u Q I rx ry h;obtain⟨l,k,xs,rfl,rfl,hH,h1,h2,hz,q⟩:=h;cases rx;obtain⟨t,rfl⟩:=ry;obtain⟨z,its,n,r,hl,e⟩:=I.lstM hH;have bv:its.toArray.size*k.toNat<=F3:=by rw[F5,<-hl];exact hz
 have hcap:¬ its.toArray.size*k.toNat > (2 ^ 63-1) / 8:=by
  have:(F3:Nat)<=(2 ^ 63-1) / 8:=by decide
  lia
 have hfit:¬ (!Builtin.List.listFitsIndex k)=true:=by
  rw[fitsIndex_both h1 h2];exact K9
 have hlong:¬ S0 (its.toArray.size*k.toNat)=true:=by
  rw[oY bv];exact K9
 have hnew:ac8 (fun x1 x2=>x1++x2) #[] (J1 (if its.toArray.isEmpty=true then 0 else k.toNat) its.toArray)=(J1 k.toNat its).flatten.toArray:=by
  have f0:∀m:Nat,ac8 (fun x1 x2=>x1++x2) #[] (J1 m its.toArray)=(J1 m its).flatten.toArray:=fun m=>by
   have:=iZ its m [];rw[List.nil_append]at this;exact this
  rw[f0];cases its with
  |nil=>simp
  |cons a r'=>rw[if_neg (by simp)]
 refine wpAny_binaryOp_repeat_ref (T:="list") (U:="int") (by decide) ⟨_,e,rfl⟩ (fun s'=>ab4 s' k t) noFill_list_mul F.fills_int_mul Z3 repeat_list F.slot_int_index.lookup
  (X8 Z3 (ab4 s k t) F.entry_int_rmul (F.args_int_rmul_2 _ _) (int___rmul___int_list k t l its.toArray n)
   ⟨e,rfl,⟨_,e,rfl⟩,X8 F.slot_list_mul ⟨_,e,rfl⟩ F.entry_list_mul (F.args_list_mul_2 _ _) (AutoListH.list___mul___list_int_3 l its.toArray n k t hfit hcap hlong) ⟨e,?_⟩⟩)
 rw[hnew];exact⟨.ref _,_,I.lnew (t':=s.toks) (r.rep k.toNat) (by rw[n6,Nat.mul_comm];exact hz),rfl,q _ I.fresh⟩
end
section
variable{prog:K7}{w:P5}{A:M9}{E:F0->F1->Prop}{s:F1}
theorem rn{a c n:Nat}(hac:a<=c) (hc:c<=n):T8 (some (a:Int)) (some (c:Int)) none n=((a:Int),(c:Int),1):=by
 simp only[T8,Option.getD_none];have h1:¬ ((a:Int)<0):=by lia
 have h2:¬ ((c:Int)<0):=by lia
 simp only[h1,h2,if_false,show(1:Int) > 0 by decide,if_true];congr 1
 ·lia
 ·congr 1;lia
end
end L2
namespace Att
open PySem PySem.W PySem.Calls PyProof.Rows
theorem jP{P:Params}{h:K2}:∀(ns:List Int) (vs:List F0),WellAll P h vs (ns.map WData.int)->IntsAre vs ns:=by
 intro ns
 induction ns with
 |nil =>
  intro vs w;rw[List.map_nil]at w;cases w;exact .nil
 |cons n ns ih =>
  intro vs w;rw[N5]at w;cases w with
  |cons a b =>
   cases a;exact .cons _ _ (ih _ b)
theorem tU{l:OpenLaw}{n:Nat}(hn:l.most=some n) {P:Params}{h:K2}{args:List WData}{vals:List F0}
  (hpre:l.row.toRowW.claim.pre args=true) (hwl:WellAll P h vals args) :
  ∃a vs ns,vals=[P7 a]/\args=[WData.list (ns.map WData.int)]/\h.get? a=some { cls:=.type "list",data:=.seq vs.toArray }/\IntsAre vs ns/\ns.length<=n:=by
 have hsh:WShape.hasAll [] args [.list .int]=true:=(pre_splitW hpre).1;have hc:l.pre.holds [] { args:=args }=true:=(pre_splitW hpre).2;obtain⟨d,r,rfl,h1,h2⟩:=hasAllW_cons hsh;obtain rfl:=hasAllW_nil h2;obtain⟨xs,rfl,h3⟩:=hasW_list h1;obtain⟨ns,rfl⟩:=items_int h3;have bv:ns.length<=n:=by
  unfold OpenLaw.pre at hc;have h4:(WTm.not (.lt (.lit (.int (n:Int))) (.len (.arg 0)))).holds [] { args:=[.list (ns.map .int)] }=true:=by
   have h4:=(holds_andW hc).1;rw[hn]at h4;exact h4
  have h5:=condW_of h4 (w_not (w_lt w_lit (w_len_list (w_arg rfl))));rw[Z1]at h5;refine Nat.le_of_not_lt fun q=>?_;have q':(n:Int)<((ns.length:Nat):Int):=by lia
  first
   |(rw[decide_eq_true q']at h5;exact absurd h5 (by decide))
   |(simp at h5;lia)
 cases hwl with
 |cons w1 w2 =>
  cases w2;cases w1 with
  |list ho hall=>exact⟨_,_,ns,rfl,rfl,ho,jP ns _ hall,bv⟩
theorem uk(l:OpenLaw) (args:List WData):l.row.toRowW.claim.post args (.bool true) args=true :=
 postW_of (r:=l.row.toRowW) (X:=(true==true))
  (show WShape.has [] (.bool true) .bool=true by first|rfl|decide|simp[WShape.has,WShape.arms,WShape.armsAll])
  (show(WTm.eq .res (.lit (.bool true))).value [] { args:=args,res:=some (.bool true),after:=args }=some (.bool (true==true))from w_eq_bool (w_res rfl) w_lit) rfl
section
variable{prog:K7}{w:P5}{A:M9}{E:F0->F1->Prop}{s:F1}{K:Frag}
def noObjs(h:K2):K2:={ h with objs:=#[] }
theorem noObjs_get(h:K2) (b:H0):(noObjs h).get? b=none:=by
 cases e:(noObjs h).get? b with
 |none=>rfl
 |some o=>exact absurd (F4 e) (Nat.not_lt_zero _)
theorem fr_all{h:K2}{L:H0}{m:Str->Option F0}(n:h.Ns L m):Fr (noObjs h) L h m :=
 ⟨n,fun b o e=>(by rw[noObjs_get]at e;cases e),P9 _⟩
end
end Att
namespace L2
open PySem PySem.Spec PyProof.Rows
theorem mH:∀{vs:List F0}{ns:List Int},IntsAre vs ns->ao (ns.map V.int) vs
 |_,_,.nil=>.nil
 |_,_,.cons n t h=>.cons ⟨t,rfl⟩ (mH h)
end L2
/- THE LAST THEOREM (shape; LID,My.* are yours):
   My.Adr: a structure of the addresses that your layer names (classes,functions);My.Txt K t: a structure (Prop) of the equations over K;
   My.txt_mk:{K} {implicit addresses ..} (e1:nsIn K ab7 "law"=some (some (.ref f))) (e2:K.lookup f=some ⟨oc,od,.func (fnOf "law" "law" params body scope dV kV doc pm an cdv ct),sl⟩) (e3:codeIn K cdv "law"=true) ..:∃t,My.Txt K t
set_option maxRecDepth 100000 in
set_option maxHeartbeats 0 in
theorem PySem.Challenge.cw_LID_holds : PySem.Challenge.rw_LID.Holds := by
 w_on;o_law;k_head;(case hw=>w_witness2)
 k_fill
 refine L2.walk_of (l:=PySem.Challenge.rw_LID) (n:=63) (k:=40) (x:="script") (CX:=fun w=>..) (sp:=fun _=>My.sp_law) rfl (by decide) rfl ⟨rfl,by decide,by decide⟩ (fun w h Y=>PySem.W.kIn_of Y) ?F ?S ?C
 case F =>
  intro w mg fa h KX G hmg;have T:∃t,My.Txt (L2.KOf KX) t:=by
   dsimp only[L2.KOf]                          -- K must stand as «<heap const> w.params» for k_is
   refine' My.txt_mk ?e1 ?e2 ?e3 ..
   (case e1=>PySem.W.k_is)                    -- in the order: a name->its address->its object->its parts
   (case e2=>PySem.W.k_is)
   ..
  obtain⟨t,T⟩:=T;have e0:=hmg.symm.trans (PySem.W.mg_of KX G T.law);cases e0                                       -- fa is the law's own address;exact⟨_,fun s u=>.of_eq rfl,fun base kb nb=>My.law_fn T kb nb⟩     -- if «.of_eq rfl» comes too early: refine' ⟨_,?b,fun base kb nb=>My.law_fn T kb nb⟩;exact fun s u=>.of_eq rfl
 case S=>exact fun w H a ns hl hO hS=>..
 case C=>exact ..
(the tactic k_is has no namespace: write k_is) -/
namespace L2
open PySem PySem.Spec PyProof.Rows
def eQ(s:ab0):Arguments:=match s with
 |.FunctionDef _ a _ _ _ _ _ _ _ _=>a
 |_=>{ posonlyargs:=[],args:=[],vararg:=none,kwonlyargs:=[],kw_defaults:=[],kwarg:=none,defaults:=[] }
def cD(s:ab0):List ab0:=match s with
 |.FunctionDef _ _ b _ _ _ _ _ _ _=>b
 |_=>[]
def ai(s:ab0):R0:=match s with
 |.FunctionDef _ _ _ _ _ _ sc _ _ _=>sc
 |_=>{ kind:=.function,names:=[],isGenerator:=false,isCoroutine:=false }
abbrev CX0:CXT:=fun _ _ _ _ _ _=>False
abbrev E0:XK:=fun _ _ _=>False
theorem DX{X:Cx}:rF CX0 X E0:=fun _ _ _ _ _ _ _ h=>h.elim
structure Fun(K:o0) (x qual:Str) (st:ab0) (f:H0) (fd:V2):Prop where
 ex:∃(oc:F0) (od:Option H0) (kV doc pm:F0) (an:Option H0) (cdv ct:F0) (osl:Array (Option F0)),
  fd=X0 x qual (eQ st) (cD st) (ai st) .none kV doc pm an cdv ct/\K.lookup f=some ⟨oc,od,.func fd,osl⟩/\PySem.W.codeIn K cdv qual=true
 kp:W5 K (.ref f)=true
section
variable{P:K7}{w:P5}{K:o0}{mg:Str->Option F0}{base:K2}{f:H0}{fd:V2}
theorem Fun.ok{x qual:Str}{st:ab0}{f:H0}{fd:V2}{N ps:List Str}{k:Nat}{sp:Sp}(F:Fun K x qual st f fd) (S:aB N ps (ai st)) (len:∀vs H Q E,sp vs H Q E->vs.length=ps.length)
  (hbody:∀ (cdv:F0) (A:M9) (outer:List Env) (s:F1) (H:Hp) (vs:List V) (Q:VK) (E:XK),cI k (A.deeper (ac4 qual (ai st) s.heap.objs.size f cdv)) → sp vs H Q E →
   ∃t,PSs (nO CX0 P w K mg base N qual (ai st) f cdv A outer s H E).nox (cD st) t/\t { nx:=fun _ H'=>Q .non H',rt:=Q } (fw N vs) H):bq P w K mg base CX0 (k+1) f fd ps sp:=by
 obtain⟨oc,od,kV,doc,pm,an,cdv,ct,osl,rfl,lk,hcd⟩:=F.ex;refine AB lk hcd S len fun A outer s H vs Q E hr hsp=>?_;obtain⟨t,h,q⟩:=hbody cdv A outer s H vs Q E hr hsp;exact⟨t,h.nox,q⟩
theorem Fun.binds{x qual:Str}{st:ab0}{f:H0}{fd:V2}{ps:List Str}(F:Fun K x qual st f fd)
  (h:∀(kV doc pm:F0) (an:Option H0) (cdv ct:F0) (us:List F0),us.length=ps.length->bindArgs (X0 x qual (eQ st) (cD st) (ai st) .none kV doc pm an cdv ct) ⟨us,[]⟩=W4 (ps.zip us)):ef K fd ps []:=by
 obtain⟨oc,od,kV,doc,pm,an,cdv,ct,osl,rfl,lk,hcd⟩:=F.ex;exact .all (h kV doc pm an cdv ct)
theorem wN{x qual:Str}{st:ab0}{f:H0}{oc:F0}{od an:Option H0}{osl:Array (Option F0)}{kV doc pm cdv ct:F0}(l:K.lookup f=some ⟨oc,od,.func (X0 x qual (eQ st) (cD st) (ai st) .none kV doc pm an cdv ct),osl⟩)
  (c:PySem.W.codeIn K cdv qual=true) (k:W5 K (.ref f)=true):Fun K x qual st f (X0 x qual (eQ st) (cD st) (ai st) .none kV doc pm an cdv ct):=⟨⟨oc,od,kV,doc,pm,an,cdv,ct,osl,rfl,l,c⟩,k⟩
end
theorem lN{c A B:Prop} [Decidable c] (h1:c->A) (h2:¬ c->B):if c then A else B:=by
 by_cases h:c
 ·rw[if_pos h];exact h1 h
 ·rw[if_neg h];exact h2 h
section
variable{κ:Type} [DecidableEq κ]
noncomputable def gB(kvs:List (κ×V)) (k:κ):Option V:=(kvs.find? fun kv=>decide (kv.1=k)).map (·.2)
noncomputable def fb(kvs:List (κ×V)) (k:κ) (v:V):List (κ×V) :=
 if(kvs.any fun kv=>decide (kv.1=k))=true then kvs.map (fun kv=>if kv.1=k then(kv.1,v)else kv)else kvs++[(k,v)]
def FY(kvs:List (κ×V)) (k:κ):List (κ×V):=kvs.filter fun kv=>decide (kv.1≠k)
theorem iw{p:κ×V}{r:List (κ×V)}{k:κ}(e:p.1=k):gB (p::r) k=some p.2:=by simp[gB,Q3,e]
theorem ic{p:κ×V}{r:List (κ×V)}{k:κ}(e:¬ p.1=k):gB (p::r) k=gB r k:=by simp[gB,Q3,e]
theorem oV(k:κ):∀kvs:List (κ×V),(kvs.any fun kv=>decide (kv.1=k))=(gB kvs k).isSome
 |[]=>rfl
 |p::r=>by
  rw[P1]
  by_cases e:p.1=k
  ·simp only[iw e,decide_eq_true e,Bool.true_or,Option.isSome_some]
  ·rw[ic e,decide_eq_false e,Bool.false_or];exact oV k r
theorem fK(kvs:List (κ×V)) (k:κ) (v:V):(fb kvs k v).length<=kvs.length+1:=by
 unfold fb
 split
 ·rw[Z1];lia
 ·rw[L8,U5,List.length_nil];lia
theorem jD.isSome_eq{o:Option V}{u:Option F0}(r:jD o u):o.isSome=u.isSome:=by
 cases o with
 |none=>cases u with
  |none=>rfl
  |some _=>exact(show False from r).elim
 |some _=>cases u with
  |none=>exact(show False from r).elim
  |some _=>rfl
theorem jD.getD{o:Option V}{u:Option F0}{d:V}{d':F0}(r:jD o u) (rd:aD d d'):aD (o.getD d) (u.getD d'):=by
 cases o with
 |none=>cases u with
  |none=>exact rd
  |some _=>exact(show False from r).elim
 |some _=>cases u with
  |none=>exact(show False from r).elim
  |some _=>exact r
theorem KV.val{kvs:List (κ×V)}{vs:List (κ×F0)}(r:KV kvs vs) (k:κ):jD (gB kvs k) (ac9 vs k):=by
 unfold KV at r
 induction r with
 |nil=>exact aa2
 |@cons p q ps qs h t ih =>
  obtain⟨h1,h2⟩:=h
  by_cases e:p.1=k
  ·have e':q.1=k:=h1.symm.trans e;have b:ac9 (q::qs) k=some q.2:=by simp[ac9,Q3,e']
   rw[iw e,b];exact h2
  ·have e':¬ q.1=k:=fun z=>e (h1.trans z);have b:ac9 (q::qs) k=ac9 qs k:=by simp[ac9,Q3,e']
   rw[ic e,b];exact ih
theorem KV.any{kvs:List (κ×V)}{vs:List (κ×F0)}(r:KV kvs vs) (k:κ):(kvs.any fun kv=>decide (kv.1=k))=vs.any fun kv=>decide (kv.1=k):=by
 unfold KV at r
 induction r with
 |nil=>rfl
 |cons h t ih=>rw[P1,P1,ih,h.1]
theorem KV.repl{kvs:List (κ×V)}{vs:List (κ×F0)}(r:KV kvs vs) (k:κ) {y:V}{u:F0}(ry:aD y u) :
  KV (kvs.map fun kv=>if kv.1=k then(kv.1,y)else kv) (vs.map fun kv=>if kv.1=k then(kv.1,u)else kv):=by
 unfold KV at r ⊢
 induction r with
 |nil=>exact .nil
 |@cons p q ps qs h t ih =>
  rw[N5,N5];refine .cons ?_ ih;obtain⟨h1,h2⟩:=h
  by_cases e:p.1=k
  ·rw[if_pos e,if_pos (h1.symm.trans e)];exact⟨h1,ry⟩
  ·rw[if_neg e,if_neg (fun z=>e (h1.trans z))];exact⟨h1,h2⟩
theorem KV.put{kvs:List (κ×V)}{vs:List (κ×F0)}(r:KV kvs vs) (k:κ) {y:V}{u:F0}(ry:aD y u):KV (fb kvs k y) (stored vs k u):=by
 unfold fb stored;rw[r.any k]
 by_cases e:(vs.any fun kv=>decide (kv.1=k))=true
 ·rw[if_pos e,if_pos e];exact r.repl k ry
 ·rw[if_neg e,if_neg e];exact P8.snoc r ⟨rfl,ry⟩
theorem KV.length{kvs:List (κ×V)}{vs:List (κ×F0)}(r:KV kvs vs):kvs.length=vs.length:=X2 r
end
theorem sS{P:K7}{w:P5}{k:Key}{u:F0}(r:aD (kV k) u):(bB P w).is k u=true:=by
 cases k with
 |inl i=>obtain⟨t,e⟩:=(show ∃t,u=F0.int i t from r);subst e;exact qv P w i t
 |inr x=>obtain⟨t,e⟩:=(show ∃t,u=F0.str x t from r);subst e;exact oR P w x t
theorem nt{P:K7}{w:P5}:∀{ks:List Key}{us:List F0},ao (ks.map kV) us->ItemsAre (bB P w) ks us
 |[],_,r=>by rw[List.map_nil]at r;cases r;exact .nil
 |k::ks,_,r=>by
  rw[N5]at r;cases r with
  |cons h t=>exact .cons (sS h) (nt t)
abbrev KT(H:Hp):List (List Key×V)->List (List Key×H0×F0)->Prop:=P8 fun p q=>p.1=q.1/\H q.2.1=some (.tup (p.1.map kV))/\aD p.2 q.2.2
theorem KT.val{H:Hp}{kvs:List (List Key×V)}{xs:List (List Key×H0×F0)}(r:KT H kvs xs) (k:List Key):jD (gB kvs k) ((atKey xs k).map (·.2)):=by
 induction r with
 |nil=>exact aa2
 |@cons p q ps qs h t ih =>
  obtain⟨h1,_,h2⟩:=h
  by_cases e:p.1=k
  ·have e':q.1=k:=h1.symm.trans e;have b:atKey (q::qs) k=some q.2:=by simp[atKey,Q3,e']
   rw[iw e,b];exact h2
  ·have e':¬ q.1=k:=fun z=>e (h1.trans z);have b:atKey (q::qs) k=atKey qs k:=by simp[atKey,Q3,e']
   rw[ic e,b];exact ih
theorem KT.repl{H:Hp}{kvs:List (List Key×V)}{xs:List (List Key×H0×F0)}(r:KT H kvs xs) (k:List Key) {y:V}{u:F0}(ry:aD y u) :
  KT H (kvs.map fun kv=>if kv.1=k then(kv.1,y)else kv) (xs.map (putAt k u)):=by
 induction r with
 |nil=>exact .nil
 |@cons p q ps qs h t ih =>
  rw[N5,N5];refine .cons ?_ ih;obtain⟨h1,h2,h3⟩:=h;unfold putAt
  by_cases e:p.1=k
  ·rw[if_pos e,if_pos (h1.symm.trans e)];exact⟨h1,h2,ry⟩
  ·rw[if_neg e,if_neg (fun z=>e (h1.trans z))];exact⟨h1,h2,h3⟩
theorem KT.put{H:Hp}{kvs:List (List Key×V)}{xs:List (List Key×H0×F0)}(r:KT H kvs xs) (k:List Key) {b:H0}{y:V}{u:F0}(hb:H b=some (.tup (k.map kV))) (ry:aD y u) :
  KT H (fb kvs k y) (storedH xs k b u):=by
 have e:(kvs.any fun kv=>decide (kv.1=k))=(atKey xs k).isSome:=by
  rw[oV,(r.val k).isSome_eq,Option.isSome_map]
 unfold fb storedH;rw[e]
 by_cases q:(atKey xs k).isSome=true
 ·rw[if_pos q,if_pos q];exact r.repl k ry
 ·rw[if_neg q,if_neg q];exact P8.snoc r ⟨rfl,hb,ry⟩
theorem KT.keeps{H H':Hp}{kvs:List (List Key×V)}{xs:List (List Key×H0×F0)}(r:KT H kvs xs) (ht:∀b ys,H b=some (.tup ys)->H' b=some (.tup ys)):KT H' kvs xs :=
 P8.mapP r fun _ _ z=>⟨z.1,ht _ _ z.2.1,z.2.2⟩
section
variable{P:K7}{w:P5}{H:Hp}{h:K2}{a:H0}
theorem AN{u:HO}(ok:HOk P w H h) (e:Rd H a u):bh P w H h a u:=e.ok ok
theorem o6{kvs:List (Key×V)}(ok:HOk P w H h) (e:Rd H a (.dK kvs)):kvs.length<=F3/\(a==U1)=false/\∃vs,KV kvs vs/\h.DictOf (bB P w) a vs :=
 show bh P w H h a (.dK kvs)from AN ok e
theorem ED{kvs:List (Key×V)}(ok:HOk P w H h) (e:H a=some (.dK kvs)):kvs.length<=F3/\(a==U1)=false/\∃vs,KV kvs vs/\h.DictOf (bB P w) a vs:=o6 ok (.inl e)
theorem lE{ks:List Key}(ok:HOk P w H h) (e:H a=some (.tup (ks.map kV))):(aa8 (bB P w)).is h ks a:=by
 obtain⟨_,its,r,o,h1,h2,⟨n,h3⟩,_⟩:=(show bh P w H h a (.tup (ks.map kV))from ok a _ e);exact⟨o,its.toArray,n,h1,h2,h3,by simpa using nt r⟩
theorem oQ{kvs:List (List Key×V)}(ok:HOk P w H h) (e:Rd H a (.dT kvs)):kvs.length<=F3/\(a==U1)=false /\
  ∃xs,KT H kvs xs/\h.DictOfH (aa8 (bB P w)) a xs:=by
 obtain⟨z,y,xs,r,o,es,ep,h1,h2,h3,h4,h5⟩:=(show bh P w H h a (.dT kvs)from AN ok e);refine⟨z,y,xs,r,o,es,ep,h1,h2,h3,h4,fun x hx=>?_,h5⟩;have all:∀{l:List (List Key×V)} {m:List (List Key×H0×F0)},KT H l m->∀x∈m,(aa8 (bB P w)).is h x.1 x.2.1:=by
  intro l m q
  induction q with
  |nil=>intro x hx;exact nomatch hx
  |@cons p q ps qs hq t ih =>
   intro x hx;rcases N4.mp hx with e|hx
   ·subst e;exact lE ok (by rw[<-hq.1];exact hq.2.1)
   ·exact ih x hx
 exact all r x hx
theorem Aw{kvs:List (List Key×V)}(ok:HOk P w H h) (e:H a=some (.dT kvs)):kvs.length<=F3/\(a==U1)=false /\
  ∃xs,KT H kvs xs/\h.DictOfH (aa8 (bB P w)) a xs:=oQ ok (.inl e)
end
def lX(H:Hp) (a:H0) (y:V) (r:Option V):Prop :=
 (∃kvs k,Rd H a (.dK kvs)/\y=kV k/\r=gB kvs k)∨∃kvs k b,Rd H a (.dT kvs)/\y=.ref b/\H b=some (.tup (k.map kV))/\r=gB kvs k
def rM(H:Hp) (a:H0) (y v:V) (H':Hp):Prop :=
 (∃kvs k,H a=some (.dK kvs)/\y=kV k/\kvs.length<F3/\H'=upd H a (.dK (fb kvs k v))) ∨
 ∃kvs k b,H a=some (.dT kvs)/\y=.ref b/\H b=some (.tup (k.map kV))/\kvs.length<F3/\H'=upd H a (.dT (fb kvs k v))
theorem lX.k{H:Hp}{a:H0}{kvs:List (Key×V)}{k:Key}(e:H a=some (.dK kvs)):lX H a (kV k) (gB kvs k):=.inl ⟨kvs,k,.inl e,rfl,rfl⟩
theorem lX.t{H:Hp}{a b:H0}{kvs:List (List Key×V)}{k:List Key}(e:H a=some (.dT kvs)) (eb:H b=some (.tup (k.map kV))):lX H a (.ref b) (gB kvs k):=.inr ⟨kvs,k,b,.inl e,rfl,eb,rfl⟩
theorem rM.k{H:Hp}{a:H0}{kvs:List (Key×V)}{k:Key}{v:V}(e:H a=some (.dK kvs)) (hl:kvs.length<F3):rM H a (kV k) v (upd H a (.dK (fb kvs k v))):=.inl ⟨kvs,k,e,rfl,hl,rfl⟩
theorem rM.t{H:Hp}{a b:H0}{kvs:List (List Key×V)}{k:List Key}{v:V}(e:H a=some (.dT kvs)) (eb:H b=some (.tup (k.map kV))) (hl:kvs.length<F3) :
  rM H a (.ref b) v (upd H a (.dT (fb kvs k v))):=.inr ⟨kvs,k,b,e,rfl,eb,hl,rfl⟩
section
variable{X:Cx}{aa:List (H0×Obj)}{σ:St}{H:Hp}{s:F1}{a:H0}{y v:V}{u r:F0}{o:Option V}{A:M9}{E:F0->F1->Prop}
theorem Inv.big(I:Inv X aa σ H s):U1<s.heap.objs.size:=by
 have h:ab7<s.heap.objs.size:=(I.mod.glob.keeps I.bk).lt;exact Nat.lt_trans (by decide) h
theorem rC{Q:F0->F1->Prop}(hu:A.units+1<aa7) (I:Inv X aa σ H s) (g:lX H a y (some v)) (ry:aD y u) (h:∀w' s',Inv X aa σ H s'->aD v w'->Q w' s') :
  J3 (K1 X.prog X.w) A (aa5 (.ref a) u) Q E s:=by
 rcases g with⟨kvs,k,e,ey,l⟩|⟨kvs,k,b,e,ey,eb,l⟩
 ·subst ey;obtain⟨z,hd,vs,rel,dd⟩:=o6 I.hok e;obtain⟨w',hw,rw'⟩:=jD.some_of (v:=v) (o:=ac9 vs k) (by rw[l];exact rel.val k);exact wpAny_getItem_of (sS ry) dd.mapOf hw (h w' _ (I.tok _) rw')
 ·subst ey;cases(show u=P7 b from ry);obtain⟨z,hd,xs,rel,dd⟩:=oQ I.hok e;obtain⟨w',hw,rw'⟩:=jD.some_of (v:=v) (o:=(atKey xs k).map (·.2)) (by rw[l];exact rel.val k);obtain⟨p,hp,hp2⟩:=Option.map_eq_some_iff.mp hw;refine wpAny_getItem_heap (tupleKind_room_in1 hu) (lE I.hok eb) dd hp ?_;rw[hp2];exact h w' _ (I.tok _) rw'
theorem kC{h':K2}{t':Nat}{ob:HO}(I:Inv X aa σ H s) (mu:Mut (H a)) (hs:N6 a s.heap h') (he:∃q,h'.get? a=some q) (new:bh X.prog X.w (upd H a ob) h' a ob) :
  Inv X aa σ (upd H a ob) { s with heap:=h',toks:=t' } :=
 I.write (x:=a) (e:=a) mu (.inl rfl) (fun b q hb z=>(hs.2 b hb).trans z) he new
theorem Cs{P:K7}{w:P5}{H':Hp}{h':K2}{kvs:List (Key×V)}{vs:List (Key×F0)}(z:kvs.length<=F3) (hd:(a==U1)=false) (rel:KV kvs vs) (dd:h'.DictOf (bB P w) a vs) :
  bh P w H' h' a (.dK kvs):=⟨z,hd,vs,rel,dd⟩
theorem qG{H':Hp}{Q:Unit->F1->Prop}(hu:A.units+1<aa7) (I:Inv X aa σ H s) (g:rM H a y v H') (ry:aD y u) (rv:aD v r) (h:∀s',Inv X aa σ H' s'->Q () s') :
  J3 (K1 X.prog X.w) A (setItem (.ref a) u r) Q E s:=by
 rcases g with⟨kvs,k,e,ey,l,eH⟩|⟨kvs,k,b,e,ey,eb,l,eH⟩
 ·subst ey eH;obtain⟨z,hd,vs,rel,dd⟩:=ED I.hok e;have hz:vs.length<=F3:=by rw[<-rel.length];exact z
  have hl:(fb kvs k v).length<=F3:=by have:=fK kvs k v;lia
  refine wpAny_setItem_pairs (hsz:=hz) (sS ry) dd fun h' dd' hs=>h _ ?_;have he:∃q,h'.get? a=some q:=let⟨q,_,_,hq,_⟩:=dd';⟨q,hq⟩
  exact kC I (by rw[e];exact aa2) hs he (Cs hl hd (rel.put k rv) dd')
 ·subst ey eH;cases(show u=P7 b from ry);obtain⟨z,hd,xs,rel,dd⟩:=Aw I.hok e;have hz:xs.length<=F3:=by rw[<-X2 rel];exact z
  have hl:(fb kvs k v).length<=F3:=by have:=fK kvs k v;lia
  refine wpAny_setItem_heap (hsz:=hz) (tupleKind_room_in1 hu) (lE I.hok eb) dd fun h' dd' hs=>h _ ?_;obtain⟨q,es,ep,hq,h2,h3,h4,_,h5⟩:=dd';refine kC I (by rw[e];exact aa2) hs ⟨q,hq⟩ ⟨hl,hd,_,(rel.put k eb rv).keeps fun c ys ec=>?_,q,es,ep,hq,h2,h3,h4,h5⟩;rw[aq (AG ec e (fun z=>nomatch z))];exact ec
end
def Bp(i:J4):Prop:=∀ov iv,ab9 i false ov iv=operate [ov,iv] (aa5 ov iv)
theorem yD{prog:K7}{w:P5}{A:M9}{E:F0->F1->Prop}{s:F1}{env:Env}{value slice:J4}{pos:Pos}{T id:String}{Q:F0->F1->Prop}
  (hl:typeLookup (.type T) "__getitem__"=W4 (some (.builtin id))) (hs:Bp slice)
  (h:J3 (K1 prog w) A (V7 value env) (fun o s₁=>J3 (K1 prog w) A (V7 slice env) (fun i s₂=>s₂.TypeIs o T/\J3 (K1 prog w) A (aa5 o i) Q E s₂) E s₁) E s) :
  J3 (K1 prog w) A (V7 (.Subscript value slice pos) env) Q E s:=by
 refine Subscript_ (K8 h (fun o s₁ h₁=>K8 h₁ (fun i s₂ h₂=>?_) fun _ _ x=>x) fun _ _ x=>x);obtain⟨hT,h₂⟩:=h₂;unfold subscriptTail;refine u8 ?_;rw[getitemInPython_of_ne hT.not_modules];refine u8 (Z4 hT hl ?_);have fin:J3 (K1 prog w) A (ab9 slice false o i) (fun r s₃=>J3 (K1 prog w) A (letTemporaryGo value o r >>= fun _=>W4 r) Q E s₃) E s₂:=by
  rw[hs o i];exact wpAny_operating (K8 h₂ (fun r s₃ h₃=>u8 (wpAny_letTemporaryGo (F7 h₃))) fun _ _ x=>x)
 first
  |exact F7 (u8 fin)
  |exact u8 (F7 (u8 fin))
  |exact u8 fin
theorem o8{X:Cx}{aa:List (H0×Obj)}{σ:St}{H:Hp}{s:F1}{a:H0}{y:V}{o:Option V}(I:Inv X aa σ H s) (g:lX H a y o):s.TypeIs (.ref a) "dict":=by
 rcases g with⟨kvs,k,e,_,_⟩|⟨kvs,k,b,e,_,_,_⟩
 ·obtain⟨_,_,vs,_,dd⟩:=o6 I.hok e;exact dd.typeIs
 ·obtain⟨_,_,xs,_,dd⟩:=oQ I.hok e;exact dd.typeIs
def Ex(td ty:TE):TE:=fun σ H Q=>td σ H fun x H1=>ty σ H1 fun y H2=>∃a v,x=.ref a/\lX H2 a y (some v)/\Q v H2
def Ej(td ty tv:TE):TS:=fun D σ H=>tv σ H fun v H1=>td σ H1 fun x H2=>ty σ H2 fun y H3=>∃a H4,x=.ref a/\rM H3 a y v H4/\D.nx σ H4
section
variable{X:Cx}{o i e value:J4}{pos pos' tpos:Pos}{td ty tv:TE}
theorem yB(hu:X.A.units+1<aa7) (ho:PE X o td) (hi:PE X i ty) (hs:Bp i):PE X (.Subscript o i pos) (Ex td ty):=by
 intro aa s σ H Q I h;refine yD PySem.F.slot_dict_getitem.lookup hs (thn (ho aa s σ H _ I h) fun u s1 hup=>hup.el fun x H1 I1 rx q1=>thn (hi aa s1 σ H1 _ I1 q1) fun iv s2 ⟨y,H2,I2,ry,a,v,ex,g,q2⟩=>?_);subst ex;obtain rfl:u=P7 a:=rx;exact⟨o8 I2 g,rC hu I2 g ry fun w' s3 I3 rw'=>⟨v,H2,I3,rw',q2⟩⟩
theorem xU(hu:X.A.units+1<aa7) (ho:PE X o td) (hi:PE X i ty) (hv:PE X value tv) (hs:W9 value (some (.Subscript o i pos')) pos.line X.env=W4 false) :
  PS X (.Assign [.Subscript o i pos'] value pos) (Ej td ty tv):=by
 intro aa s σ H D I h;refine wpAny_Assign_Subscript (thn (hv aa s σ H _ I h) fun r s1 hup=>hup.el fun v H1 I1 rv q1=>thn (ho aa s1 σ H1 _ I1 q1) fun u s2 hup=>hup.el fun x H2 I2 rx q2=>thn (hi aa s2 σ H2 _ I2 q2) fun iv s3 ⟨y,H3,I3,ry,a,H4,ex,g,q3⟩=>?_) hs;subst ex;obtain rfl:u=P7 a:=rx;exact qG hu I3 g ry rv fun s4 I4=>⟨σ,H4,I4,q3⟩
end
theorem wZ{P:K7}{w:P5}{H:Hp}(h:K2) (hb:U1<h.objs.size):bh P w H (h.push { cls:=.type "dict",data:=.dict #[] }) h.objs.size (.dT []) :=
 ⟨P9 _,beq_eq_false_iff_ne.mpr (Z9 (I0 hb)),[],.nil,_,#[],0,F6 _ rfl,⟨rfl,rfl,rfl⟩,rfl,rfl,List.nodup_nil⟩
structure M1(X:Cx) (o:J4) (m:Str) (cM:Pos) (e:J4) (bf:Pos):Prop where
 base:X6 o m X.env (V7 o X.env)=V7 o X.env
 few:((V8 bf (J5 [e] X.env)).all (fun x=>!x.1)&&(backToKw bf (ac0 [] X.env)).all (fun x=>x.1.isSome)
 &&decide (([e]:List J4).length+([]:List ac1).length+(if([]:List ac1).isEmpty then 0 else 1)<30))=true
 line:(cM.endLine==bf.line)=true
 trees:V8 bf (J5 [e] X.env)=[(false,V7 e X.env)]
structure M2(X:Cx) (o:J4) (m:Str) (cM:Pos) (e f:J4) (bf:Pos):Prop where
 base:X6 o m X.env (V7 o X.env)=V7 o X.env
 few:((V8 bf (J5 [e,f] X.env)).all (fun x=>!x.1)&&(backToKw bf (ac0 [] X.env)).all (fun x=>x.1.isSome)
 &&decide (([e,f]:List J4).length+([]:List ac1).length+(if([]:List ac1).isEmpty then 0 else 1)<30))=true
 line:(cM.endLine==bf.line)=true
 trees:V8 bf (J5 [e,f] X.env)=[(false,V7 e X.env),(false,V7 f X.env)]
def IsD(H:Hp) (a:H0):Prop:=(∃kvs,Rd H a (.dK kvs))∨∃kvs,Rd H a (.dT kvs)
theorem Cr{X:Cx}{aa:List (H0×Obj)}{σ:St}{H:Hp}{s:F1}{a:H0}(I:Inv X aa σ H s) (d:IsD H a) :
  s.TypeIs (.ref a) "dict"/\(∀b,P7 a=.ref b->∃ob,s.heap.get? b=some ob/\ob.dict=none)/\(a==U1)=false:=by
 rcases d with⟨kvs,e⟩|⟨kvs,e⟩
 ·obtain⟨_,hd,vs,_,dd⟩:=o6 I.hok e;refine⟨dd.typeIs,fun b q=>?_,hd⟩;cases q;obtain⟨ob,_,_,h1,h2,_⟩:=dd;exact⟨ob,h1,h2.2.1⟩
 ·obtain⟨_,hd,xs,_,dd⟩:=oQ I.hok e;refine⟨dd.typeIs,fun b q=>?_,hd⟩;cases q;obtain⟨ob,_,_,h1,h2,_⟩:=dd;exact⟨ob,h1,h2.2.1⟩
section
variable{X:Cx}{aa:List (H0×Obj)}{σ:St}{H:Hp}{s:F1}{a:H0}{y d:V}{u r:F0}{o:Option V}{A:M9}{E:F0->F1->Prop}
theorem yn{Q:F0->F1->Prop}(hu:A.units+1<aa7) (I:Inv X aa σ H s) (g:lX H a y o) (ry:aD y u) (rd:aD d r) (h:∀w' s',Inv X aa σ H s'->aD (o.getD d) w'->Q w' s') :
  J3 (K1 X.prog X.w) A (call (.builtin "dict.get") [.ref a,u,r]) Q E s:=by
 rcases g with⟨kvs,k,e,ey,l⟩|⟨kvs,k,b,e,ey,eb,l⟩
 ·subst ey;obtain⟨z,hd,vs,rel,dd⟩:=o6 I.hok e;refine call_meetsIn PySem.F.slot_dict_get dd.typeIs PySem.F.entry_dict_get (PySem.F.args_dict_get_3 _ _ _) (meets_dict_get_default (bB X.prog X.w) a (sS ry) hd r) ⟨_,dd.mapOf,h _ _ (I.tok _) ?_⟩;rw[l];exact(rel.val k).getD rd
 ·subst ey;cases(show u=P7 b from ry);obtain⟨z,hd,xs,rel,dd⟩:=oQ I.hok e;refine call_meetsIn PySem.F.slot_dict_get dd.typeIs PySem.F.entry_dict_get (PySem.F.args_dict_get_3 _ _ _) (meetsH_dict_get_default (aa8 (bB X.prog X.w)) a b hd r) ⟨tupleKind_room_in1 hu,k,xs,lE I.hok eb,dd,h _ _ (I.tok _) ?_⟩;rw[l];exact(rel.val k).getD rd
end
def BA(td ty tx:TE):TE:=fun σ H Q=>td σ H fun x H1=>∃a,x=.ref a/\IsD H1 a/\ty σ H1 fun y H2=>tx σ H2 fun z H3=>∃o,lX H3 a y o/\Q (o.getD z) H3
section
variable{X:Cx}{o e f:J4}{cM bf:Pos}{td ty tx:TE}
theorem wR(hu:X.A.units+1<aa7) (ho:PE X o td) (he:PE X e ty) (hf:PE X f tx) (m:M2 X o "get" cM e f bf):PE X (.Call (.Attribute o "get" cM) [e,f] [] bf) (BA td ty tx):=by
 intro aa s σ H Q I h;refine wpAny_Call_method m.base m.few m.line PySem.F.plainAttrs_dict PySem.F.slot_dict_get PySem.F.type_dict_get (thn (ho aa s σ H _ I h) fun u s1 ⟨x,H1,I1,rx,a,ex,d,q1⟩=>?_);subst ex;obtain rfl:u=P7 a:=rx;obtain⟨t1,t2,_⟩:=Cr I1 d;refine⟨t1,t2,?_⟩;rw[m.trees];refine Calls.callWith_builtin rfl (Calls.evalArgs_plain (Calls.spliced_cons (thn (he aa s1 σ H1 _ I1 q1) fun iv s2 hup=>hup.el fun y H2 I2 ry q2 =>
  Calls.spliced_cons (thn (hf aa s2 σ H2 _ I2 q2) fun fv s3 ⟨z,H3,I3,rz,ov,g,q3⟩=>Calls.spliced_nil ?_))))
 exact yn hu I3 g ry rz fun w' s4 I4 rw'=>⟨_,H3,I4,rw',q3⟩
end
noncomputable def au(X:Cx) (scope:R0) (cl:List (Str×H0)) (N:List Str) (C:H0) (s:F1) (H:Hp) (ex:List H0):Cx where
 prog:=X.prog
 w:=X.w
 K:=X.K
 mg:=X.mg
 base:=X.base
 A:=X.A
 N:=N
 s₀:=s
 H₀:=H
 env:=ad3 scope cl C X.env
 outer:=X.stack
 stack:=X.stack
 ex:=ex
 calm:=X.calm
 fn:=fun _=>false
 pn:=[]
 xe:=fun _ _=>False
noncomputable def bw:List Bool->St->St
 |true::ms,v::σ=>v::bw ms σ
 |false::ms,_::σ=>none::bw ms σ
 |[],_::σ=>none::bw [] σ
 |_,[]=>[]
theorem bj:∀(ms:List Bool) (σ:St),(bw ms σ).length=σ.length
 |true::ms,v::σ=>by simp[bw,bj ms σ]
 |false::ms,_::σ=>by simp[bw,bj ms σ]
 |[],_::σ=>by simp[bw,bj [] σ]
 |[],[]=>by simp[bw]
 |true::_,[]=>by simp[bw]
 |false::_,[]=>by simp[bw]
theorem gq:∀{ms:List Bool}{σ:St}{i:Nat}{v:V},(bw ms σ)[i]?=some (some v)->ms[i]?=some true/\σ[i]?=some (some v)
 |true::ms,v::σ,0,x,h=>by simpa[bw]using h
 |true::ms,v::σ,i+1,x,h=>by
  have:=gq (ms:=ms) (σ:=σ) (i:=i) (v:=x) (by simpa[bw]using h);simpa using this
 |false::ms,_::σ,0,x,h=>by simp[bw]at h
 |false::ms,_::σ,i+1,x,h=>by
  have:=gq (ms:=ms) (σ:=σ) (i:=i) (v:=x) (by simpa[bw]using h);simpa using this
 |[],_::σ,0,x,h=>by simp[bw]at h
 |[],_::σ,i+1,x,h=>by
  have:=gq (ms:=[]) (σ:=σ) (i:=i) (v:=x) (by simpa[bw]using h);simpa using this
 |[],[],_,_,h=>by simp[bw]at h
 |true::_,[],_,_,h=>by simp[bw]at h
 |false::_,[],_,_,h=>by simp[bw]at h
def cW(ms:List Bool) (k:Nat) (σ:St):St:=bw ms σ++J1 k none
theorem mS{ms:List Bool}{k:Nat}{σ:St}{i:Nat}{v:V}(h:(cW ms k σ)[i]?=some (some v)):i<σ.length/\ms[i]?=some true/\σ[i]?=some (some v):=by
 unfold cW at h
 by_cases hi:i<(bw ms σ).length
 ·rw[L9 hi]at h;exact⟨by rwa [bj]at hi,gq h⟩
 ·rw[Q6 (by lia),S8]at h
  split at h<;>cases h
structure cA(X:Cx) (scope:R0) (cl:List (Str×H0)) (ms:List Bool) (ag:List Str):Prop where
 kind:scope.kind=.function
 ncell:∀y∈scope.names,y.2≠.cell
 names:∀y∈scope.names,y.2=.local->scope.names.lookup y.1=some .local
 clos:closureFor scope X.env=W4 cl
 sub:∀x c,cl.lookup x=some c->X.env.cells.lookup x=some c
 has:∀x,scope.names.lookup x=some .free->∃c,cl.lookup x=some c
 fr:∀x,scope.names.lookup x=some .free->X.env.scope.names.lookup x=some .cell∨X.env.scope.names.lookup x=some .free
 mask:∀(i:Nat) (x:Str),ms[i]?=some true->X.N[i]?=some x->scope.names.lookup x=some .free
 mlen:ms.length<=X.N.length
theorem g9{env:Env}:∀{names:List (Str×J7)}{x:Str}{k:J7},
  (names.map fun(n,k)=>if(k==K5&&env.scope.kind==.function&&env.kindOf n==some .cell)then(n,P2)else(n,k)).lookup x=some k->(∀y∈names,y.2≠.cell)->k=.cell∨k=.free->names.lookup x=some .free
 |[],_,_,h,_,_=>by simp at h
 |(n,k0)::r,x,k,h,hc,hk=>by
  have ih:=@g9 env r x k;have h:ac2 x ((if(k0==K5&&env.scope.kind==.function&&env.kindOf n==some .cell)=true then(n,P2)else(n,k0))::_)=some k:=h;cases hx:x==n with
  |true =>
   by_cases hq:(k0==K5&&env.scope.kind==.function&&env.kindOf n==some .cell)=true
   ·have:k0=.free:=by
     simp at hq;exact hq.1.1
    subst this;simp[J6,hx]
   ·rw[if_neg hq]at h;simp only[J6,hx]at h;cases h;rcases hk with rfl|rfl
    ·exact absurd rfl (hc (n,.cell) N0)
    ·simp[J6,hx]
  |false =>
   by_cases hq:(k0==K5&&env.scope.kind==.function&&env.kindOf n==some .cell)=true
   ·rw[if_pos hq]at h;simp only[J6,hx]at h ⊢;exact ih h (fun y hy=>hc y (L3 _ hy)) hk
   ·rw[if_neg hq]at h;simp only[J6,hx]at h ⊢;exact ih h (fun y hy=>hc y (L3 _ hy)) hk
theorem eU{env:Env}:∀{names:List (Str×J7)}{x:Str},names.lookup x=some .free ->
  (names.map fun(n,k)=>if(k==K5&&env.scope.kind==.function&&env.kindOf n==some .cell)then(n,P2)else(n,k)).lookup x=some .cell ∨
  (names.map fun(n,k)=>if(k==K5&&env.scope.kind==.function&&env.kindOf n==some .cell)then(n,P2)else(n,k)).lookup x=some .free
 |[],_,h=>by simp at h
 |(n,k0)::r,x,h=>by
  have ih:=@eU env r x;show ac2 x ((if(k0==K5&&env.scope.kind==.function&&env.kindOf n==some .cell)=true then(n,P2)else(n,k0))::_)=_∨ac2 x ((if(k0==K5&&env.scope.kind==.function&&env.kindOf n==some .cell)=true then(n,P2)else(n,k0))::_)=_;cases hx:x==n with
  |true =>
   simp only[J6,hx]at h;cases h
   split
   ·left;simp[J6,hx]
   ·right;simp[J6,hx]
  |false =>
   simp only[J6,hx]at h
   split<;>(simp only[J6,hx];exact ih h)
section
variable{X:Cx}{aa:List (H0×Obj)}{σ:St}{H H2:Hp}{s s2:F1}{scope:R0}{cl:List (Str×H0)}{ms:List Bool}{ag:List Str}
theorem rh(I:Inv X aa σ H s) (S:cA X scope cl ms ag) {fp:List H0}(hfp:∀b∈fp,cH X aa H b) (hlt:∀b∈fp,b<s.heap.objs.size) {C:H0}(hC:s.heap.objs.size<=C) :
  (au X scope cl (X.N++ag) C s H fp).Ok where
 mod:=I.ok.mod
 kind:=S.kind
 glob:=I.ok.glob
 blt:=I.ok.blt
 above:=hC
 inj:=fun x y c h1 h2=>I.ok.inj x y c (S.sub x c h1) (S.sub y c h2)
 has:=fun x hx=>S.has x (g9 (env:=X.env) (k:=if(au X scope cl (X.N++ag) C s H fp).env.kindOf x=some .cell then .cell else .free) (by
  rcases hx with hx|hx
  ·rw[if_pos hx];exact hx
  ·rw[if_neg (by rw[hx];decide)];exact hx) S.ncell (by split<;>simp))
 cab:=fun x c h=>by cases h
 hd:=I.ok.hd
 frames:=I.ok.frames
 stk:=.inl rfl
 exf:=fun b hb=>⟨I0 (F9 (hlt b hb) hC),fun x c e=>(hfp b hb).2.2.2.2.1 x c (S.sub x c e)⟩
 bs:=I.bs
 bsz:=L6 I.ok.bsz I.sz
 noex:=fun b o e hb=>by
  rcases(hfp b hb).2.2.2.1 with z|z
  ·exact I.ok.noex b o e z
  ·exact absurd (F9 (F4 e) (L6 I.ok.bsz z)) (N8 _)
 exfs:=fun b hb z=>by
  rcases N4.mp (I.stkSub b z)with e|e
  ·exact(hfp b hb).2.1 e
  ·exact(hfp b hb).2.2.1 e
 funs:=I.stack
 frf:=I.stkFree
theorem su(I:Inv X aa σ H s) (S:cA X scope cl ms ag) {fp:List H0}(hfp:∀b∈fp,cH X aa H b) (hlt:∀b∈fp,b<s.heap.objs.size) {C:H0}(hC:s.heap.objs.size<=C)
  (os:s2.os=s.os) (bare:aa9 s2.gens) (keep:∀b o,s.heap.get? b=some o->s2.heap.get? b=some o) {m:Str->Option F0} (hn:s2.heap.Ns C m) :
  Inv (au X scope cl (X.N++ag) C s H fp) [] (cW ms ag.length σ) H s2 where
 ok:=rh I S hfp hlt hC
 os:=os
 bare:=bare
 base:=Un.kept keep
 loc:=⟨m,hn,fun i x v h1 h2 h3=>by
  obtain⟨hi,hm,hv⟩:=mS h2;have hiN:i<X.N.length:=by rw[<-I.len];exact hi
  have hx:X.N[i]?=some x:=by
   have h1':(X.N++ag)[i]?=some x:=h1
   rwa [L9 hiN]at h1'
  have hf:=S.mask i x hm hx;obtain⟨m0,hn0,hl⟩:=I.loc;obtain⟨u,r,l⟩:=hl i x v hx hv (by rcases S.fr x hf with z|z<;>simp[Vis,z]);refine⟨u,r,.inr ⟨?_,?_⟩⟩
  ·exact eU (env:=X.env) hf
  ·obtain⟨c,hc⟩:=S.has x hf;have hc':=S.sub x c hc;rcases l with⟨k,_⟩|⟨_,c',e,z⟩
   ·rcases S.fr x hf with z|z<;>(have k':X.env.scope.names.lookup x=some .local:=k;rw[z]at k';cases k')
   ·rw[hc']at e;cases e;obtain⟨o,ho,hd⟩:=z;exact⟨c,hc,o,keep _ _ ho,hd⟩⟩
 cell:=fun x c e=>by
  obtain⟨v,o,ho,hd⟩:=I.cell x c (S.sub x c e);exact⟨v,o,keep _ _ ho,hd⟩
 free:=I.hok.fresh hC
 freeC:=fun x c e=>I.freeC x c (S.sub x c e)
 pin:=fun p hp=>absurd (show p∈([]:List (H0×Obj))from hp) (by simp)
 hok:=I.hok.kept keep
 len:=by
  unfold cW;rw[L8,bj,List.length_replicate,I.len];show _=(X.N++ag).length;rw[L8]
end
def PIf(X:Cx) (ifs:List J4) (t:TT):Prop :=
 ∀(aa:List (H0×Obj)) (s:F1) (σ:St) (H:Hp) (Q:Bool->Hp->Prop),Inv X aa σ H s->t σ H Q ->
  J3 (K1 X.prog X.w) X.A (forIn ifs true fun c r=>if r=true then do let ok <-isTrue c X.env (V7 c X.env);W4 (O3 ok)else W4 (O3 r)) (TP X aa σ Q) X.xe s
def Fo:TT:=fun _ H Q=>Q true H
theorem zS{X:Cx}:PIf X [] Fo:=fun _ _ _ H _ I h=>wpAny_tests_nil ⟨H,I,h⟩
theorem yv{X:Cx}{c:J4}{t:TT}(h:PT X c t):PIf X [c] t:=fun aa s σ H Q I q=>wpAny_tests_one (h aa s σ H Q I q)
abbrev cV(its:List F0) (n:Nat):Obj:={ cls:=.type "list",data:=.seq its.toArray n }
theorem thF{α:Type}{t:Sem α}{Q Q':α->F1->Prop}{M:Model}{A:M9}{E:F0->F1->Prop}{s:F1}(hE:E=fun _ _=>False) (h:J3 M A t Q E s) (hQ:∀a s,Q a s->Q' a s):J3 M A t Q' (fun _ _=>False) s:=K8 h hQ fun e s x=>by rw[hE]at x;exact x
abbrev lcE(el:J4) (gs:List X7) (sc:R0) (ps:Pos):J4:=.ListComp el gs sc ps
section
variable{prog:K7}{w:P5}{A:M9}{R:ad7->F1->Prop}{s:F1}{el tg elt i:J4}{fs:List J4}{k:Nat}{p:Pos}{it acc:F0}{env:Env}{gs:List X7}{sc:R0}{ps:Pos}
abbrev AWt:=(F1->Prop)->F1->Prop
def sv(prog:K7) (w:P5) (A:M9) (elt:J4) (acc:F0) (env:Env):AWt:=fun Ok s=>J3 (K1 prog w) A (V7 elt env) (fun x s₄=>J3 (K1 prog w) A (call (.builtin "list.append") [acc,x]) (fun _ s₅=>Ok s₅) (fun _ _=>False) s₄) (fun _ _=>False) s
def wq(prog:K7) (w:P5) (A:M9) (ce:J4) (k:Nat) (i:J4) (acc:F0) (env:Env):AWt:=fun Ok s=>J3 (K1 prog w) A (V7 i env) (fun x s₄=>J3 (K1 prog w) A (ac3 x) (fun it2 s₅ =>
 V3 (K1 prog w) A (.compStart ce k it2 acc env) (fun r s₆=>(∃f,r=.ok f)/\Ok s₆) s₅) (fun _ _=>False) s₄) (fun _ _=>False) s
def yz(ce:J4) (k:Nat) (p:Pos) (tg:J4) (fs:List J4) (bd:F0->F0->Env->Sem Fin):Prop:=∀it acc env,compTurn ce k it acc env=(do
  ad4 p
  let r <-ad1 it
  match r with
   |none=>W4 (Fin.done Flow.next)
   |some v=>do
    T7 tg it v
    X1 tg env v
    let ok <-forIn fs true fun c r=>if r=true then do let ok <-PySem.isTrue c env (V7 c env);W4 (O3 ok)else W4 (O3 r)
    if ok=true then bd it acc env else again (U2 ce k it acc env))
def zu(prog:K7) (w:P5) (A:M9) (ce:J4) (k:Nat) (bd:F0->F0->Env->Sem Fin) (it acc:F0) (env:Env) (AW:AWt):Prop :=
 ∀Ok s (R:ad7->F1->Prop) (E:F0->F1->Prop),AW Ok s->J3 (K1 prog w) A (bd it acc env) (fun fin s'=>match fin with|.done f=>R (.ok f) s'|.again c'=>c'=U2 ce k it acc env/\Ok s') E s
theorem mn{bd:F0->F0->Env->Sem Fin}{AW:AWt}(hT:yz (lcE el gs sc ps) k p tg fs bd) (hq:(U2 (lcE el gs sc ps) k it acc env).quiet=true:=by rfl) (hb:zu prog w A (lcE el gs sc ps) k bd it acc env AW) (I:Nat->F1->Prop)
  (turn:∀ n s,I n s → J3 (K1 prog w) A (ad1 it) (fun r s₁ => match r with
   |none=>R (.ok .next) s₁
   | some v => J3 (K1 prog w) A (T7 tg it v) (fun _ s₁ => J3 (K1 prog w) A (X1 tg env v) (fun _ s₂ =>
     J3 (K1 prog w) A (forIn fs true fun c r=>if r=true then do let ok <-isTrue c env (V7 c env);W4 (O3 ok)else W4 (O3 r)) (fun ok s₃ =>
      if ok=true then AW (fun s₅=>∃m,m<n/\I m s₅) s₃
      else ∃m,m<n/\I m s₃) (fun _ _=>False) s₂) (fun _ _=>False) s₁) (fun _ _=>False) s₁) (fun _ _=>False) s)
  (n:Nat) (h:I n s) :
  V3 (K1 prog w) A (.compLoop (lcE el gs sc ps) k it acc env) R s:=by
 refine codeAny_loop hq I (fun n s hI=>?_) n h;show J3 _ A ((compTurn (lcE el gs sc ps) k it acc env).onRaise (fun x=>do noteFrame x env;theTreesLotGoes x)) _ _ s;refine wpAny_noted ?_;rw[hT];refine u8 (U3 (u8 (K8 (turn n s hI) (fun r s₁ h₁=>?_) fun _ _ h'=>h'.elim)));cases r with
 |none=>exact F7 h₁
 |some v =>
  refine u8 (K8 h₁ (fun _ s1 h₁=>?_) fun _ _ h'=>h'.elim);refine u8 (K8 h₁ (fun _ s₂ h₂=>u8 (K8 h₂ (fun ok s₃ h₃=>?_) fun _ _ h'=>h'.elim)) fun _ _ h'=>h'.elim);cases ok with
  |false=>exact F7 ⟨rfl,h₃⟩
  |true=>exact hb _ _ _ _ h₃
noncomputable def AC(ce:J4) (k:Nat) (elt:J4):F0->F0->Env->Sem Fin:=fun it acc env=>bind (bind (V7 elt env) fun x=>bind (call (F0.builtin "list.append") [acc,x]) fun _=>W4 ()) fun(_:Unit)=>again (U2 ce k it acc env)
noncomputable def Ax(ce:J4) (k:Nat) (i:J4):F0->F0->Env->Sem Fin:=fun it acc env=>do
 let x <-V7 i env
 ad4 i.pos
 let x <-M0 i env x
 let it2 <-holding [x] (ac3 x)
 let _ <-runOwn (Code.compStart ce (k+1) it2 acc env) env
 again (U2 ce k it acc env)
theorem yN:zu prog w A (lcE el gs sc ps) k (AC (lcE el gs sc ps) k elt) it acc env (sv prog w A elt acc env):=fun Ok s R E h =>
 u8 (u8 (K8 h (fun x s₄ h₄=>u8 (K8 h₄ (fun _ s₅ h₅=>F7 (F7 ⟨rfl,h₅⟩)) fun _ _ h'=>h'.elim)) fun _ _ h'=>h'.elim))
theorem yQ(hs:∀x,M0 i env x=W4 x):zu prog w A (lcE el gs sc ps) k (Ax (lcE el gs sc ps) k i) it acc env (wq prog w A (lcE el gs sc ps) (k+1) i acc env):=fun Ok s R E h=>by
 refine u8 (K8 h (fun x s₄ h₄=>u8 (U3 ?_)) fun _ _ h'=>h'.elim);rw[hs x];refine u8 (F7 (u8 (X5 (K8 h₄ (fun it2 s₅ h₅=>?_) fun _ _ h'=>h'.elim))));refine u8 (wpAny_runOwn (ab1 h₅ fun r s₆ h₆=>?_));obtain⟨⟨f,rfl⟩,h₆⟩:=h₆;exact F7 ⟨rfl,h₆⟩
def uU(ce:J4) (k:Nat) (p:Pos):Prop:=∀it acc env,compStart ce k it acc env=(do
  let r <-ask
  if r.params.followText "comprehension-iter-twice"=true then again (U2 ce k it acc env)
   else do
    rule "comprehension.iter-twice"
    ad4 p
    let i <-ac3 it
    again (U2 ce k i acc env))
theorem lZ(hS:uU (lcE el gs sc ps) k p) (h:V3 (K1 prog w) A (.compLoop (lcE el gs sc ps) k it acc env) R s)
  (h2:J3 (K1 prog w) A (ac3 it) (fun it' s'=>V3 (K1 prog w) A (.compLoop (lcE el gs sc ps) k it' acc env) R s') (fun _ _=>False) s) :
  V3 (K1 prog w) A (.compStart (lcE el gs sc ps) k it acc env) R s:=by
 refine codeAny_of_tree ?_;show J3 _ A ((compStart (lcE el gs sc ps) k it acc env).onRaise (fun x=>do noteFrame x env;ad4 theWindowsPlace)) _ _ s;refine wpAny_onRaise ?_;rw[hS];refine u8 (wpAny_askSetting ?_);dsimp only
 split
 ·exact F7 ⟨rfl,h⟩
 ·exact u8 (ad0 (u8 (U3 (u8 (K8 h2 (fun it' s' h'=>F7 ⟨rfl,h'⟩) fun _ _ h'=>h'.elim)))))
end
abbrev BK:=List V->St->Hp->(List V->St->Hp->Prop)->Prop
def gX(J:It) (g:TG) (tc:TT) (B:BK) (W:Nat->Nat->List V->St->Hp->Prop) (Z:List V->St->Hp->Prop):Prop :=
 ∀i m ys σ H,W i m ys σ H->ys.length<=F3/\((J.stop i H/\Z ys σ H) ∨
  (J.go i H/\∀x H',J.yld i H x H'->g x σ H' fun σ2 H2=>tc σ2 H2 fun b H3=>if b=true then B ys σ2 H3 (fun ys' σ' H'=>∃m',m'<m/\W (i+1) m' ys' σ' H')else ∃m',m'<m/\W (i+1) m' ys σ2 H3))
def jd(te:TE):BK:=fun ys σ H Z=>te σ H fun y H'=>Z (ys++[y]) σ H'
def wQ(wi:TI) (g:TG) (tc:TT) (B:BK):BK:=fun ys σ H Z=>wi σ H fun J H'=>∃W:Nat->Nat->List V->St->Hp->Prop,(∃m,W 0 m ys σ H')/\gX J g tc B W Z
section
variable{Y:Cx}{D:H0}{el tg elt i1:J4}{fs:List J4}{g:TG}{tc:TT}{te:TE}{wi:TI}{B:BK}{k:Nat}{p:Pos}{gs:List X7}{sc:R0}{ps:Pos}
def As(Y:Cx) (D:H0) (AW:AWt) (B:BK):Prop:=∀(P:List (H0×Obj)) (its:List F0) (nn:Nat) (ys:List V) (σ:St) (H:Hp) (s:F1) (Z:List V->St->Hp->Prop),Inv Y ([(D,cV its nn)]++P) σ H s->ao ys its->ys.length<=F3->(∀p∈P,p.1≠D)->B ys σ H Z ->
 AW (fun s'=>∃ys' its' n' σ' H',Inv Y ([(D,cV its' n')]++P) σ' H' s'/\ao ys' its'/\Z ys' σ' H') s
structure ji(Y:Cx) (D:H0):Prop where
 pn:Y.pn=[]
 calm:Y.calm=true
 xe:Y.xe=fun _ _=>False
 ex:D∈Y.ex∨Y.s₀.heap.objs.size<=D
 cell:∀x c,Y.env.cells.lookup x=some c->c≠D
theorem AWt.mono_leaf{prog:K7}{w:P5}{A:M9}{acc:F0}{env:Env}{Ok Ok':F1->Prop}{s:F1}(h:sv prog w A elt acc env Ok s) (k:∀s,Ok s->Ok' s):sv prog w A elt acc env Ok' s :=
 K8 h (fun _ _ h1=>K8 h1 (fun _ _ h2=>k _ h2) fun _ _ x=>x) fun _ _ x=>x
theorem xP(c:ji Y D) (he:PE Y elt te):As Y D (sv Y.prog Y.w Y.A elt (.ref D) Y.env) (jd te):=by
 intro P its nn ys σ H s Z I rv hz hPD q;refine thF c.xe (he _ s σ H _ I q) fun v s9 hup=>hup.el fun y H9 I9 r9 q9=>?_;have pacc:=I9.pin (D,cV its nn) (J0 _ (List.mem_append_left _ N0));have hzi:its.toArray.size<=F3:=by rw[F5,<-rv.length];exact hz
 refine PySem.wpAny_list_append_plain (hsz:=hzi) ⟨nn,pacc.1⟩ fun h' hl' hs'=>?_;obtain⟨n',hl'⟩:=hl';have I10:Inv Y [] σ H9 { s9 with heap:=h' } :=
  Inv.turned (t':=s9.toks) (it:=D) (I9.pins_of fun p hp=>absurd hp (by simp)) (fun b o hb e=>(hs'.2 b hb).trans e) pacc.2.1 pacc.2.2.1 c.ex c.cell (fun p hp=>absurd (show p∈([]:List (H0×Obj))from by rw[c.pn]at hp;exact hp) (by simp))
 refine⟨ys++[y],its++[v],n',σ,H9,I10.pins_of fun p hp=>?_,rv.append (.cons r9 .nil),q9⟩;rcases V0.mp hp with z|z
 ·have e:p=(D,cV (its++[v]) n'):=N1.mp z;subst e;refine⟨?_,pacc.2.1,pacc.2.2.1,pacc.2.2.2.1,fun v z=>by cases z⟩;rw[hl'];simp[cV]
 ·obtain⟨b1,b2,b3,b4,b5⟩:=I9.pin p (J0 _ (J0 _ z));exact⟨(hs'.2 _ (hPD p z)).trans b1,b2,b3,b4,b5⟩
structure Lv(Y:Cx) (D:H0) (ce:J4) (k:Nat) (p:Pos) (tg:J4) (fs:List J4) (B:BK):Prop where
 ex:∃bd AW,yz ce k p tg fs bd/\(∀it,zu Y.prog Y.w Y.A ce k bd it (.ref D) Y.env AW)/\As Y D AW B/\∀{Ok Ok':F1->Prop} {s:F1},AW Ok s->(∀s,Ok s->Ok' s)->AW Ok' s
theorem nH(c:ji Y D) (he:PE Y elt te) (hT:yz (lcE el gs sc ps) k p tg fs (AC (lcE el gs sc ps) k elt)):Lv Y D (lcE el gs sc ps) k p tg fs (jd te):=⟨_,_,hT,fun _=>yN,xP c he,AWt.mono_leaf⟩
theorem iK(c:ji Y D) (L:Lv Y D (lcE el gs sc ps) k p tg fs B) {it2:H0}
  (hg:PG Y tg g) (hif:PIf Y fs tc) {P:List (H0×Obj)} (hPD:∀p∈P,p.1≠D)
  {its0:List F0} {nn0:Nat} {ys0:List V} {σ:St} {H:Hp} {s:F1} (I:Inv Y ([(D,cV its0 nn0)]++P) σ H s) (rv0:ao ys0 its0) {fp2:List H0} {tn2:Nat->K2->Prop} {J2:It} (T:iJ Y.prog Y.w Y.K tg J2 fp2 it2 tn2) (st:tn2 0 s.heap)
  (f:∀b∈fp2,cH Y ([(D,cV its0 nn0)]++P) H b) {W2:Nat->Nat->List V->St->Hp->Prop} {Z2:List V->St->Hp->Prop} {m0:Nat} (w0:W2 0 m0 ys0 σ H) (turn:gX J2 g tc B W2 Z2) {R:ad7->F1->Prop}
  (hR:∀(s':F1) (ys:List V) (its:List F0) (n:Nat) (σ':St) (H':Hp),Inv Y ([(D,cV its n)]++P) σ' H' s'->ao ys its->ys.length<=F3->Z2 ys σ' H'->R (.ok .next) s') :
  V3 (K1 Y.prog Y.w) Y.A (.compLoop (lcE el gs sc ps) k (.ref it2) (.ref D) Y.env) R s:=by
 obtain⟨bd,AW,hT,hb,hB,hAW⟩:=L.ex;have fpc:∀{H:Hp} {n:Nat} {its:List F0},(∀b∈fp2,H b=none)->∀b∈fp2,cH Y ([(D,cV its n)]++P) H b:=fun hn b hb=>by
  obtain⟨_,a1,a2,a3,a4,a5⟩:=f b hb;refine⟨hn b hb,a1,a2,a3,a4,fun p hp=>?_⟩;rw[c.pn,List.nil_append]at hp;rcases V0.mp hp with z|z
  ·obtain rfl:=N1.mp z;exact a5 (D,cV its0 nn0) (by rw[c.pn];simp)
  ·exact a5 p (by rw[c.pn];simp[z])
 refine mn hT rfl (hb _) (fun n s'=>∃i ys its nn σ' H',Inv Y ([(D,cV its nn)]++P) σ' H' s'/\ao ys its/\tn2 i s'.heap/\(∀b∈fp2,H' b=none)/\W2 i n ys σ' H') ?_ m0
  ⟨0,ys0,its0,nn0,σ,H,I,rv0,st,fun b hb=>(f b hb).1,w0⟩
 rintro n s' ⟨i,ys,its,nn,σ',H',I4,rv,st4,fr4,w4⟩;obtain⟨hz,h⟩:=turn i n ys σ' H' w4;rcases h with⟨stop,hZ⟩|⟨go,step⟩
 ·refine thn (T.done Y rfl rfl rfl c.calm i _ s' _ H' (fun _ _=>False) I4 (fpc fr4) st4 stop) fun r s4 ⟨hr,I5⟩=>?_;subst hr;exact hR s4 ys its nn σ' H' I5 rv hz hZ
 ·refine thn (T.item Y rfl rfl rfl c.calm i _ s' _ H' (fun _ _=>False) I4 (fpc fr4) st4 go) fun r s5 ⟨u,hr,h5⟩=>?_;subst hr;refine thn h5 fun _ s6 ⟨x,H6,I6,r6,y6,st6,fr6⟩=>?_;have I6':=I6.pinned (fpc fr6) (T.obj _ _ st6);refine thF c.xe (hg _ s6 _ H6 x u _ I6' r6 (step x H6 y6)) fun _ s7 ⟨σ7,H7,I7,q7⟩=>?_;refine thF c.xe (hif _ s7 σ7 H7 _ I7 q7) fun ok s8 hup=>hup.el fun H8 I8 q8=>?_;have keepfp:∀{its:List F0} {nn:Nat} {σ9:St} {H9:Hp} {s9:F1},Inv Y (([(D,cV its nn)]++P)++gS fp2 s6.heap) σ9 H9 s9->tn2 (i+1) s9.heap/\∀b∈fp2,H9 b=none:=fun {its nn σ9 H9 s9} I9 =>
   ⟨T.keep _ _ _ st6 fun b hb o e=>(I9.pin (b,o) (J0 _ (J0 _ (cP hb e)))).1,fun b hb=>by
    obtain⟨o,e,d⟩:=T.obj _ _ st6 b hb;exact(I9.pin (b,o) (J0 _ (J0 _ (cP hb e)))).2.1⟩
  cases ok with
  |false =>
   obtain⟨m',hm,w8⟩:=q8;obtain⟨a8,b8⟩:=keepfp I8;exact⟨m',hm,i+1,ys,its,nn,σ7,H8,I8.unpinned,rv,a8,b8,w8⟩
  |true =>
   have hPD2:∀p∈P++gS fp2 s6.heap,p.1≠D:=fun p hp=>by
    rcases V0.mp hp with z|z
    ·exact hPD p z
    ·have hb:=(mO z).1;intro e;exact(f _ hb).2.2.2.2.2 (D,cV its0 nn0) (by rw[c.pn];simp) e.symm
   refine hAW (hB (P++gS fp2 s6.heap) its nn ys σ7 H8 s8 _ (by rw[<-List.append_assoc];exact I8) rv hz hPD2 q8) ?_;rintro s9 ⟨ys',its',n',σ',H',I',rv',m',hm,w'⟩;rw[<-List.append_assoc]at I';obtain⟨a9,b9⟩:=keepfp I';exact⟨m',hm,i+1,ys',its',n',σ',H',I'.unpinned,rv',a9,b9,w'⟩
theorem qF{prog:K7}{w:P5}{A:M9}{acc:F0}{env:Env}{Ok Ok':F1->Prop}{s:F1}(h:wq prog w A (lcE el gs sc ps) k i1 acc env Ok s) (h':∀s,Ok s->Ok' s):wq prog w A (lcE el gs sc ps) k i1 acc env Ok' s :=
 K8 h (fun _ _ h1=>K8 h1 (fun _ _ h2=>ab1 h2 fun _ _ h3=>⟨h3.1,h' _ h3.2⟩) fun _ _ x=>x) fun _ _ x=>x
theorem Ai{tg1:J4}{fs1:List J4}{p1:Pos}(c:ji Y D) (L:Lv Y D (lcE el gs sc ps) (k+1) p1 tg1 fs1 B) (hS:uU (lcE el gs sc ps) (k+1) p1) (hs:∀x,M0 i1 Y.env x=W4 x) (hi:PI Y tg1 i1 wi) (hg:PG Y tg1 g) (hif:PIf Y fs1 tc)
  (hT:yz (lcE el gs sc ps) k p tg fs (Ax (lcE el gs sc ps) k i1)):Lv Y D (lcE el gs sc ps) k p tg fs (wQ wi g tc B):=by
 refine⟨_,_,hT,fun _=>yQ hs,?_,qF⟩;intro P its nn ys σ H s Z I rv hz hPD q;refine thF c.xe (hi _ s σ H _ I q) fun v s9 h9=>thF c.xe h9 fun itv s10 h10=>?_;obtain⟨it2,fp2,tn2,J2,H10,e,I10,T2,st10,f10,W2,⟨m2,w2⟩,cin⟩:=h10;subst e;have loop:=iK c L hg hif hPD I10 rv T2 st10 f10 w2 cin (R:=fun r s₆=>(∃f,r=.ok f)/\∃ys' its' n' σ' H',Inv Y ([(D,cV its' n')]++P) σ' H' s₆/\ao ys' its'/\Z ys' σ' H')
  (fun s' ys its n σ' H' I' rv' _ hZ=>⟨⟨_,rfl⟩,ys,its,n,σ',H',I',rv',hZ⟩)
 exact lZ hS loop (T2.self _ 0 _ _ _ st10 loop)
end
section
variable{X:Cx}{aa:List (H0×Obj)}{σ σ':St}{H2 H':Hp}{s2 s':F1}{scope:R0}{cl:List (Str×H0)}{ms:List Bool}{ag:List Str}{elt t0 i0:J4}{f0:List J4}{gs:List X7}{g0:TG}{tc0:TT}{B:BK}{p pos:Pos}
theorem mT(S:cA X scope cl ms ag) (bg:X.calm=true)
  (hg0:∀C s H ex,PG (au X scope cl (X.N++ag) C s H ex) t0 g0) (hif0:∀C s H ex,PIf (au X scope cl (X.N++ag) C s H ex) f0 tc0)
  (hL:∀C s H ex D,ji (au X scope cl (X.N++ag) C s H ex) D->Lv (au X scope cl (X.N++ag) C s H ex) D (lcE elt (⟨t0,i0,f0,0⟩::gs) scope pos) 0 p t0 f0 B)
  (I2:Inv X aa σ H2 s2) {it:H0} {fp:List H0} {tn:Nat->K2->Prop} {J:It} (T:iJ X.prog X.w X.K t0 J fp it tn) (st2:tn 0 s2.heap) (fz:∀b∈fp,cH X aa H2 b)
  {W:Nat->Nat->List V->St->Hp->Prop} {Z:List V->St->Hp->Prop} {m0:Nat} (w0:W 0 m0 [] (cW ms ag.length σ) H2) (turn:gX J g0 tc0 B W Z)
  {RR:F0->H0->ad7->F1->Prop} {E:F0->F1->Prop}
  (hRR:∀ (s':F1) (ys:List V) (its:List F0) (n:Nat) (σ':St) (H':Hp),Inv (au X scope cl (X.N ++ ag) (s2.heap.objs.size + 1) s2 H2 fp) [(s2.heap.objs.size,cV its n)] σ' H' s' → ao ys its → ys.length ≤ F3 → Z ys σ' H' →
   RR (.ref s2.heap.objs.size) (s2.heap.objs.size+1) (.ok .next) s') :
  J3 (K1 X.prog X.w) X.A (newList []) (fun acc s₃=>J3 (K1 X.prog X.w) X.A (W6 scope X.env.globals cl [] X.env.qual none .none (some X.env)) (fun cenv s₄ =>
   V3 (K1 X.prog X.w) X.A (.compStart (lcE elt (⟨t0,i0,f0,0⟩::gs) scope pos) 0 (.ref it) acc { cenv with scope:=Z5 scope X.env }) (RR acc cenv.locals) s₄) E s₃) E s2:=by
 refine L5 (wpAny_newFunctionEnv S.ncell (by intro y hy;simp at hy) (fun h₁ hns₁ hsb₁=>?_) S.kind);dsimp only at hns₁ hsb₁ ⊢;have hsz:(s2.heap.push { cls:=.type "list",dict:=none,data:=.seq ([]:List F0).toArray }).objs.size=s2.heap.objs.size+1:=by rw[P0]
 rw[hsz]at hns₁ hsb₁ ⊢;have hlt:∀b∈fp,b<s2.heap.objs.size:=fun b hb=>by
  obtain⟨o,e,_⟩:=T.obj _ _ st2 b hb;exact F4 e
 have old:∀b o,s2.heap.get? b=some o->h₁.get? b=some o:=fun b o e=>hsb₁.extBut b o (I0 (K4 (F4 e))) (F2 _ (F2 _ e));have hacc:h₁.get? s2.heap.objs.size=some (cV [] 0):=hsb₁.extBut _ _ (I0 (O5 _)) (F2 _ (F6 _ rfl));have hDn:H2 s2.heap.objs.size=none:=I2.hok.fresh (F8 _);have hDfs:∀b,s2.heap.objs.size<=b->b∉(au X scope cl (X.N++ag) (s2.heap.objs.size+1) s2 H2 fp).fs:=fun b hb z=>by
  rcases N4.mp (I2.stkSub b z)with e|e
  ·subst e;exact absurd (F9 I2.lt hb) (N8 _)
  ·exact I2.nofs hb e
 have loop:∀s₃:F1,s₃={ s2 with heap:=h₁,toks:=s2.toks+([]:List (Str×F0)).length } ->
   V3 (K1 X.prog X.w) X.A (.compLoop (lcE elt (⟨t0,i0,f0,0⟩::gs) scope pos) 0 (.ref it) (.ref s2.heap.objs.size) (ad3 scope cl (s2.heap.objs.size+1) X.env)) (RR (.ref s2.heap.objs.size) (s2.heap.objs.size+1)) s₃:=by
  rintro s₃ rfl;have I3:Inv (au X scope cl (X.N++ag) (s2.heap.objs.size+1) s2 H2 fp) [] (cW ms ag.length σ) H2 { s2 with heap:=h₁,toks:=s2.toks+([]:List (Str×F0)).length } :=
   su I2 S fz hlt (aa6 _) rfl I2.bare old hns₁
  have c:ji (au X scope cl (X.N++ag) (s2.heap.objs.size+1) s2 H2 fp) s2.heap.objs.size:=⟨rfl,bg,rfl,.inr (F8 _),fun x c e=>by
   obtain⟨v,o,ho,_⟩:=I2.cell x c (S.sub x c e);exact I0 (F4 ho)⟩
  refine iK c (hL _ _ _ _ _ c) (hg0 _ _ _ _) (hif0 _ _ _ _) (P:=[]) (fun p hp=>nomatch hp) (its0:=[]) (nn0:=0) (I3.pins_of fun p hp=>?_) .nil T (T.keep _ _ _ st2 fun b _ o e=>old b o e) (fun b hb=>?_) w0 turn ?_
  ·have e:p=(s2.heap.objs.size,cV [] 0):=N1.mp hp;subst e;exact⟨hacc,hDn,I0 (O5 _),hDfs _ (F8 _),fun v z=>by cases z⟩
  ·exact⟨(fz b hb).1,I0 (K4 (hlt b hb)),(rh I2 S fz hlt (aa6 _)).exfs b hb,.inl hb,fun x c e=>(fz b hb).2.2.2.2.1 x c (S.sub x c e),fun p hp=>by
    have:p=(s2.heap.objs.size,_):=N1.mp (show p∈[(s2.heap.objs.size,_)]from hp);subst this;exact T6 (hlt b hb)⟩
  ·exact fun s' ys its n σ' H' I' rv hz hZ=>hRR s' ys its n σ' H' I' rv hz hZ
 exact codeAny_compStart_list (loop _ rfl) (T.self _ 0 _ _ _ (T.keep _ _ _ st2 fun b _ o e=>old b o e) (loop _ rfl))
end
section
variable{X:Cx}{aa:List (H0×Obj)}{σ σ':St}{H2 H':Hp}{s2 s':F1}{scope:R0}{cl:List (Str×H0)}{ms:List Bool}{ag:List Str}{tg iter elt:J4}{ifs:List J4}{g:TG}{tc:TT}{te:TE}{pos p:Pos}{B:BK}{gs:List X7}
theorem m7(I2:Inv X aa σ H2 s2) {fp:List H0}(f2:∀b∈fp,cH X aa H2 b) {its:List F0}{n:Nat}{ys:List V}
  (I':Inv (au X scope cl (X.N++ag) (s2.heap.objs.size+1) s2 H2 fp) [(s2.heap.objs.size,cV its n)] σ' H' s') (rv:ao ys its) (hz:ys.length<=F3) {h':K2} (hs:N6 (s2.heap.objs.size+1) s'.heap h') :
  Inv X aa σ (upd H' s2.heap.objs.size (.lst ys)) { s' with heap:=h' }/\H' s2.heap.objs.size=none:=by
 have pacc:=I'.pin (s2.heap.objs.size,cV its n) (J0 _ N0);have hC:H' (s2.heap.objs.size+1)=none:=I'.free;have hD:H' s2.heap.objs.size=none:=pacc.2.1;have up:∀b o,b≠s2.heap.objs.size+1->s'.heap.get? b=some o->h'.get? b=some o:=fun b o hb e=>(hs.2 b hb).trans e;have nD:∀b u,H' b=some u->b≠s2.heap.objs.size:=fun b u e z=>by rw[z,hD]at e;cases e
 have nC:∀b u,H' b=some u->b≠s2.heap.objs.size+1:=fun b u e z=>by rw[z,hC]at e;cases e
 have hacc:h'.get? s2.heap.objs.size=some (cV its n):=up _ _ (I0 (O5 _)) pacc.1;have hok:HOk X.prog X.w (upd H' s2.heap.objs.size (.lst ys)) h':=fun b u e=>by
  by_cases hb:b=s2.heap.objs.size
  ·subst hb;rw[aA]at e;cases e;exact⟨hz,its,n,rv,hacc⟩
  ·rw[aq hb]at e;refine(I'.hok b u e).stay (fun c v hc q=>up c v ?_ q) (fun c q=>by rw[aq (nD c _ q)];exact q) fun c xs q=>by rw[aq (nD c _ q)];exact q
   rcases hc with rfl|hc
   ·exact nC _ _ e
   ·exact nC _ _ hc
 have un:Un (frs X.stack) fp H2 (upd H' s2.heap.objs.size (.lst ys)) s2.heap h':=by
  have U:=I'.base;have ltD:∀b o,s2.heap.get? b=some o->b≠s2.heap.objs.size:=fun b o e=>I0 (F4 e);have ltC:∀b o,s2.heap.get? b=some o->b≠s2.heap.objs.size+1:=fun b o e=>I0 (K4 (F4 e));refine⟨fun b o e nb hb hx=>up b o (ltC b o e) (U.keep b o e nb hb hx),fun b o e nb hb hx=>?_,fun b o e nb hx=>by rw[aq (ltD b o e)];exact U.free b o e nb hx,fun b o e hx=>?_,
   fun b xs e=>by have q:=U.tups b xs e;rw[aq (nD b _ q)];exact q,fun b o u e=>by have q:=U.frzs b o u e;rw[aq (nD b _ q)];exact q,fun b ps e=>?_⟩
  ·obtain⟨sl,q⟩:=U.slot b o e nb hb hx;exact⟨sl,up b _ (ltC b o e) q⟩
  ·obtain⟨o',q⟩:=U.there b o e hx;exact⟨o',up b _ (ltC b o e) q⟩
  ·obtain⟨more,q⟩:=U.tbls b ps e;exact⟨more,by rw[aq (nD b _ q)];exact q⟩
 exact⟨I2.call' (s':={ s' with heap:=h' }) (ch:=fp) I'.os un hok I'.bare fun b hb=>⟨(f2 b hb).2.2.2.1,(f2 b hb).2.1,(f2 b hb).2.2.2.2.1,(f2 b hb).2.2.2.2.2⟩,hD⟩
def yj(ms:List Bool) (k:Nat) (wi:TI) (g:TG) (tc:TT) (B:BK):TE:=fun σ H Q=>wi σ H fun J H1=>∃(W:Nat->Nat->List V->St->Hp->Prop) (Z:List V->St->Hp->Prop),(∃m,W 0 m [] (cW ms k σ) H1)/\gX J g tc B W Z /\
 ∀ys σ' H p,Z ys σ' H->H p=none->Q (.ref p) (upd H p (.lst ys))
abbrev tLc(ms:List Bool) (k:Nat) (wi:TI) (g:TG) (tc:TT) (te:TE):TE:=yj ms k wi g tc (jd te)
abbrev LvC(X:Cx) (scope:R0) (cl:List (Str×H0)) (ag:List Str) (ce:J4) (p:Pos) (tg:J4) (ifs:List J4) (B:BK):Prop:=∀C s H ex D,ji (au X scope cl (X.N++ag) C s H ex) D->Lv (au X scope cl (X.N++ag) C s H ex) D ce 0 p tg ifs B
theorem u6(S:cA X scope cl ms ag) (bg:X.calm=true) {wi:TI}(hi:PI X tg iter wi)
  (hg:∀C s H ex,PG (au X scope cl (X.N++ag) C s H ex) tg g) (hif:∀C s H ex,PIf (au X scope cl (X.N++ag) C s H ex) ifs tc) (hL:LvC X scope cl ag (lcE elt (⟨tg,iter,ifs,0⟩::gs) scope pos) p tg ifs B)
  (hs:∀x,M0 iter X.env x=W4 x:=by intro _;rfl):PE X (lcE elt (⟨tg,iter,ifs,0⟩::gs) scope pos) (yj ms ag.length wi g tc B):=by
 intro aa s σ H Q I h;rw[eval_ListComp];refine S1 (use:=none) rfl hs S.clos S.kind S.names (thn (hi aa s σ H _ I h) fun v s1 h1=>thn h1 fun itv s2 h2=>?_);obtain⟨it,fp,tn,J,H2,e,I2,T,st2,f2,W,Z,⟨m0,w0⟩,turn,q⟩:=h2;subst e;refine mT S bg hg hif hL I2 T st2 f2 w0 turn (RR:=fun acc C=>compPost (K1 X.prog X.w) X.A X.xe none (EP X aa σ Q) acc C) ?_;intro s' ys its n σ' H' I' rv hz hZ;obtain⟨m,hm,_⟩:=I'.loc;refine⟨m,hm,fun h' hs'=>?_⟩;obtain⟨I3,hD⟩:=m7 I2 f2 I' rv hz hs';exact⟨.ref s2.heap.objs.size,_,I3,rfl,q ys _ H' _ hZ hD⟩
theorem m8{i:Nat}{x:Str}{spos pos':Pos}(hN:X.N.Nodup) (hix:X.N[i]?=some x) (hx:X.env.scope.names.lookup x=some .local)
  (hsw:W9 (lcE elt (⟨tg,iter,ifs,0⟩::gs) scope pos) (some (.Name x pos')) spos.line X.env=W4 true)
  (S:cA X scope cl ms ag) (bg:X.calm=true) {wi:TI} (hi:PI X tg iter wi)
  (hg:∀C s H ex,PG (au X scope cl (X.N++ag) C s H ex) tg g) (hif:∀C s H ex,PIf (au X scope cl (X.N++ag) C s H ex) ifs tc) (hL:LvC X scope cl ag (lcE elt (⟨tg,iter,ifs,0⟩::gs) scope pos) p tg ifs B)
  (hs:∀x,M0 iter X.env x=W4 x:=by intro _;rfl):PS X (.Assign [.Name x pos'] (lcE elt (⟨tg,iter,ifs,0⟩::gs) scope pos) spos) (yf (yj ms ag.length wi g tc B) (j5 i)):=by
 intro aa s σ H D I h;rw[exec_Assign_Name_used _ _ _ _ hsw];refine u8 (U3 (u8 ?_));show J3 _ _ (do let _ <-comprehension (lcE elt (⟨tg,iter,ifs,0⟩::gs) scope pos) scope X.env _ (newList []) false (V7 iter X.env) (some (X1 (.Name x pos') X.env))) _ _ s;refine u8 (K8 (S1 (use:=some (X1 (.Name x pos') X.env)) (Q:=fun _ s'=>SP X aa D .next s') rfl hs S.clos S.kind S.names
  (thn (hi aa s σ H _ I h) fun v s1 h1=>thn h1 fun itv s2 h2=>?_)) (fun _ s' hq=>F7 (F7 hq)) fun _ _ e=>e)
 obtain⟨it,fp,tn,J,H2,e,I2,T,st2,f2,W,Z,⟨m0,w0⟩,turn,q⟩:=h2;subst e;refine mT S bg hg hif hL I2 T st2 f2 w0 turn (RR:=fun acc C=>compPost (K1 X.prog X.w) X.A X.xe (some (X1 (.Name x pos') X.env)) (fun _ s'=>SP X aa D .next s') acc C) ?_;intro s' ys its n σ' H' I' rv hz hZ;obtain⟨m,hm,_⟩:=I'.loc;obtain⟨I3,hD⟩:=m7 I2 f2 I' rv hz (N6.refl (s2.heap.objs.size+1) s'.heap);have hq:=q ys _ H' _ hZ hD;show J3 _ _ (X1 (.Name x pos') X.env (.ref s2.heap.objs.size)) _ _ _;refine wpAny_assign_Name (i8 I3 hN hix (.inl hx) (v:=.ref s2.heap.objs.size) rfl (fun s4 I4 hsame=>?_) (.inr hx));obtain⟨a,hsb,ha⟩:=hsame;have hLC:s2.heap.objs.size+1≠X.env.locals:=T6 (K4 I2.lt);have haC:s2.heap.objs.size+1≠a:=by
  rcases ha with rfl|ha
  ·exact hLC
  ·intro z;obtain⟨v,o,ho,_⟩:=I2.cell x a ha;exact absurd (K4 (F4 ho)) (by rw[<-z];exact N8 _)
 have hCn:upd H' s2.heap.objs.size (.lst ys) (s2.heap.objs.size+1)=none:=by rw[aq (T6 (O5 _))];exact I'.free
 refine⟨m,hm.sameBut hsb haC,fun h' hs'=>?_⟩;refine⟨_,_,?_,hq⟩;have hL:∀b o,b≠s2.heap.objs.size+1->s4.heap.get? b=some o->h'.get? b=some o:=fun b o hb e=>(hs'.2 b hb).trans e;have I5:=Inv.turned (t':=s4.toks) (h':=h') (it:=s2.heap.objs.size+1) I4 (fun b o hb e=>hL b o hb e) hCn hLC (.inr (Nat.le_succ_of_le I2.sz)) (fun y c e=>by
  obtain⟨v,o,ho,_⟩:=I2.cell y c e;exact I0 (K4 (F4 ho))) (fun p hp=>by
  exact I0 (K4 (F4 (I2.pin p hp).1)))
 exact I5
theorem qC(he:∀C s H ex,PE (au X scope cl (X.N++ag) C s H ex) elt te):LvC X scope cl ag (lcE elt [⟨tg,iter,ifs,0⟩] scope pos) iter.pos tg ifs (jd te):=fun _ _ _ _ _ c=>nH c (he _ _ _ _) fun _ _ _=>rfl
end
inductive Bx where
 |dk (ks:List Key)|dt (ks:List (List Key))|ins (C:H0) (fs:List Str)|key
 deriving Inhabited
inductive D where
 |non|bl (b:Bool)|int (i:Int)|str (x:Str)|tup (ds:List D)|lst (ds:List D)|scr (ds:List D)|emp|ref (a:H0)|box (t:Bx) (ds:List D)
 deriving Inhabited
inductive HD where
 |lst (ds:List D)|dK (kvs:List (Key×D))|dT (kvs:List (List Key×D))|dKr (o:Obj) (ks:List (Key×V)) (kvs:List (Key×D))|ins (C:H0) (fs:List (Str×D))
 |ext (φ:List V->K2->Prop) (ds:List D)
 deriving Inhabited
abbrev DH:=H0->Option HD
def az(M:DH) (a:H0) (o:HD):DH:=fun b=>if b=a then some o else M b
def kZ(M:DH) (a:H0):DH:=fun b=>if b=a then none else M b
abbrev noM:DH:=fun _=>none
theorem ar{M:DH}{a:H0}{o:HD}:az M a o a=some o:=if_pos rfl
theorem aw{M:DH}{a b:H0}{o:HD}(h:b≠a):az M a o b=M b:=if_neg h
theorem l7{M:DH}{a:H0}{o u:HD}:az (az M a o) a u=az M a u:=by
 funext b;unfold az;split<;>rfl
theorem mK{M:DH}{a:H0}:kZ M a a=none:=if_pos rfl
theorem nS{M:DH}{a b:H0}(h:b≠a):kZ M a b=M b:=if_neg h
theorem ij{M:DH}{a:H0}{o:HD}(h:M a=none):kZ (az M a o) a=M:=by
 funext b;unfold kZ az;split
 ·rename_i e;rw[e,h]
 ·rfl
def nu(K:o0) (M:DH) (H:Hp) (a:H0) (vs:List V):Prop:=(Rd H a (.tup vs)/\M a=none)∨SqT K (fun _=>none) a vs
def se(M:DH) (H:Hp) (a:H0) (vs:List V):Prop:=H a=some (.lst vs)/\M a=none
def mL(K:o0) (M:DH) (H:Hp) (a:H0) (vs:List V):Prop:=((∃o,H a=some (.frz o (.lst vs)))/\M a=none)∨SqL K (fun _=>none) a vs
def Do(M:DH) (H:Hp) (a:H0):Prop:=H a=some (.dK [])/\M a=none
def sA(M:DH) (H:Hp) (a:H0):Bx->List V->Prop
 |.dk ks,vs=>ks.length=vs.length/\(∃o,H a=some (.frz o (.dK (ks.zip vs))))/\M a=none
 |.dt ks,vs=>ks.length=vs.length/\(∃o,H a=some (.frz o (.dT (ks.zip vs))))/\M a=none
 |.ins C fs,vs=>fs.length=vs.length/\(∃dx,H a=some (.ins C dx (fs.zip vs)))/\M a=none
 |.key,vs=>True/\(∃_u:Unit,H a=some (.tup vs))/\M a=none
mutual
def Rep(K:o0) (M:DH) (H:Hp):D->V->Prop
 |.non,v=>v=.non
 |.bl b,v=>v=.bl b
 |.int i,v=>v=.int i
 |.str x,v=>v=.str x
 |.tup ds,v=>∃a vs,v=.ref a/\nu K M H a vs/\ah K M H ds vs
 |.lst ds,v=>∃a vs,v=.ref a/\se M H a vs/\ah K M H ds vs
 |.scr ds,v=>∃a vs,v=.ref a/\mL K M H a vs/\ah K M H ds vs
 |.emp,v=>∃a,v=.ref a/\Do M H a
 |.ref a,v=>v=.ref a
 |.box t ds,v=>∃a vs,v=.ref a/\sA M H a t vs/\ah K M H ds vs
def ah(K:o0) (M:DH) (H:Hp):List D->List V->Prop
 |[],vs=>vs=[]
 |d::ds,vs=>∃v ws,vs=v::ws/\Rep K M H d v/\ah K M H ds ws
end
def Ext(M:DH) (H:Hp) (M':DH) (H':Hp):Prop:=∀a o,H a=some o->M a=none->H' a=some o/\M' a=none
theorem Ext.refl(M:DH) (H:Hp):Ext M H M H:=fun _ _ h n=>⟨h,n⟩
theorem Ext.trans{M M1 M2:DH}{H H1 H2:Hp}(a:Ext M H M1 H1) (b:Ext M1 H1 M2 H2):Ext M H M2 H2:=fun c o h n=>b c o (a c o h n).1 (a c o h n).2
variable{K:o0}{M M' M1 M2:DH}{H H' H1 H2:Hp}
theorem nu.ext{a:H0}{vs:List V}(h:nu K M H a vs) (e:Ext M H M' H'):nu K M' H' a vs:=by
 rcases h with⟨r|⟨o,r⟩,n⟩|h
 ·exact .inl ⟨.inl (e a _ r n).1,(e a _ r n).2⟩
 ·exact .inl ⟨.inr ⟨o,(e a _ r n).1⟩,(e a _ r n).2⟩
 ·exact .inr h
theorem se.ext{a:H0}{vs:List V}(h:se M H a vs) (e:Ext M H M' H'):se M' H' a vs:=e a _ h.1 h.2
theorem mL.ext{a:H0}{vs:List V}(h:mL K M H a vs) (e:Ext M H M' H'):mL K M' H' a vs:=by
 rcases h with⟨⟨o,r⟩,n⟩|h
 ·exact .inl ⟨⟨o,(e a _ r n).1⟩,(e a _ r n).2⟩
 ·exact .inr h
theorem sA.ext{a:H0}{t:Bx}{vs:List V}(h:sA M H a t vs) (e:Ext M H M' H'):sA M' H' a t vs:=by
 cases t<;>(obtain⟨l,⟨o,r⟩,n⟩:=h;exact⟨l,⟨o,(e a _ r n).1⟩,(e a _ r n).2⟩)
mutual
theorem Rep.ext:∀{d:D}{v:V},Rep K M H d v->Ext M H M' H'->Rep K M' H' d v
 |.non,_,h,_=>h
 |.bl _,_,h,_=>h
 |.int _,_,h,_=>h
 |.str _,_,h,_=>h
 |.ref _,_,h,_=>h
 |.emp,_,h,e=>by
  simp only[Rep]at h ⊢;obtain⟨a,rfl,h1,h2⟩:=h;exact⟨a,rfl,e a _ h1 h2⟩
 |.tup ds,_,h,e=>by
  simp only[Rep]at h ⊢;obtain⟨a,vs,rfl,h1,h2⟩:=h;exact⟨a,vs,rfl,h1.ext e,ah.ext h2 e⟩
 |.lst ds,_,h,e=>by
  simp only[Rep]at h ⊢;obtain⟨a,vs,rfl,h1,h2⟩:=h;exact⟨a,vs,rfl,h1.ext e,ah.ext h2 e⟩
 |.scr ds,_,h,e=>by
  simp only[Rep]at h ⊢;obtain⟨a,vs,rfl,h1,h2⟩:=h;exact⟨a,vs,rfl,h1.ext e,ah.ext h2 e⟩
 |.box t ds,_,h,e=>by
  simp only[Rep]at h ⊢;obtain⟨a,vs,rfl,h1,h2⟩:=h;exact⟨a,vs,rfl,h1.ext e,ah.ext h2 e⟩
theorem ah.ext:∀{ds:List D}{vs:List V},ah K M H ds vs->Ext M H M' H'->ah K M' H' ds vs
 |[],_,h,_=>h
 |d::ds,_,h,e=>by
  simp only[ah]at h ⊢;obtain⟨v,ws,rfl,h1,h2⟩:=h;exact⟨v,ws,rfl,Rep.ext h1 e,ah.ext h2 e⟩
end
theorem ah.length:∀{ds:List D}{vs:List V},ah K M H ds vs->ds.length=vs.length
 |[],_,h=>by simp only[ah]at h;subst h;rfl
 |d::ds,_,h=>by
  simp only[ah]at h;obtain⟨v,ws,rfl,h1,h2⟩:=h;simp[ah.length h2]
theorem ah.nil:ah K M H [] []:=by simp[ah]
theorem ah.cons{d:D}{v:V}{ds:List D}{vs:List V}(h:Rep K M H d v) (t:ah K M H ds vs):ah K M H (d::ds) (v::vs):=by
 simp only[ah];exact⟨v,vs,rfl,h,t⟩
theorem ah.append:∀{ds es:List D}{vs ws:List V},ah K M H ds vs->ah K M H es ws->ah K M H (ds++es) (vs++ws)
 |[],_,_,_,h,t=>by simp only[ah]at h;subst h;exact t
 |d::ds,es,_,ws,h,t=>by
  simp only[ah]at h;obtain⟨v,us,rfl,h1,h2⟩:=h;exact ah.cons h1 (ah.append h2 t)
theorem ah.get:∀{ds:List D}{vs:List V}{i:Nat}{d:D},ah K M H ds vs->ds[i]?=some d->∃v,vs[i]?=some v/\Rep K M H d v
 |[],_,_,_,_,e=>by simp at e
 |d::ds,_,0,x,h,e=>by
  simp only[ah]at h;obtain⟨v,us,rfl,h1,h2⟩:=h;simp at e;subst e;exact⟨v,rfl,h1⟩
 |d::ds,_,i+1,x,h,e=>by
  simp only[ah]at h;obtain⟨v,us,rfl,h1,h2⟩:=h;obtain⟨w,a,b⟩:=ah.get (i:=i) (d:=x) h2 (by simpa using e);exact⟨w,by simpa using a,b⟩
theorem ah.take:∀{ds:List D}{vs:List V}(n:Nat),ah K M H ds vs->ah K M H (ds.take n) (vs.take n)
 |ds,vs,0,_=>by simp[ah]
 |[],_,n+1,h=>by simp only[ah]at h;subst h;simp[ah]
 |d::ds,_,n+1,h=>by
  simp only[ah]at h;obtain⟨v,us,rfl,h1,h2⟩:=h;exact ah.cons h1 (ah.take n h2)
theorem ah.drop:∀{ds:List D}{vs:List V}(n:Nat),ah K M H ds vs->ah K M H (ds.drop n) (vs.drop n)
 |ds,vs,0,h=>h
 |[],_,n+1,h=>by simp only[ah]at h;subst h;simp[ah]
 |d::ds,_,n+1,h=>by
  simp only[ah]at h;obtain⟨v,us,rfl,h1,h2⟩:=h;exact ah.drop n h2
theorem ah.set:∀{ds:List D}{vs:List V}{d:D}{v:V}(n:Nat),ah K M H ds vs->Rep K M H d v->ah K M H (ds.set n d) (vs.set n v)
 |[],_,_,_,n,h,r=>by simp only[ah]at h;subst h;simp[ah]
 |d::ds,_,_,_,0,h,r=>by
  simp only[ah]at h;obtain⟨v,us,rfl,h1,h2⟩:=h;exact ah.cons r h2
 |d::ds,_,_,_,n+1,h,r=>by
  simp only[ah]at h;obtain⟨v,us,rfl,h1,h2⟩:=h;exact ah.cons h1 (ah.set n h2 r)
theorem ah.one{d:D}{vs:List V}(h:ah K M H [d] vs):∃v,vs=[v]/\Rep K M H d v:=by
 simp only[ah]at h;obtain⟨v,us,rfl,h1,rfl⟩:=h;exact⟨v,rfl,h1⟩
theorem ah.two{d e:D}{vs:List V}(h:ah K M H [d,e] vs):∃v w,vs=[v,w]/\Rep K M H d v/\Rep K M H e w:=by
 simp only[ah]at h;obtain⟨v,us,rfl,h1,w,ws,rfl,h2,rfl⟩:=h;exact⟨v,w,rfl,h1,h2⟩
def KR(K:o0) (M:DH) (H:Hp) {κ:Type}:List (κ×D)->List (κ×V)->Prop:=P8 fun p q=>p.1=q.1/\Rep K M H p.2 q.2
theorem KR.ext{κ:Type}{kvs:List (κ×D)}{ks:List (κ×V)}(h:KR K M H kvs ks) (e:Ext M H M' H'):KR K M' H' kvs ks:=P8.imp' (fun _ _ r=>⟨r.1,r.2.ext e⟩) h
def md(K:o0) (M:DH) (H:Hp) (a:H0):HD->Prop
 |.lst ds=>∃vs,H a=some (.lst vs)/\ah K M H ds vs
 |.dK kvs=>∃ks,H a=some (.dK ks)/\KR K M H kvs ks
 |.dT kvs=>∃ks,H a=some (.dT ks)/\KR K M H kvs ks
 |.dKr o ks kvs=>∃_u:Unit,H a=some (.frz o (.dK ks))/\KR K M H kvs ks
 |.ins C fs=>∃gs,(∃dx,H a=some (.ins C dx gs))/\KR K M H fs gs
 |.ext φ ds=>∃vs,H a=some (.ext (φ vs))/\ah K M H ds vs
def HR(K:o0) (M:DH) (H:Hp):Prop:=∀a o,M a=some o->md K M H a o
theorem md.some{a:H0}{o:HD}(h:md K M H a o):∃u,H a=L4 u/\∀xs,u≠.tup xs/\∀ob,u≠.frz ob (.tup xs):=by
 cases o with
 |ins C fs=>obtain⟨gs,⟨dx,r⟩,_⟩:=h;exact⟨_,r,fun xs=>⟨(by intro z;cases z),(by intro ob z;cases z)⟩⟩
 |_=>obtain⟨vs,r,_⟩:=h;exact⟨_,r,fun xs=>⟨(by intro z;cases z),(by intro ob z;cases z)⟩⟩
theorem md.keep{a:H0}{o:HD}(h:md K M H a o) (e:Ext M H M' H') (q:H' a=H a):md K M' H' a o:=by
 cases o with
 |ins C fs=>obtain⟨gs,⟨dx,r⟩,t⟩:=h;exact⟨gs,⟨dx,by rw[q];exact r⟩,t.ext e⟩
 |_=>obtain⟨vs,r,t⟩:=h;exact⟨vs,by rw[q];exact r,t.ext e⟩
theorem HR.fresh(h:HR K M H) {p:H0}(e:H p=none):M p=none:=by
 cases q:M p with
 |none=>rfl
 |some o =>
  obtain⟨u,r,_⟩:=(h p _ q).some;rw[e]at r;cases r
theorem HR.nil:HR K noM H:=fun _ _ h=>nomatch h
theorem Ext.new{p:H0}{o:HO}(hr:HR K M H) (h:H p=none):Ext M H M (upd H p o):=fun a u e n=>by
 have:a≠p:=aL e h;rw[aq this];exact⟨e,n⟩
theorem HR.ext1(h:HR K M H) (e:Ext M H M H') (keep:∀a o,M a=some o->H' a=H a):HR K M H':=fun a o q=>(h a o q).keep e (keep a o q)
theorem HR.new{p:H0}{o:HO}(hr:HR K M H) (h:H p=none):HR K M (upd H p o):=hr.ext1 (Ext.new hr h) fun a u q=>by
 have:a≠p:=fun z=>by rw[z,hr.fresh h]at q;cases q
 rw[aq this]
theorem Ext.own{p:H0}{o:HO}{u:HD}(h:H p=none):Ext M H (az M p u) (upd H p o):=fun a x e n=>by
 have:a≠p:=aL e h;rw[aq this,aw this];exact⟨e,n⟩
theorem HR.put{p:H0}{o:HO}{u:HD}(hr:HR K M H) (e:Ext M H (az M p u) (upd H p o)) (c:md K (az M p u) (upd H p o) p u):HR K (az M p u) (upd H p o):=fun a w q=>by
 by_cases z:a=p
 ·subst z;rw[ar]at q;cases q;exact c
 ·rw[aw z]at q;exact(hr a w q).keep e (aq z)
theorem HR.own{p:H0}{ds:List D}{vs:List V}(hr:HR K M H) (h:H p=none) (r:ah K M H ds vs):HR K (az M p (.lst ds)) (upd H p (.lst vs)) :=
 hr.put (Ext.own h) ⟨vs,aA,r.ext (Ext.own h)⟩
theorem Ext.write{a:H0}{o:HO}{u w:HD}(h:M a=some w):Ext M H (az M a u) (upd H a o):=fun b x e n=>by
 have:b≠a:=fun z=>by rw[z,h]at n;cases n
 rw[aq this,aw this];exact⟨e,n⟩
theorem HR.write{a:H0}{w:HD}{ds:List D}{vs:List V}(hr:HR K M H) (h:M a=some w) (r:ah K M H ds vs):HR K (az M a (.lst ds)) (upd H a (.lst vs)) :=
 hr.put (Ext.write h) ⟨vs,aA,r.ext (Ext.write h)⟩
def LeM(M1 M:DH):Prop:=∀a o,M1 a=some o->M a=some o
theorem LeM.none(h:LeM M1 M) {a:H0}(n:M a=none):M1 a=none:=by
 cases q:M1 a with
 |none=>rfl
 |some o=>rw[h a o q]at n;cases n
theorem LeM.refl:LeM M M:=fun _ _ h=>h
theorem LeM.no:LeM noM M:=fun _ _ h=>nomatch h
theorem LeM.del{a:H0}:LeM (kZ M a) M:=fun b o h=>by
 unfold kZ at h;split at h
 ·cases h
 ·exact h
theorem Ext.le(h:LeM M1 M):Ext M H M1 H:=fun a o e n=>⟨e,h.none n⟩
theorem HR.le(hr:HR K M H) (h:LeM M1 M):HR K M1 H:=fun a o q=>(hr a o (h a o q)).keep (Ext.le h) rfl
theorem Rep.froze(hr:HR K M H) (h:LeM M1 M) {a:H0}{ds:List D}(e:M a=some (.lst ds)) (n:M1 a=none):Rep K M1 H (.lst ds) (.ref a):=by
 obtain⟨vs,r,t⟩:=hr a _ e;simp only[Rep];exact⟨a,vs,rfl,⟨r,n⟩,t.ext (Ext.le h)⟩
def gH(M M1 M2:DH):DH:=fun a=>match M2 a with|some o=>some o|none=>if M1 a=none then M a else none
theorem wV:gH M noM noM=M:=by
 funext a;simp[gH]
theorem Ext.back(h:LeM M1 M) (e:Ext M1 H M2 H2):Ext M H (gH M M1 M2) H2:=fun a o q n=>by
 obtain⟨h1,h2⟩:=e a o q (h.none n);refine⟨h1,?_⟩;unfold gH;rw[h2];simp[h.none n,n]
mutual
def noL:D->Bool
 |.tup ds=>jz ds
 |.lst _=>false
 |.scr _=>false
 |.emp=>false
 |.box _ _=>false
 |_=>true
def jz:List D->Bool
 |[]=>true
 |d::ds=>noL d&&jz ds
end
mutual
theorem Rep.hard:∀{d:D}{v:V},noL d=true->Rep K M H d v->(∀a xs,Rd H a (.tup xs)->M' a=none)->Rep K M' H d v
 |.non,_,_,h,_=>h
 |.bl _,_,_,h,_=>h
 |.int _,_,_,h,_=>h
 |.str _,_,_,h,_=>h
 |.ref _,_,_,h,_=>h
 |.emp,_,n,_,_=>by simp[noL]at n
 |.box _ _,_,n,_,_=>by simp[noL]at n
 |.lst _,_,n,_,_=>by simp[noL]at n
 |.scr _,_,n,_,_=>by simp[noL]at n
 |.tup ds,_,n,h,e=>by
  simp only[Rep]at h ⊢;obtain⟨a,vs,rfl,h1,h2⟩:=h;refine⟨a,vs,rfl,?_,ah.hard (by simpa[noL]using n) h2 e⟩;rcases h1 with⟨r,_⟩|r
  ·exact .inl ⟨r,e a vs r⟩
  ·exact .inr r
theorem ah.hard:∀{ds:List D}{vs:List V},jz ds=true->ah K M H ds vs->(∀a xs,Rd H a (.tup xs)->M' a=none)->ah K M' H ds vs
 |[],_,_,h,_=>h
 |d::ds,_,n,h,e=>by
  simp only[ah]at h ⊢;obtain⟨v,ws,rfl,h1,h2⟩:=h;simp only[jz,K0]at n;exact⟨v,ws,rfl,Rep.hard n.1 h1 e,ah.hard n.2 h2 e⟩
end
theorem cj(hr:HR K M H) (h:LeM M1 M) (e:Ext M1 H M2 H2) (h2:HR K M2 H2):∀a xs,Rd H2 a (.tup xs)->gH M M1 M2 a=none:=by
 intro a xs r;unfold gH;cases q:M2 a with
 |some o =>
  obtain⟨u,z,n⟩:=(h2 a _ q).some;rcases r with r|⟨o,r⟩
  ·rw[z]at r;exact absurd (J9 r) (n xs).1
  ·rw[z]at r;exact absurd (J9 r) ((n xs).2 o)
 |none =>
  by_cases n:M1 a=none
  ·simp only[n,if_true];cases q2:M a with
   |none=>rfl
   |some o =>
    obtain⟨u,z,m⟩:=(hr a _ q2).some;have z2:=(e a _ z n).1;rcases r with r|⟨o,r⟩
    ·rw[z2]at r;exact absurd (J9 r) (m xs).1
    ·rw[z2]at r;exact absurd (J9 r) ((m xs).2 o)
  ·simp[n]
def noC:HD->Bool
 |.lst ds=>jz ds
 |.dK kvs=>jz (kvs.map (·.2))
 |.dT kvs=>jz (kvs.map (·.2))
 |.dKr _ _ kvs=>jz (kvs.map (·.2))
 |.ins _ fs=>jz (fs.map (·.2))
 |.ext _ ds=>jz ds
theorem KR.hard{κ:Type}{kvs:List (κ×D)}{ks:List (κ×V)}(h:KR K M H kvs ks) (n:jz (kvs.map (·.2))=true) (e:∀a xs,Rd H a (.tup xs)->M' a=none):KR K M' H kvs ks:=by
 unfold KR at h ⊢
 induction h with
 |nil=>exact .nil
 |cons r _ ih =>
  simp only[N5,jz,K0]at n;exact .cons ⟨r.1,Rep.hard n.1 r.2 e⟩ (ih n.2)
theorem HR.back(hr:HR K M H) (h:LeM M1 M) (e:Ext M1 H M2 H2) (h2:HR K M2 H2) (hd:∀a o,M2 a=some o->noC o=true):HR K (gH M M1 M2) H2:=by
 have eb:Ext M H (gH M M1 M2) H2:=Ext.back h e;intro a o q;unfold gH at q;cases q2:M2 a with
 |some o2 =>
  rw[q2]at q;cases q;have c:=h2 a _ q2;have n:=hd a _ q2;cases o with
  |lst ds=>obtain⟨vs,z,t⟩:=c;exact⟨vs,z,ah.hard n t (cj hr h e h2)⟩
  |ext φ ds=>obtain⟨vs,z,t⟩:=c;exact⟨vs,z,ah.hard n t (cj hr h e h2)⟩
  |dK kvs=>obtain⟨vs,z,t⟩:=c;exact⟨vs,z,KR.hard t n (cj hr h e h2)⟩
  |dT kvs=>obtain⟨vs,z,t⟩:=c;exact⟨vs,z,KR.hard t n (cj hr h e h2)⟩
  |ins C fs=>obtain⟨vs,z,t⟩:=c;exact⟨vs,z,KR.hard t n (cj hr h e h2)⟩
  |dKr o ks kvs=>obtain⟨vs,z,t⟩:=c;exact⟨vs,z,KR.hard t n (cj hr h e h2)⟩
 |none =>
  rw[q2]at q
  by_cases n:M1 a=none
  ·simp only[n,if_true]at q;have c:=hr a _ q;obtain⟨u,z,_⟩:=c.some;exact c.keep eb (by rw[z];exact(e a _ z n).1)
  ·simp[n]at q
abbrev DE:=List (Option D)
def SR(K:o0) (M:DH) (H:Hp) (σ:St) (Δ:DE):Prop:=σ.length=Δ.length/\∀(i:Nat) (d:D),Δ[i]?=some (some d)->∃v,σ[i]?=some (some v)/\Rep K M H d v
theorem SR.ext{σ:St}{Δ:DE}(h:SR K M H σ Δ) (e:Ext M H M' H'):SR K M' H' σ Δ:=⟨h.1,fun i d q=>let⟨v,a,r⟩:=h.2 i d q;⟨v,a,r.ext e⟩⟩
theorem SR.set{σ:St}{Δ:DE}{d:D}{v:V}(h:SR K M H σ Δ) (i:Nat) (r:Rep K M H d v):SR K M H (σ.set i (some v)) (Δ.set i (some d)):=by
 refine⟨by simp[h.1],fun j e q=>?_⟩
 by_cases hj:j=i
 ·subst hj
  by_cases hl:j<Δ.length
  ·rw[Q5 hl]at q;cases q;exact⟨v,Q5 (by rw[h.1];exact hl),r⟩
  ·rw[List.getElem?_eq_none (by simp;lia)]at q;cases q
 ·rw[U4 (Z9 hj)]at q ⊢;exact h.2 j e q
abbrev TEd:=DE->DH->(D->DH->Prop)->Prop
abbrev TAd:=DE->DH->(List D->DH->Prop)->Prop
abbrev TTd:=DE->DH->(Bool->DH->Prop)->Prop
structure fu where
 nx:DE->DH->Prop
 rt:D->DH->Prop
 bk:DE->DH->Prop:=fun _ _=>False
 ct:DE->DH->Prop:=fun _ _=>False
abbrev TSd:=fu->DE->DH->Prop
def up(K:o0) (t:TEd):TE:=fun σ H Q=>∃(Δ:DE) (M:DH) (R:D->DH->Prop),SR K M H σ Δ/\HR K M H/\t Δ M R /\
 ∀d M' v H',R d M'->Ext M H M' H'->HR K M' H'->Rep K M' H' d v->Q v H'
def upA(K:o0) (t:TAd):TA:=fun σ H Q=>∃(Δ:DE) (M:DH) (R:List D->DH->Prop),SR K M H σ Δ/\HR K M H/\t Δ M R /\
 ∀ds M' vs H',R ds M'->Ext M H M' H'->HR K M' H'->ah K M' H' ds vs->Q vs H'
def upT(K:o0) (t:TTd):TT:=fun σ H Q=>∃(Δ:DE) (M:DH) (R:Bool->DH->Prop),SR K M H σ Δ/\HR K M H/\t Δ M R /\
 ∀b M' H',R b M'->Ext M H M' H'->HR K M' H'->Q b H'
theorem upT.el{K:o0}{t:TTd}{σ:St}{H:Hp}{Q:Bool->Hp->Prop}{P:Prop}(h:upT K t σ H Q) (f:∀(Δ:DE) (M:DH) (R:Bool->DH->Prop),SR K M H σ Δ->HR K M H->t Δ M R->(∀b M' H',R b M'->Ext M H M' H'->HR K M' H'->Q b H')->P):P:=by
 obtain⟨x1,x2,x3,a,b,c,d⟩:=h;exact f x1 x2 x3 a b c d
theorem up.el{K:o0}{t:TEd}{σ:St}{H:Hp}{Q:VK}{P:Prop}(h:up K t σ H Q) (f:∀(Δ:DE) (M:DH) (R:D->DH->Prop),SR K M H σ Δ->HR K M H->t Δ M R->(∀d M' v H',R d M'->Ext M H M' H'->HR K M' H'->Rep K M' H' d v->Q v H')->P):P:=by
 obtain⟨x1,x2,x3,a,b,c,d⟩:=h;exact f x1 x2 x3 a b c d
theorem upA.el{K:o0}{t:TAd}{σ:St}{H:Hp}{Q:List V->Hp->Prop}{P:Prop}(h:upA K t σ H Q) (f:∀(Δ:DE) (M:DH) (R:List D->DH->Prop),SR K M H σ Δ->HR K M H->t Δ M R->(∀ds M' vs H',R ds M'->Ext M H M' H'->HR K M' H'->ah K M' H' ds vs->Q vs H')->P):P:=by
 obtain⟨x1,x2,x3,a,b,c,d⟩:=h;exact f x1 x2 x3 a b c d
structure UpE(K:o0) (E:fu) (D:qm) (M:DH) (H:Hp):Prop where
 nx:∀ Δ' M' σ' H',E.nx Δ' M'->Ext M H M' H'->HR K M' H'->SR K M' H' σ' Δ'->D.nx σ' H'
 bk:∀ Δ' M' σ' H',E.bk Δ' M'->Ext M H M' H'->HR K M' H'->SR K M' H' σ' Δ'->D.bk σ' H'
 ct:∀ Δ' M' σ' H',E.ct Δ' M'->Ext M H M' H'->HR K M' H'->SR K M' H' σ' Δ'->D.ct σ' H'
 rt:∀d M' v H',E.rt d M'->Ext M H M' H'->HR K M' H'->Rep K M' H' d v->D.rt v H'
theorem UpE.ext{E:fu}{D:qm}(u:UpE K E D M H) (e:Ext M H M' H'):UpE K E D M' H' :=
 ⟨fun a b c d h x=>u.nx a b c d h (e.trans x),fun a b c d h x=>u.bk a b c d h (e.trans x),fun a b c d h x=>u.ct a b c d h (e.trans x),fun a b c d h x=>u.rt a b c d h (e.trans x)⟩
def upS(K:o0) (t:TSd):TS:=fun D σ H=>∃(Δ:DE) (M:DH) (E:fu),SR K M H σ Δ/\HR K M H/\t E Δ M/\UpE K E D M H
theorem upS.el{K:o0}{t:TSd}{E:qm}{σ:St}{H:Hp}{P:Prop}(h:upS K t E σ H) (f:∀(Δ:DE) (M:DH) (R:fu),SR K M H σ Δ->HR K M H->t R Δ M->UpE K R E M H->P):P:=by
 obtain⟨x1,x2,x3,a,b,c,d⟩:=h;exact f x1 x2 x3 a b c d
def PEd(X:Cx) (e:J4) (t:TEd):Prop:=PE X e (up X.K t)
def PAd(X:Cx) (es:List J4) (t:TAd):Prop:=PA X es (upA X.K t)
def PTd(X:Cx) (e:J4) (t:TTd):Prop:=PT X e (upT X.K t)
def PWd(X:Cx) (e:J4) (t:TTd):Prop:=PW X e (upT X.K t)
def PSd(X:Cx) (st:ab0) (t:TSd):Prop:=PS X st (upS X.K t)
def xB(X:Cx) (st:List ab0) (t:TSd):Prop:=PSs X st (upS X.K t)
theorem PE.conv{X:Cx}{e:J4}{t t':TE}(h:PE X e t) (k:∀ σ H Q,t' σ H Q->t σ H Q):PE X e t':=fun p s σ H Q I q=>h p s σ H Q I (k σ H Q q)
theorem PT.conv{X:Cx}{e:J4}{t t':TT}(h:PT X e t) (k:∀ σ H Q,t' σ H Q->t σ H Q):PT X e t':=fun p s σ H Q I q=>h p s σ H Q I (k σ H Q q)
theorem PA.conv{X:Cx}{e:List J4}{t t':TA}(h:PA X e t) (k:∀ σ H Q,t' σ H Q->t σ H Q):PA X e t':=fun ps p s σ H Q I q=>h ps p s σ H Q I (k σ H Q q)
theorem PS.conv{X:Cx}{e:ab0}{t t':TS}(h:PS X e t) (k:∀D σ H,t' D σ H->t D σ H):PS X e t':=fun p s σ H D I q=>h p s σ H D I (k D σ H q)
theorem PSs.conv{X:Cx}{e:List ab0}{t t':TS}(h:PSs X e t) (k:∀D σ H,t' D σ H->t D σ H):PSs X e t':=fun p s σ H D I q=>h p s σ H D I (k D σ H q)
section
variable{X:Cx}{a b c:J4}{es:List J4}{ta tb:TEd}{pos:Pos}
def lh(i:Nat):TEd:=fun Δ M Q=>∃d,Δ[i]?=some (some d)/\Q d M
def dC(d:D):TEd:=fun _ M Q=>Q d M
def Bl:TAd:=fun _ M Q=>Q [] M
def sX(ta:TEd) (tr:TAd):TAd:=fun Δ M Q=>ta Δ M fun x M1=>tr Δ M1 fun xs M2=>Q (x::xs) M2
def DL(t:TAd):TEd:=fun Δ M Q=>t Δ M fun ds M1=>ds.length<=F3/\Q (.tup ds) M1
def DC(t:TAd):TEd:=fun Δ M Q=>t Δ M fun ds M1=>ds.length<=F3/\Q (.lst ds) M1
def Ak(t:TAd):TEd:=fun Δ M Q=>t Δ M fun ds M1=>ds.length<=F3/\∀p,M1 p=none->Q (.ref p) (az M1 p (.lst ds))
def rdM(M:DH):D->D
 |.ref a=>match M a with|some (.lst ds)=>.lst ds|_=>.ref a
 |d=>d
def aJ(K:o0) (M:DH) (H:Hp) (d:D) (v:V):Prop:=match d with
 |.tup ds=>∃a vs,v=.ref a/\SqT K H a vs/\ah K M H ds vs
 |.lst ds=>∃a vs,v=.ref a/\H a=some (.lst vs)/\ah K M H ds vs
 |.scr ds=>∃a vs,v=.ref a/\SqL K H a vs/\ah K M H ds vs
 |d=>Rep K M H d v
theorem nu.sq{K:o0}{M:DH}{H:Hp}{a:H0}{vs:List V}(h:nu K M H a vs):SqT K H a vs:=by
 rcases h with⟨h,_⟩|h
 ·exact .inl h
 ·rcases h with(h|⟨_,h⟩)|h
  ·cases h
  ·cases h
  ·exact .inr h
theorem mL.sq{K:o0}{M:DH}{H:Hp}{a:H0}{vs:List V}(h:mL K M H a vs):SqL K H a vs:=by
 rcases h with⟨⟨o,h⟩,_⟩|h
 ·exact .inl (.inr ⟨o,h⟩)
 ·rcases h with(h|⟨_,h⟩)|h
  ·cases h
  ·cases h
  ·exact .inr h
theorem Rep.rd{K:o0}{M:DH}{H:Hp}{d:D}{v:V}(hr:HR K M H) (h:Rep K M H d v):aJ K M H (rdM M d) v:=by
 cases d with
 |tup ds=>simp only[Rep]at h;obtain⟨a,vs,e,t,r⟩:=h;exact⟨a,vs,e,t.sq,r⟩
 |lst ds=>simp only[Rep]at h;obtain⟨a,vs,e,t,r⟩:=h;exact⟨a,vs,e,t.1,r⟩
 |scr ds=>simp only[Rep]at h;obtain⟨a,vs,e,t,r⟩:=h;exact⟨a,vs,e,t.sq,r⟩
 |ref a =>
  simp only[rdM];cases q:M a with
  |none=>exact h
  |some o =>
   cases o with
   |lst ds =>
    obtain⟨vs,e,r⟩:=hr a _ q;simp only[Rep]at h;exact⟨a,vs,h,e,r⟩
   |dK _=>exact h
   |dT _=>exact h
   |dKr _ _ _=>exact h
   |ins _ _=>exact h
   |ext _ _=>exact h
 |non=>exact h
 |bl b=>exact h
 |int i=>exact h
 |str x=>exact h
 |emp=>exact h
 |box _ _=>exact h
def bC(X:Cx) (f:F0->F0->Sem F0) (r:D->D->Option D):Prop :=
 ∀(aa:List (H0×Obj)) (s:F1) (σ:St) (H:Hp) (M:DH) (x y:V) (v u:F0) (dx dy dz:D) (Q:VK),Inv X aa σ H s->HR X.K M H->aD x v->aD y u->aJ X.K M H dx x->aJ X.K M H dy y->r dx dy=some dz ->
  (∀w H',Ext M H M H'->HR X.K M H'->Rep X.K M H' dz w->Q w H')->J3 (K1 X.prog X.w) X.A (f v u) (EP X aa σ Q) X.xe s
def Ea(X:Cx) (f:F0->Sem F0) (r:D->Option D):Prop :=
 ∀(aa:List (H0×Obj)) (s:F1) (σ:St) (H:Hp) (M:DH) (x:V) (v:F0) (dx dz:D) (Q:VK),Inv X aa σ H s->HR X.K M H->aD x v->aJ X.K M H dx x->r dx=some dz ->
  (∀w H',Ext M H M H'->HR X.K M H'->Rep X.K M H' dz w->Q w H')->J3 (K1 X.prog X.w) X.A (f v) (EP X aa σ Q) X.xe s
def ck(X:Cx) (f:F0) (r:List D->Option D):Prop :=
 ∀(aa:List (H0×Obj)) (s:F1) (σ:St) (H:Hp) (M:DH) (xs:List V) (us:List F0) (ds:List D) (dz:D) (Q:VK),Inv X aa σ H s->HR X.K M H->ao xs us->P8 (aJ X.K M H) ds xs->r ds=some dz ->
  (∀w H',Ext M H M H'->HR X.K M H'->Rep X.K M H' dz w->Q w H')->J3 (K1 X.prog X.w) X.A (call f us) (EP X aa σ Q) X.xe s
def dOp(r:D->D->Option D) (ta tb:TEd):TEd:=fun Δ M Q=>ta Δ M fun x M1=>tb Δ M1 fun y M2=>∃z,r (rdM M2 x) (rdM M2 y)=some z/\Q z M2
def dUn(r:D->Option D) (ta:TEd):TEd:=fun Δ M Q=>ta Δ M fun x M1=>∃z,r (rdM M1 x)=some z/\Q z M1
def opV(K:o0) (r:D->D->Option D):R2:=fun x y H Q=>∃dx dy dz M,HR K M H/\aJ K M H dx x/\aJ K M H dy y/\r dx dy=some dz/\∀w H',Ext M H M H'->HR K M H'->Rep K M H' dz w->Q w H'
theorem bC.v{f:F0->F0->Sem F0}{r:D->D->Option D}(h:bC X f r):OpR X f (opV X.K r):=fun aa s σ H x y v u Q I rx ry ⟨dx,dy,dz,M,hr,r1,r2,e,k⟩=>h aa s σ H M x y v u dx dy dz Q I hr rx ry r1 r2 e k
theorem xr{K:o0}{r:D->D->Option D}{ta tb:TEd}:∀ σ H Q,up K (dOp r ta tb) σ H Q->tOp (opV K r) (up K ta) (up K tb) σ H Q:=fun σ H Q hup=>hup.el fun Δ M R sr hr q k =>
 ⟨Δ,M,_,sr,hr,q,fun x M1 v H1 q1 e1 hr1 rv=>⟨Δ,M1,_,sr.ext e1,hr1,q1,fun y M2 u H2 ⟨z,ez,q2⟩ e2 hr2 ru=>⟨_,_,z,M2,hr2,(rv.ext e2).rd hr2,ru.rd hr2,ez,fun w H' e3 hr3 rw_=>k z M2 w H' q2 ((e1.trans e2).trans e3) hr3 rw_⟩⟩⟩
def rm(t:TEd):TTd:=fun Δ M Q=>t Δ M fun x M1=>∃k,x=.bl k/\Q k M1
theorem EY{K:o0}{t:TEd}:∀ σ H Q,upT K (rm t) σ H Q->v4 (up K t) σ H Q:=fun σ H Q hup=>hup.el fun Δ M R sr hr q k =>
 ⟨Δ,M,_,sr,hr,q,fun d M1 v H1 ⟨b,e,q1⟩ e1 hr1 rv=>⟨b,by subst e;simpa only[Rep]using rv,k b M1 H1 q1 e1 hr1⟩⟩
def An(t:TTd):TTd:=fun Δ M Q=>t Δ M fun c M1=>Q (!c) M1
def wD(t u:TTd):TTd:=fun Δ M Q=>t Δ M fun c M1=>if c=true then u Δ M1 Q else Q false M1
def D1(t u:TTd):TTd:=fun Δ M Q=>t Δ M fun c M1=>if c=true then Q true M1 else u Δ M1 Q
variable{tA tB':TTd}{aK:List J4}
theorem PW.conv{X:Cx}{e:J4}{t t':TT}(h:PW X e t) (k:∀ σ H Q,t' σ H Q->t σ H Q):PW X e t':=fun w p s σ H Q I q=>h w p s σ H Q I (k σ H Q q)
theorem PWd.pt{e:J4}{t:TTd}(h:PWd X e t):PTd X e t:=PW.pt h
def Em(ta tb:TEd):TEd:=fun Δ M Q=>ta Δ M fun x M1=>∃c,x=.bl c/\if c=true then tb Δ M1 Q else Q (.bl false) M1
def vE(r r':D->D->Option D) (ta tb tc:TEd):TEd:=fun Δ M Q=>ta Δ M fun x M1=>tb Δ M1 fun y M2=>∃k,r (rdM M2 x) (rdM M2 y)=some (.bl k)/\if k=true then tc Δ M2 fun z M3=>∃w,r' (rdM M3 y) (rdM M3 z)=some w/\Q w M3 else Q (.bl false) M2
theorem sH{K:o0}{M:DH}{H:Hp}(hr:HR K M H):∀{ds:List D}{vs:List V},ah K M H ds vs->P8 (aJ K M H) (ds.map (rdM M)) vs
 |[],_,h=>by simp only[ah]at h;subst h;exact .nil
 |d::ds,_,h=>by
  simp only[ah]at h;obtain⟨v,ws,rfl,h1,h2⟩:=h;exact .cons (h1.rd hr) (sH hr h2)
def dCB(r:List D->Option D) (t:TAd):TEd:=fun Δ M Q=>t Δ M fun ds M1=>∃z,r (ds.map (rdM M1))=some z/\Q z M1
theorem AD{K:o0}{r:List D->Option D}{t:TAd}:∀ σ H Q,up K (dCB r t) σ H Q->tCB (fun xs H Q=>∃ds dz M,HR K M H/\P8 (aJ K M H) ds xs/\r ds=some dz/\∀w H',Ext M H M H'->HR K M H'->Rep K M H' dz w->Q w H') (upA K t) σ H Q:=fun σ H Q hup=>hup.el fun Δ M R sr hr q k =>
 ⟨Δ,M,_,sr,hr,q,fun ds M1 vs H1 ⟨z,ez,q1⟩ e1 hr1 rv=>⟨_,z,M1,hr1,sH hr1 rv,ez,fun w H' e2 hr2 r2=>k z M1 w H' q1 (e1.trans e2) hr2 r2⟩⟩
theorem ck.v{f:F0}{r:List D->Option D}(h:ck X f r):dP X f (fun xs H Q=>∃ds dz M,HR X.K M H/\P8 (aJ X.K M H) ds xs/\r ds=some dz/\∀w H',Ext M H M H'->HR X.K M H'->Rep X.K M H' dz w->Q w H') :=
 fun aa s σ H xs us Q I rv ⟨ds,dz,M,hr,rr,e,k⟩=>h aa s σ H M xs us ds dz Q I hr rv rr e k
end
section
variable{X:Cx}
theorem bC.of{f:F0->F0->Sem F0}{r2:R2}{r:D->D->Option D}(h:OpR X f r2)
  (k:∀(H:Hp) (M:DH) (x y:V) (dx dy dz:D) (Q:VK),HR X.K M H->aJ X.K M H dx x->aJ X.K M H dy y->r dx dy=some dz->(∀w H',Ext M H M H'->HR X.K M H'->Rep X.K M H' dz w->Q w H')->r2 x y H Q):bC X f r :=
 fun aa s σ H M x y v u dx dy dz Q I hr rx ry r1 r2 e q=>h aa s σ H x y v u Q I rx ry (k H M x y dx dy dz Q hr r1 r2 e q)
theorem ck.of{f:F0}{r2:List V->Hp->VK->Prop}{r:List D->Option D}(h:dP X f r2)
  (k:∀(H:Hp) (M:DH) (xs:List V) (ds:List D) (dz:D) (Q:VK),HR X.K M H->P8 (aJ X.K M H) ds xs->r ds=some dz->(∀w H',Ext M H M H'->HR X.K M H'->Rep X.K M H' dz w->Q w H')->r2 xs H Q):ck X f r :=
 fun aa s σ H M xs us ds dz Q I hr rv r1 e q=>h aa s σ H xs us Q I rv (k H M xs ds dz Q hr r1 e q)
theorem gE{K:o0}{M:DH}{H:Hp}{i:Int}{v:V}(h:aJ K M H (.int i) v):v=.int i:=by simpa[aJ,Rep]using h
theorem mh{K:o0}{M:DH}{H:Hp}{i:Str}{v:V}(h:aJ K M H (.str i) v):v=.str i:=by simpa[aJ,Rep]using h
theorem Dq{K:o0}{M:DH}{H:Hp}{v:V}(h:aJ K M H .non v):v=.non:=by simpa[aJ,Rep]using h
def iOp(f:Int->Int->Option D):D->D->Option D
 |.int a,.int b=>f a b
 |_,_=>none
theorem lL{f:Int->Int->Option D}{x y z:D}(h:iOp f x y=some z):∃a b,x=.int a/\y=.int b/\f a b=some z:=by
 cases x<;>first|cases h|skip
 rename_i a;cases y<;>first|cases h|skip
 rename_i b;exact⟨a,b,rfl,rfl,h⟩
noncomputable def aV:D->Bool
 |.non=>true|.bl _=>true|.int _=>true|.str _=>true|_=>false
def toV:D->V
 |.bl b=>.bl b|.int i=>.int i|.str x=>.str x|_=>.non
theorem p7{K:o0}{M:DH}{H:Hp}{d:D}(h:aV d=true):Rep K M H d (toV d):=by
 cases d<;>first|(simp[Rep,toV];done)|cases h
theorem o5{f:F0->F0->Sem F0}{C:Int->Int->Prop} [∀i j,Decidable (C i j)] {g:Int->Int->D}(hs:∀i j,aV (g i j)=true) (h:OpR X f (rI C fun i j=>toV (g i j))) :
  bC X f (iOp fun i j=>if C i j then some (g i j)else none) :=
 bC.of h fun H M x y dx dy dz Q hr r1 r2 e q=>by
  obtain⟨a,b,rfl,rfl,e'⟩:=lL e;clear e;have e:=e'
  by_cases hc:C a b
  ·rw[if_pos hc]at e;cases e;exact⟨a,b,gE r1,gE r2,hc,q _ _ (Ext.refl _ _) hr (p7 (hs a b))⟩
  ·rw[if_neg hc]at e;cases e
theorem kJ{f:F0->F0->Sem F0}{g:Int->Int->D}(hs:∀i j,aV (g i j)=true) (h:OpR X f (rI0 fun i j=>toV (g i j))) :
  bC X f (iOp fun i j=>some (g i j)) :=
 bC.of h fun H M x y dx dy dz Q hr r1 r2 e q=>by
  obtain⟨a,b,rfl,rfl,e⟩:=lL e;cases e;exact⟨a,b,gE r1,gE r2,q _ _ (Ext.refl _ _) hr (p7 (hs a b))⟩
instance:∀i j,Decidable (pH i j):=fun i j=>by unfold pH;exact inferInstance
instance:∀i j,Decidable (iY i j):=fun i j=>by unfold iY;exact inferInstance
instance:∀i j,Decidable (ph i j):=fun i j=>by unfold ph;exact inferInstance
theorem kE:bC X (O6 .Sub) (iOp fun i j=>some (.int (i-j))):=kJ (fun _ _=>rfl) BI
theorem Ba:bC X (O6 .Mult) (iOp fun i j=>if iY i j then some (.int (i*j))else none):=o5 (fun _ _=>rfl) Bf
theorem oD:bC X (O6 .FloorDiv) (iOp fun i j=>if pH i j then some (.int (i / j))else none):=o5 (fun _ _=>rfl) zB
theorem dO:bC X (O6 .Mod) (iOp fun i j=>if 0<j then some (.int (i % j))else none):=o5 (C:=fun _ j=>0<j) (fun _ _=>rfl) Bb
theorem D6:bC X (O6 .Pow) (iOp fun i j=>if ph i j then some (.int (i ^ j.toNat))else none):=o5 (fun _ _=>rfl) C5
theorem rR:bC X (L7 .Lt) (iOp fun i j=>some (.bl (decide (i<j)))):=kJ (fun _ _=>rfl) E2
theorem EW:bC X (L7 .LtE) (iOp fun i j=>some (.bl (decide (i<=j)))):=kJ (fun _ _=>rfl) DA
theorem zW:bC X (L7 .Gt) (iOp fun i j=>some (.bl (decide (j<i)))):=kJ (fun _ _=>rfl) DI
theorem Ff:bC X (L7 .GtE) (iOp fun i j=>some (.bl (decide (j<=i)))):=kJ (fun _ _=>rfl) D3
theorem ah.at_{K:o0}{M:DH}{H:Hp}{ds:List D}{vs:List V}{i:Int}{d:D}(h:ah K M H ds vs) (e:atI ds i=some d):∃v,atI vs i=some v/\Rep K M H d v:=by
 unfold atI at e ⊢;rw[<-h.length];cases q:ixN ds.length i with
 |none=>rw[q]at e;cases e
 |some j =>
  rw[q]at e;have e':ds[j]?=some d:=e;obtain⟨v,a,b⟩:=h.get e';exact⟨v,a,b⟩
def ixD:D->D->Option D
 |.tup ds,.int i=>atI ds i
 |.lst ds,.int i=>atI ds i
 |.scr ds,.int i=>atI ds i
 |.str z,.int i=>if z.length<=F3 then(atI z.cps.toList i).map fun c=>.str ⟨#[c]⟩else none
 |_,_=>none
theorem cg:IxR X (opV X.K ixD):=by
 intro value slice aa s σ H x y v u Q I rx ry h hs;obtain⟨dx,dy,dz,M,hr,r1,r2,e,k⟩:=h;cases dx with
 |tup ds =>
  cases dy with
  |int i =>
   obtain⟨a,vs,rfl,sq,rl⟩:=r1;obtain⟨w,e2,rw_⟩:=rl.at_ e;exact BD value slice aa s σ H _ _ v u Q I rx ry ⟨a,vs,i,w,rfl,gE r2,sq,e2,k w H (Ext.refl _ _) hr rw_⟩ hs
  |_=>cases e
 |lst ds =>
  cases dy with
  |int i =>
   obtain⟨a,vs,rfl,sq,rl⟩:=r1;obtain⟨w,e2,rw_⟩:=rl.at_ e;exact tm value slice aa s σ H _ _ v u Q I rx ry ⟨a,vs,i,w,rfl,gE r2,SqL.of sq,e2,k w H (Ext.refl _ _) hr rw_⟩ hs
  |_=>cases e
 |scr ds =>
  cases dy with
  |int i =>
   obtain⟨a,vs,rfl,sq,rl⟩:=r1;obtain⟨w,e2,rw_⟩:=rl.at_ e;exact tm value slice aa s σ H _ _ v u Q I rx ry ⟨a,vs,i,w,rfl,gE r2,sq,e2,k w H (Ext.refl _ _) hr rw_⟩ hs
  |_=>cases e
 |str z =>
  cases dy with
  |int i =>
   simp only[ixD]at e
   by_cases hz:z.length<=F3
   ·rw[if_pos hz]at e;cases q:atI z.cps.toList i with
    |none=>rw[q]at e;cases e
    |some c =>
     rw[q]at e;cases e;exact BG value slice aa s σ H _ _ v u Q I rx ry ⟨z,i,c,mh r1,gE r2,hz,q,k _ H (Ext.refl _ _) hr (by simp[Rep])⟩ hs
   ·rw[if_neg hz]at e;cases e
  |_=>cases e
 |_=>cases e
noncomputable def mB:D->D->Option D
 |.int a,.int b=>some (.int (a+b))
 |.str a,.str b=>if a.length+b.length<=F3 then some (.str (a++b))else none
 |.lst a,.lst b=>if a.length+b.length<=F3 then some (.lst (a++b))else none
 |.tup a,.tup b=>if a.length+b.length<=F3 then some (.tup (a++b))else none
 |_,_=>none
theorem dY{K:o0}{M:DH}{H:Hp}{p:H0}{ds:List D}{vs:List V}{Q:VK}(hr:HR K M H) (hp:H p=none) (r:ah K M H ds vs) (q:∀w H',Ext M H M H'->HR K M H'->Rep K M H' (.lst ds) w->Q w H'):Q (.ref p) (upd H p (.lst vs)) :=
 q _ _ (Ext.new hr hp) (hr.new hp) (by simp only[Rep];exact⟨p,vs,rfl,⟨aA,hr.fresh hp⟩,r.ext (Ext.new hr hp)⟩)
theorem oP{K:o0}{M:DH}{H:Hp}{p:H0}{ds:List D}{vs:List V}{Q:VK}(hr:HR K M H) (hp:H p=none) (r:ah K M H ds vs) (q:∀w H',Ext M H M H'->HR K M H'->Rep K M H' (.tup ds) w->Q w H'):Q (.ref p) (upd H p (.tup vs)) :=
 q _ _ (Ext.new hr hp) (hr.new hp) (by simp only[Rep];exact⟨p,vs,rfl,.inl ⟨.inl aA,hr.fresh hp⟩,r.ext (Ext.new hr hp)⟩)
theorem aJ.tup{K:o0}{M:DH}{H:Hp}{ds:List D}{v:V}(hr:HR K M H) (h:aJ K M H (.tup ds) v):Rep K M H (.tup ds) v:=by
 obtain⟨a,vs,rfl,sq,rl⟩:=h;simp only[Rep];refine⟨a,vs,rfl,?_,rl⟩;rcases sq with r|k
 ·refine .inl ⟨r,?_⟩;cases q:M a with
  |none=>rfl
  |some o =>
   obtain⟨u,z,m⟩:=(hr a _ q).some;rcases r with r|⟨ob,r⟩
   ·rw[z]at r;exact absurd (J9 r) (m _).1
   ·rw[z]at r;exact absurd (J9 r) ((m _).2 ob)
 ·exact .inr (.inr k)
theorem vV{prog:K7}{w:P5}{A:M9}{E:F0->F1->Prop}{s:F1}{t b:H0}{ws:List F0}{Q:F0->F1->Prop}(ht:ac7 s.heap t ([]:List F0).toArray) (hb:ac7 s.heap b ws.toArray)
  (h:Q (.ref b) s):J3 (K1 prog w) A (O6 .Add (.ref t) (.ref b)) Q E s:=by
 obtain⟨⟨cls,dd,data,sl⟩,ho,hc,n,hd⟩:=id ht;obtain⟨⟨cls2,dd2,data2,sl2⟩,ho2,hc2,n2,hd2⟩:=id hb;simp only at hc hd hc2 hd2;subst hc hd hc2 hd2;exact concat_meets ⟨_,ho,rfl⟩ ⟨_,ho2,rfl⟩ noFill_tuple_add seq_tuple_add PySem.F.slot_tuple_add PySem.F.entry_tuple_add (PySem.F.args_tuple_add_2 _ _)
   (tuple_addW0 t b ([]:List F0).toArray ws.toArray n n2 dd dd2 sl sl2 (by simp)) ⟨ho,ho2,h⟩
theorem aY:bC X (O6 .Add) mB:=by
 intro aa s σ H M x y v u dx dy dz Q I hr rx ry r1 r2 e k;cases dx with
 |int a =>
  cases dy with
  |int b =>
   cases e;exact CS aa s σ H x y v u Q I rx ry ⟨a,b,gE r1,gE r2,k _ H (Ext.refl _ _) hr (by simp[Rep])⟩
  |_=>cases e
 |str a =>
  cases dy with
  |str b =>
   simp only[mB]at e
   by_cases hz:a.length+b.length<=F3
   ·rw[if_pos hz]at e;cases e;exact rN aa s σ H x y v u Q I rx ry ⟨a,b,mh r1,mh r2,hz,k _ H (Ext.refl _ _) hr (by simp[Rep])⟩
   ·rw[if_neg hz]at e;cases e
  |_=>cases e
 |lst a =>
  cases dy with
  |lst b =>
   simp only[mB]at e
   by_cases hz:a.length+b.length<=F3
   ·rw[if_pos hz]at e;cases e;obtain⟨l1,vs,rfl,h1,l1r⟩:=r1;obtain⟨l2,ws,rfl,h2,l2r⟩:=r2;exact Ck aa s σ H _ _ v u Q I rx ry ⟨l1,l2,vs,ws,rfl,rfl,h1,h2,by rw[<-l1r.length,<-l2r.length];exact hz,fun p hp=>dY hr hp (l1r.append l2r) k⟩
   ·rw[if_neg hz]at e;cases e
  |_=>cases e
 |tup a =>
  cases dy with
  |tup b =>
   simp only[mB]at e
   by_cases hz:a.length+b.length<=F3
   ·rw[if_pos hz]at e;cases e;have t1:=aJ.tup hr r1;have t2:=aJ.tup hr r2;obtain⟨l1,vs,rfl,h1,l1r⟩:=r1;obtain⟨l2,ws,rfl,h2,l2r⟩:=r2
    by_cases hv:vs=[]
    ·subst hv;have ea:a=[]:=by
      have:=l1r.length;cases a with
      |nil=>rfl
      |cons _ _=>simp at this
     subst ea;cases rx;cases ry;obtain⟨its,q1,p1,_⟩:=I.tuple h1;obtain⟨its2,q2,p2,_⟩:=I.tuple h2;cases q1;exact vV p1 p2 ⟨.ref l2,H,I,rfl,k _ H (Ext.refl _ _) hr t2⟩
    ·refine zN aa s σ H _ _ v u Q I rx ry ⟨l1,l2,vs,ws,rfl,rfl,h1,h2,hv,by rw[<-l1r.length,<-l2r.length];exact hz,fun hw=>?_,fun _ p hp=>oP hr hp (l1r.append l2r) k⟩;subst hw;have eb:b=[]:=by
      have:=l2r.length;cases b with
      |nil=>rfl
      |cons _ _=>simp at this
     subst eb;rw[Z0]at k;exact k _ H (Ext.refl _ _) hr t1
   ·rw[if_neg hz]at e;cases e
  |_=>cases e
 |_=>cases e
mutual
def eqD:D->D->Bool
 |.non,.non=>true
 |.bl a,.bl b=>a==b
 |.bl a,.int b=>(if a then 1 else 0)==b
 |.int a,.bl b=>a==(if b then 1 else 0)
 |.int a,.int b=>a==b
 |.str a,.str b=>a==b
 |.tup a,.tup b=>dq a b
 |.lst a,.lst b=>dq a b
 |_,_=>false
def dq:List D->List D->Bool
 |[],[]=>true
 |a::as,b::bs=>eqD a b&&dq as bs
 |_,_=>false
end
mutual
def dLe:D->Nat->Bool
 |.tup _,0=>false
 |.tup ds,n+1=>bR ds n
 |.lst _,0=>false
 |.lst ds,n+1=>bR ds n
 |.scr _,_=>false
 |.emp,_=>false
 |.box _ _,_=>false
 |.ref _,_=>false
 |_,_=>true
def bR:List D->Nat->Bool
 |[],_=>true
 |d::ds,n=>dLe d n&&bR ds n
end
theorem dG:∀{ds:List D}{n i:Nat}{d:D},bR ds n=true->ds[i]?=some d->dLe d n=true
 |[],_,_,_,_,e=>by simp at e
 |d::ds,n,0,x,h,e=>by
  simp only[bR,K0]at h;simp at e;subst e;exact h.1
 |d::ds,n,i+1,x,h,e=>by
  simp only[bR,K0]at h;exact dG h.2 (by simpa using e)
theorem hV:∀{ds:List D}{n:Nat},bR ds n=true↔∀d∈ds,dLe d n=true
 |[],n=>by simp[bR]
 |d::ds,n=>by simp[bR,hV (ds:=ds)]
def eqN(ds es:List D) (j:Nat):Bool:=match ds[j]?,es[j]? with|some a,some b=>eqD a b|_,_=>false
theorem pO:∀{ds es:List D},dq ds es=true->ds.length=es.length
 |[],[],_=>rfl
 |[],_::_,h=>by simp[dq]at h
 |_::_,[],h=>by simp[dq]at h
 |_::ds,_::es,h=>by
  simp only[dq,K0]at h;simp[pO h.2]
theorem ke:∀{ds es:List D},dq ds es=((W0 (min ds.length es.length)).all (eqN ds es)&&ds.length==es.length)
 |[],[]=>by simp[dq]
 |[],_::_=>by simp[dq]
 |_::_,[]=>by simp[dq]
 |a::ds,b::es=>by
  have ih:=@ke ds es;simp only[dq,U5,Nat.add_min_add_right,List.range_succ_eq_map,V6,List.all_map];have e0:eqN (a::ds) (b::es) 0=eqD a b:=by simp[eqN]
  have e1:(eqN (a::ds) (b::es))∘Nat.succ=eqN ds es:=by
   funext j;simp[eqN]
  rw[e0,e1,ih];have e2:(ds.length+1==es.length+1)=(ds.length==es.length):=by
   rw[Bool.eq_iff_iff];simp
  rw[e2,Bool.and_assoc]
theorem uG{ds es:List D}(h:ds.length=es.length):dq ds es=(W0 ds.length).all (eqN ds es):=by
 rw[ke,<-h,Nat.min_self];simp
theorem Rep.r{K:o0}{M:DH}{H:Hp}{d:D}{v:V}(h:Rep K M H d v):aJ K M H d v:=by
 cases d with
 |tup ds=>simp only[Rep]at h;obtain⟨a,vs,e,t,r⟩:=h;exact⟨a,vs,e,t.sq,r⟩
 |lst ds=>simp only[Rep]at h;obtain⟨a,vs,e,t,r⟩:=h;exact⟨a,vs,e,t.1,r⟩
 |scr ds=>simp only[Rep]at h;obtain⟨a,vs,e,t,r⟩:=h;exact⟨a,vs,e,t.sq,r⟩
 |_=>exact h
theorem Ar{aa:List (H0×Obj)}{σ:St}{H:Hp}{s:F1}{a:H0}{vs ws:List V}(I:Inv X aa σ H s) (h:SqT X.K H a vs) (h':H a=some (.lst ws)):False:=by
 obtain⟨its,r,⟨o,e,c,n,d⟩,_⟩:=I.tuple h;obtain⟨_,its',n',_,e'⟩:=I.hok a _ h';rw[e]at e';cases e';exact absurd (show ac6 "list"=ac6 "tuple" from c) (by decide)
theorem vo{aa:List (H0×Obj)}{σ:St}{H:Hp}{s:F1}(I:Inv X aa σ H s) {M M':DH}:∀(n:Nat) {d e:D}{v:V},dLe d n=true->dLe e n=true->aJ X.K M H d v->aJ X.K M' H e v->eqD d e=true:=by
  intro n
  induction n with
  | zero =>
    intro d e v hd he r1 r2;cases d<;>first|(simp[dLe]at hd;done)|skip
    all_goals cases e<;>first|(simp[dLe]at he;done)|skip
    all_goals (simp only[aJ,Rep]at r1 r2;subst r1;first|(cases r2;simp[eqD];done)|cases r2)
  | succ n ih =>
    intro d e v hd he r1 r2;have lists:∀{ds es:List D} {vs:List V},bR ds n=true->bR es n=true->ah X.K M H ds vs->ah X.K M' H es vs->dq ds es=true:=by
      intro ds
      induction ds with
      | nil =>
        intro es vs _ _ h1 h2;simp only[ah]at h1;subst h1;cases es with
        |nil=>simp[dq]
        |cons _ _=>simp[ah]at h2
      | cons a ds ihl =>
        intro es vs d1 d2 h1 h2;simp only[ah]at h1;obtain⟨v,ws,rfl,h3,h4⟩:=h1;cases es with
        |nil=>simp[ah]at h2
        | cons b es =>
          simp only[ah]at h2;obtain⟨v',ws',e',h5,h6⟩:=h2;cases e';simp only[bR,K0]at d1 d2;simp only[dq,K0];exact⟨ih d1.1 d2.1 h3.r h5.r,ihl d1.2 d2.2 h4 h6⟩
    cases d with
    | tup ds =>
      obtain⟨a,vs,rfl,sq,rl⟩:=r1;cases e with
      | tup es =>
        obtain⟨b,ws,e',sq',rl'⟩:=r2;cases e';have:=I.tuple_inj sq sq';subst this;simp only[eqD];exact lists (by simpa[dLe]using hd) (by simpa[dLe]using he) rl rl'
      | lst es =>
        obtain⟨b,ws,e',sq',rl'⟩:=r2;cases e';exact(Ar I sq sq').elim
      |_=>first|(simp[dLe]at he;done)|(simp only[aJ,Rep]at r2;cases r2)
    | lst ds =>
      obtain⟨a,vs,rfl,sq,rl⟩:=r1;cases e with
      | lst es =>
        obtain⟨b,ws,e',sq',rl'⟩:=r2;cases e';rw[sq]at sq';cases sq';simp only[eqD];exact lists (by simpa[dLe]using hd) (by simpa[dLe]using he) rl rl'
      | tup es =>
        obtain⟨b,ws,e',sq',rl'⟩:=r2;cases e';exact(Ar I sq' sq).elim
      |_=>first|(simp[dLe]at he;done)|(simp only[aJ,Rep]at r2;cases r2)
    | _ =>
      first
      |(simp[dLe]at hd;done)
      | (cases e with
         |tup es=>(obtain⟨b,ws,e',sq',rl'⟩:=r2;subst e';simp only[aJ,Rep]at r1;cases r1)
         |lst es=>(obtain⟨b,ws,e',sq',rl'⟩:=r2;subst e';simp only[aJ,Rep]at r1;cases r1)
         |_=>first|(simp[dLe]at he;done)|(simp only[aJ,Rep]at r1 r2;subst r1;first|(cases r2;simp[eqD];done)|cases r2))
theorem aJ.at{K:o0}{M:DH}{H:Hp}{d:D}{v:V}{u:F0}(r:aJ K M H d v) (q:aD v u):match d with|.non=>u=.none|.bl b=>u=.bool b|.int i=>∃t,u=.int i t|.str x=>∃t,u=.str x t|_=>True:=by
 cases d<;>first|trivial|(simp only[aJ,Rep]at r;subst r;exact q)
open PySem.SeqAt in
theorem iP{aa:List (H0×Obj)}{σ:St}{H:Hp}{s:F1}(I:Inv X aa σ H s) {M M':DH}:∀(n:Nat) {A:M9}{d e:D}{v w:V}{u1 u2:F0},A.units+n<aa7->dLe d n=true->dLe e n=true ->
  aJ X.K M H d v->aJ X.K M' H e w->aD v u1->aD w u2->EqAt A s u1 u2 (eqD d e)/\RcAt A s u1 u2 (eqD d e)/\RcNeAt A s u1 u2 (!(eqD d e)):=by
 intro n
 induction n with
 |zero =>
  intro A d e v w u1 u2 hu hd he r1 r2 q1 q2;have hu0:A.units<aa7:=by lia
  cases d<;>first|(simp[dLe]at hd;done)|skip
  all_goals cases e<;>first|(simp[dLe]at he;done)|skip
  all_goals simp only[aJ,Rep]at r1 r2
  all_goals subst r1
  all_goals subst r2
  all_goals simp only[aD]at q1 q2
  all_goals first|(obtain⟨t1,rfl⟩:=q1)|subst q1
  all_goals first|(obtain⟨t2,rfl⟩:=q2)|subst q2
  all_goals simp only[eqD]
  ·exact⟨EqAt.same _,RcAt.none_none,RcNeAt.none_none⟩
  ·exact⟨EqAt.none_bool _,RcAt.none_bool _,RcNeAt.none_bool _⟩
  ·exact⟨EqAt.none_int _ _,RcAt.none_int _ _,RcNeAt.none_int _ _⟩
  ·exact⟨EqAt.none_str _ _,RcAt.none_str _ _,RcNeAt.none_str _ _⟩
  ·exact⟨EqAt.bool_none _,RcAt.bool_none _,RcNeAt.bool_none _⟩
  ·exact⟨EqAt.bool_bool _ _,RcAt.bool_bool _ _,RcNeAt.bool_bool _ _⟩
  ·exact⟨EqAt.bool_int _ _ _,RcAt.bool_int _ _ _,RcNeAt.bool_int _ _ _⟩
  ·exact⟨EqAt.bool_str _ _ _,RcAt.bool_str _ _ _,RcNeAt.bool_str _ _ _⟩
  ·exact⟨EqAt.int_none _ _,RcAt.int_none _ _,RcNeAt.int_none _ _⟩
  ·exact⟨EqAt.int_bool _ _ _,RcAt.int_bool _ _ _,RcNeAt.int_bool _ _ _⟩
  ·exact⟨EqAt.int_int _ _ _ _,RcAt.int_int _ _ _ _,RcNeAt.int_int _ _ _ _⟩
  ·exact⟨EqAt.int_str _ _ _ _,RcAt.int_str _ _ _ _,RcNeAt.int_str _ _ _ _⟩
  ·exact⟨EqAt.str_none _ _,RcAt.str_none _ _,RcNeAt.str_none _ _⟩
  ·exact⟨EqAt.str_bool _ _ _,RcAt.str_bool _ _ _,RcNeAt.str_bool _ _ _⟩
  ·exact⟨EqAt.str_int _ _ _ _,RcAt.str_int _ _ _ _,RcNeAt.str_int _ _ _ _⟩
  ·exact⟨EqAt.str_str _ _ _ _,RcAt.str_str _ _ _ _,RcNeAt.str_str _ _ _ _⟩
 |succ n ih =>
  intro A d e v w u1 u2 hu hd he r1 r2 q1 q2;have hu0:A.units<aa7:=by lia
  have hu1:A.in1.units+n<aa7:=by show A.units+1+n<aa7;lia
  have item:∀{ds es:List D} {vs ws:List V} {us us2:List F0},bR ds n=true->bR es n=true->ah X.K M H ds vs->ah X.K M' H es ws->ao vs us->ao ws us2 ->
    ∀j (h1:j<us.toArray.size) (h2:j<us2.toArray.size),EqAt A.in1 s us.toArray[j] us2.toArray[j] (eqN ds es j):=by
   intro ds es vs ws us us2 d1 d2 h1 h2 h3 h4 j hj1 hj2;have l1:=h1.length;have l2:=h2.length;have l3:=h3.length;have l4:=h4.length;have j1:j<ds.length:=by simp at hj1;lia
   have j2:j<es.length:=by simp at hj2;lia
   obtain⟨v1,g1,p1⟩:=h1.get (i:=j) (d:=ds[j]) (by simp[j1]);obtain⟨v2,g2,p2⟩:=h2.get (i:=j) (d:=es[j]) (by simp[j2]);obtain⟨u1,k1,m1⟩:=h3.get g1;obtain⟨u2,k2,m2⟩:=h4.get g2;have e1:us.toArray[j]=u1:=by
    simp at hj1;simpa[List.getElem?_eq_getElem hj1]using k1
   have e2:us2.toArray[j]=u2:=by
    simp at hj2;simpa[List.getElem?_eq_getElem hj2]using k2
   rw[e1,e2];have e3:eqN ds es j=eqD ds[j] es[j]:=by simp[eqN,j1,j2]
   rw[e3];exact(ih hu1 (dG d1 (i:=j) (by simp[j1])) (dG d2 (i:=j) (by simp[j2])) p1.r p2.r m1 m2).1
  have both:∀{a b:H0},v=.ref a->w=.ref b->RcAt A s (.ref a) (.ref b) (eqD d e)->EqAt A s (.ref a) (.ref b) (eqD d e):=by
   intro a b ea eb rc
   by_cases hab:a=b
   ·subst hab;subst ea;subst eb;rw[vo I (n+1) hd he r1 r2];exact EqAt.same _
   ·exact EqAt.of_refs hab rc
  cases d with
  |tup ds =>
   obtain⟨a,vs,rfl,sq,rl⟩:=id r1;cases q1;obtain⟨its,rv,pt,_⟩:=I.tuple sq;have hd':bR ds n=true:=by simpa[dLe]using hd
   cases e with
   |tup es =>
    obtain⟨b,ws,rfl,sq',rl'⟩:=id r2;cases q2;obtain⟨its2,rv2,pt2,_⟩:=I.tuple sq';have he':bR es n=true:=by simpa[dLe]using he
    have it:=item hd' he' rl rl' rv rv2;have t1:=RcAt.tuples (e:=eqN ds es) pt pt2 hu0 it;have t2:=RcNeAt.tuples (e:=eqN ds es) pt pt2 hu0 it;rw[F5,F5,<-rv.length,<-rv2.length,<-rl.length,<-rl'.length,<-ke]at t1 t2;have rc:RcAt A s (.ref a) (.ref b) (eqD (.tup ds) (.tup es)):=by simpa only[eqD]using t1
    exact⟨both rfl rfl rc,rc,by simpa only[eqD]using t2⟩
   |lst es =>
    obtain⟨b,ws,rfl,sq',rl'⟩:=id r2;cases q2;obtain⟨its2,rv2,pt2,_⟩:=I.list (SqL.of sq');simp only[eqD];exact⟨EqAt.tuple_list pt pt2.isList hu0,RcAt.tuple_list pt pt2.isList hu0,RcNeAt.tuple_list pt pt2.isList hu0⟩
   |non=>obtain rfl:=r2.at q2;simp only[eqD];exact⟨EqAt.tuple_none pt hu0,RcAt.tuple_none pt hu0,RcNeAt.tuple_none pt hu0⟩
   |bl b=>obtain rfl:=r2.at q2;simp only[eqD];exact⟨EqAt.tuple_bool _ pt hu0,RcAt.tuple_bool _ pt hu0,RcNeAt.tuple_bool _ pt hu0⟩
   |int b=>obtain⟨t,rfl⟩:=r2.at q2;simp only[eqD];exact⟨EqAt.tuple_int _ _ pt hu0,RcAt.tuple_int _ _ pt hu0,RcNeAt.tuple_int _ _ pt hu0⟩
   |str b=>obtain⟨t,rfl⟩:=r2.at q2;simp only[eqD];exact⟨EqAt.tuple_str _ _ pt hu0,RcAt.tuple_str _ _ pt hu0,RcNeAt.tuple_str _ _ pt hu0⟩
   |_=>simp[dLe]at he
  |lst ds =>
   obtain⟨a,vs,rfl,sq,rl⟩:=id r1;cases q1;obtain⟨its,rv,pt,_⟩:=I.list (SqL.of sq);have hd':bR ds n=true:=by simpa[dLe]using hd
   cases e with
   |lst es =>
    obtain⟨b,ws,rfl,sq',rl'⟩:=id r2;cases q2;obtain⟨its2,rv2,pt2,_⟩:=I.list (SqL.of sq');have he':bR es n=true:=by simpa[dLe]using he
    have hs:its.toArray.size=ds.length/\its2.toArray.size=es.length:=by rw[F5,F5,<-rv.length,<-rv2.length,<-rl.length,<-rl'.length];exact⟨rfl,rfl⟩
    have rc:RcAt A s (.ref a) (.ref b) (eqD (.lst ds) (.lst es))/\RcNeAt A s (.ref a) (.ref b) (!(eqD (.lst ds) (.lst es))):=by
     by_cases hl:ds.length=es.length
     ·have hsz:its.toArray.size=its2.toArray.size:=by rw[hs.1,hs.2];exact hl
      have it:=item hd' he' rl rl' rv rv2;have t1:=RcAt.lists (e:=eqN ds es) pt.isList pt2.isList hsz hu0 it;have t2:=RcNeAt.lists (e:=eqN ds es) pt.isList pt2.isList hsz hu0 it;rw[hs.1,<-uG hl]at t1 t2;exact⟨by simpa only[eqD]using t1,by simpa only[eqD]using t2⟩
     ·have hsz:(its.toArray.size != its2.toArray.size)=true:=by rw[hs.1,hs.2];simpa using hl
      have e0:eqD (.lst ds) (.lst es)=false:=by
       simp only[eqD];cases q:dq ds es with
       |false=>rfl
       |true=>exact absurd (pO q) hl
      rw[e0];exact⟨RcAt.lists_lengths pt.isList pt2.isList hsz hu0,RcNeAt.lists_lengths pt.isList pt2.isList hsz hu0⟩
    exact⟨both rfl rfl rc.1,rc⟩
   |tup es =>
    obtain⟨b,ws,rfl,sq',rl'⟩:=id r2;cases q2;obtain⟨its2,rv2,pt2,_⟩:=I.tuple sq';simp only[eqD];exact⟨EqAt.list_tuple pt.isList pt2 hu0,RcAt.list_tuple pt.isList pt2 hu0,RcNeAt.list_tuple pt.isList pt2 hu0⟩
   |non=>obtain rfl:=r2.at q2;simp only[eqD];exact⟨EqAt.list_none pt.isList hu0,RcAt.list_none pt.isList hu0,RcNeAt.list_none pt.isList hu0⟩
   |bl b=>obtain rfl:=r2.at q2;simp only[eqD];exact⟨EqAt.list_bool _ pt.isList hu0,RcAt.list_bool _ pt.isList hu0,RcNeAt.list_bool _ pt.isList hu0⟩
   |int b=>obtain⟨t,rfl⟩:=r2.at q2;simp only[eqD];exact⟨EqAt.list_int _ _ pt.isList hu0,RcAt.list_int _ _ pt.isList hu0,RcNeAt.list_int _ _ pt.isList hu0⟩
   |str b=>obtain⟨t,rfl⟩:=r2.at q2;simp only[eqD];exact⟨EqAt.list_str _ _ pt.isList hu0,RcAt.list_str _ _ pt.isList hu0,RcNeAt.list_str _ _ pt.isList hu0⟩
   |_=>simp[dLe]at he
  |non =>
   cases e with
   |tup es =>
    obtain⟨b,ws,rfl,sq',rl'⟩:=id r2;cases q2;obtain⟨its2,rv2,pt2,_⟩:=I.tuple sq';obtain rfl:=r1.at q1;simp only[eqD];exact⟨EqAt.none_tuple pt2 hu0,RcAt.none_tuple pt2 hu0,RcNeAt.none_tuple pt2 hu0⟩
   |lst es =>
    obtain⟨b,ws,rfl,sq',rl'⟩:=id r2;cases q2;obtain⟨its2,rv2,pt2,_⟩:=I.list (SqL.of sq');obtain rfl:=r1.at q1;simp only[eqD];exact⟨EqAt.none_list pt2.isList hu0,RcAt.none_list pt2.isList hu0,RcNeAt.none_list pt2.isList hu0⟩
   |_=>first|(simp[dLe]at he;done)|exact ih (A:=A) (by lia) (by simp[dLe]) (by simp[dLe]) r1 r2 q1 q2
  |bl a =>
   cases e with
   |tup es =>
    obtain⟨b,ws,rfl,sq',rl'⟩:=id r2;cases q2;obtain⟨its2,rv2,pt2,_⟩:=I.tuple sq';obtain rfl:=r1.at q1;simp only[eqD];exact⟨EqAt.bool_tuple _ pt2 hu0,RcAt.bool_tuple _ pt2 hu0,RcNeAt.bool_tuple _ pt2 hu0⟩
   |lst es =>
    obtain⟨b,ws,rfl,sq',rl'⟩:=id r2;cases q2;obtain⟨its2,rv2,pt2,_⟩:=I.list (SqL.of sq');obtain rfl:=r1.at q1;simp only[eqD];exact⟨EqAt.bool_list _ pt2.isList hu0,RcAt.bool_list _ pt2.isList hu0,RcNeAt.bool_list _ pt2.isList hu0⟩
   |_=>first|(simp[dLe]at he;done)|exact ih (A:=A) (by lia) (by simp[dLe]) (by simp[dLe]) r1 r2 q1 q2
  |int a =>
   cases e with
   |tup es =>
    obtain⟨b,ws,rfl,sq',rl'⟩:=id r2;cases q2;obtain⟨its2,rv2,pt2,_⟩:=I.tuple sq';obtain⟨t,rfl⟩:=r1.at q1;simp only[eqD];exact⟨EqAt.int_tuple _ _ pt2 hu0,RcAt.int_tuple _ _ pt2 hu0,RcNeAt.int_tuple _ _ pt2 hu0⟩
   |lst es =>
    obtain⟨b,ws,rfl,sq',rl'⟩:=id r2;cases q2;obtain⟨its2,rv2,pt2,_⟩:=I.list (SqL.of sq');obtain⟨t,rfl⟩:=r1.at q1;simp only[eqD];exact⟨EqAt.int_list _ _ pt2.isList hu0,RcAt.int_list _ _ pt2.isList hu0,RcNeAt.int_list _ _ pt2.isList hu0⟩
   |_=>first|(simp[dLe]at he;done)|exact ih (A:=A) (by lia) (by simp[dLe]) (by simp[dLe]) r1 r2 q1 q2
  |str a =>
   cases e with
   |tup es =>
    obtain⟨b,ws,rfl,sq',rl'⟩:=id r2;cases q2;obtain⟨its2,rv2,pt2,_⟩:=I.tuple sq';obtain⟨t,rfl⟩:=r1.at q1;simp only[eqD];exact⟨EqAt.str_tuple _ _ pt2 hu0,RcAt.str_tuple _ _ pt2 hu0,RcNeAt.str_tuple _ _ pt2 hu0⟩
   |lst es =>
    obtain⟨b,ws,rfl,sq',rl'⟩:=id r2;cases q2;obtain⟨its2,rv2,pt2,_⟩:=I.list (SqL.of sq');obtain⟨t,rfl⟩:=r1.at q1;simp only[eqD];exact⟨EqAt.str_list _ _ pt2.isList hu0,RcAt.str_list _ _ pt2.isList hu0,RcNeAt.str_list _ _ pt2.isList hu0⟩
   |_=>first|(simp[dLe]at he;done)|exact ih (A:=A) (by lia) (by simp[dLe]) (by simp[dLe]) r1 r2 q1 q2
  |_=>simp[dLe]at hd
end
section
variable{X:Cx}{a b c e:J4}{es:List J4}{te ta tb:TEd}{pos:Pos}{st:ab0}{aK:List ab0}{t u:TSd}
def xp:TSd:=fun E Δ M=>E.nx Δ M
def Fb(t u:TSd):TSd:=fun E Δ M=>t { E with nx:=u E } Δ M
def Dj(te:TEd):TSd:=fun E Δ M=>te Δ M E.rt
def xO(te:TEd):TSd:=fun E Δ M=>te Δ M fun _ M1=>E.nx Δ M1
def BB(c:TTd) (t u:TSd):TSd:=fun E Δ M=>c Δ M fun b M1=>if b=true then t E Δ M1 else u E Δ M1
def xf(i:Nat) (te:TEd):TSd:=fun E Δ M=>te Δ M fun d M1=>E.nx (Δ.set i (some d)) M1
def Df(i:Nat) (te:TEd) (r:D->D->Option D):TSd:=fun E Δ M=>∃x,Δ[i]?=some (some x)/\te Δ M fun y M1=>∃z,r (rdM M1 x) (rdM M1 y)=some z/\E.nx (Δ.set i (some z)) M1
def wf(i:Nat) (t:TSd):TSd:=fun E Δ M=>∃a ds,Δ[i]?=some (some (.ref a))/\M a=some (.lst ds)/\t E (Δ.set i (some (.lst ds))) (kZ M a)
abbrev GD:=D->DE->Option DE
def PGd(X:Cx) (tg:J4) (g:GD):Prop:=∃gv:TG,PG X tg gv/\∀(d:D) (v:V) (σ:St) (Δ Δ':DE) (M:DH) (H:Hp) (Q:St->Hp->Prop),SR X.K M H σ Δ->HR X.K M H->Rep X.K M H d v->g d Δ=some Δ'->(∀ σ',SR X.K M H σ' Δ'->Q σ' H)->gv v σ H Q
def dW(i:Nat):GD:=fun d Δ=>some (Δ.set i (some d))
theorem bM{i:Nat}{x:Str}(hN:X.N.Nodup) (hi:X.N[i]?=some x) (hx:Loc X.env.scope x) (hf:X.fn x=true∨X.env.scope.names.lookup x=some .local:=by first|exact .inl rfl|exact .inr rfl|assumption):PGd X (.Name x pos) (dW i) :=
 ⟨j5 i,oo hN hi hx hf,fun d v σ Δ Δ' M H Q sr hr rv e k=>by cases e;exact k _ (sr.set i rv)⟩
abbrev GDs:=List D->DE->Option DE
def xS(X:Cx) (tgs:List J4) (g:GDs):Prop:=∃gv:TGs,PGs X tgs gv/\∀(ds:List D) (vs:List V) (σ:St) (Δ Δ':DE) (M:DH) (H:Hp) (Q:St->Hp->Prop),SR X.K M H σ Δ->HR X.K M H->ah X.K M H ds vs->g ds Δ=some Δ'->(∀ σ',SR X.K M H σ' Δ'->Q σ' H)->gv vs σ H Q
def sC:GDs:=fun ds Δ=>match ds with|[]=>some Δ|_=>none
def gT(g:GD) (gs:GDs):GDs:=fun ds Δ=>match ds with|[]=>none|d::r=>(g d Δ).bind fun Δ1=>gs r Δ1
def mG(g:GDs) (n:Nat):GD:=fun d Δ=>match d with|.tup ds=>if ds.length=n then g ds Δ else none|_=>none
theorem tD:xS X [] sC:=⟨C1,si,fun ds vs σ Δ Δ' M H Q sr hr rv e k=>by
 cases ds with
 |nil=>simp only[ah]at rv;subst rv;cases e;exact⟨rfl,k _ sr⟩
 |cons _ _=>cases e⟩
theorem fY{tg:J4}{tgs:List J4}{g:GD}{gs:GDs}(h1:PGd X tg g) (h2:xS X tgs gs)
  (hs:(P4 (tg::tgs) X.env).map (·.2)=X1 tg X.env::(P4 tgs X.env).map (·.2):=by rfl):xS X (tg::tgs) (gT g gs):=by
 obtain⟨g1,p1,k1⟩:=h1;obtain⟨g2,p2,k2⟩:=h2;refine⟨vb g1 g2,pQ p1 p2 hs,fun ds vs σ Δ Δ' M H Q sr hr rv e k=>?_⟩;cases ds with
 |nil=>cases e
 |cons d r =>
  simp only[ah]at rv;obtain⟨v,ws,rfl,h3,h4⟩:=rv;simp only[gT]at e;cases q:g d Δ with
  |none=>rw[q]at e;cases e
  |some Δ1 =>
   rw[q]at e;exact⟨v,ws,rfl,k1 d v σ Δ Δ1 M H _ sr hr h3 q fun σ1 sr1=>k2 r ws σ1 Δ1 Δ' M H Q sr1 hr h4 e k⟩
theorem tu{tgs:List J4}{kx:Nat}{g:GDs}{n:Nat}(hc:X.calm=true) (h:xS X tgs g) (hn:(P4 tgs X.env).length=n:=by rfl) (hst:(P4 tgs X.env).findIdx? (·.1)=none:=by rfl):PGd X (.Tuple tgs kx pos) (mG g n):=by
 obtain⟨g1,p1,k1⟩:=h;refine⟨Cp X.K n g1,vj hc p1 hn hst,fun d v σ Δ Δ' M H Q sr hr rv e k=>?_⟩;cases d with
 |tup ds =>
  simp only[mG]at e
  by_cases hl:ds.length=n
  ·rw[if_pos hl]at e;simp only[Rep]at rv;obtain⟨a,vs,rfl,ta,rl⟩:=rv;exact⟨a,vs,rfl,ta.sq,by rw[<-rl.length];exact hl,k1 ds vs σ Δ Δ' M H Q sr hr rl e k⟩
  ·rw[if_neg hl]at e;cases e
 |_=>cases e
def DG(te:TEd) (g:GD):TSd:=fun E Δ M=>te Δ M fun d M1=>∃ Δ',g d Δ=some Δ'/\E.nx Δ' M1
abbrev TId:=DE->DH->(List D->DH->Prop)->Prop
def ItD(K:o0) (J:It) (ds:List D) (M1:DH) (H1:Hp):Prop:=∀M2 H2,Ext M1 H1 M2 H2->HR K M2 H2->∀i,(∀d,ds[i]?=some d->J.go i H2/\∀x H',J.yld i H2 x H'->Ext M2 H2 M2 H'/\HR K M2 H'/\Rep K M2 H' d x)/\(ds.length<=i->J.stop i H2)
def upI(K:o0) (wi:TId):TI:=fun σ H R=>∃(Δ:DE) (M:DH) (R':List D->DH->Prop),SR K M H σ Δ/\HR K M H/\wi Δ M R'/\∀ds M1 J H1,R' ds M1->Ext M H M1 H1->HR K M1 H1->ItD K J ds M1 H1->R J H1
theorem upI.el{K:o0}{t:TId}{σ:St}{H:Hp}{Q:It->Hp->Prop}{P:Prop}(h:upI K t σ H Q) (f:∀(Δ:DE) (M:DH) (R:List D->DH->Prop),SR K M H σ Δ->HR K M H->t Δ M R->(∀ds M1 J H1,R ds M1->Ext M H M1 H1->HR K M1 H1->ItD K J ds M1 H1->Q J H1)->P):P:=by
 obtain⟨x1,x2,x3,a,b,c,d⟩:=h;exact f x1 x2 x3 a b c d
def PId(X:Cx) (tg iter:J4) (wi:TId):Prop:=PI X tg iter (upI X.K wi)
theorem PI.conv{tg iter:J4}{w w':TI}(h:PI X tg iter w) (k:∀ σ H R,w' σ H R->w σ H R):PI X tg iter w':=fun p s σ H R I q=>h p s σ H R I (k σ H R q)
variable{tg iter:J4}
def gP(lo:Int) (n:Nat):List D:=(W0 n).map fun(k:Nat)=>.int (lo+(k:Int))
theorem ig{lo:Int}{n i:Nat}{d:D}(h:(gP lo n)[i]?=some d):i<n/\d=.int (lo+i):=by
 unfold gP at h;rw[P6]at h
 by_cases hi:i<n
 ·rw[List.getElem?_range hi]at h;cases h;exact⟨hi,rfl⟩
 ·rw[List.getElem?_eq_none (by simp;omega)]at h;cases h
theorem yY{K:o0}{lo:Int}{n:Nat}{M1:DH}{H1:Hp}:ItD K (Itr lo n) (gP lo n) M1 H1:=fun M2 H2 e2 hr2 i=>⟨fun d hd=>by
  obtain⟨h1,rfl⟩:=ig hd;refine⟨h1,fun x H' ⟨eH,y⟩=>?_⟩;subst eH;subst y;exact⟨Ext.refl _ _,hr2,by simp[Rep]⟩,fun hl=>by
  show n<=i;simpa[gP]using hl⟩
def vL(ta:TAd):TId:=fun Δ M R=>ta Δ M fun ds M1=>∃j:Int,ds=[.int j]/\-(2 ^ 62)<=j/\j<2 ^ 62/\R (gP 0 j.toNat) M1
def cN(g:GD) (tb:TSd) (E:fu):List D->DE->DH->Prop
 |[],Δ,M=>E.nx Δ M
 |d::ds,Δ,M=>∃ Δ',g d Δ=some Δ'/\tb { E with nx:=cN g tb E ds,ct:=cN g tb E ds,bk:=E.nx } Δ' M
def Dk(wi:TId) (g:GD) (tb:TSd):TSd:=fun E Δ M=>wi Δ M fun ds M1=>cN g tb E ds Δ M1
def vm(c:TTd) (tb:TSd):TSd:=fun E Δ M=>∃W:Nat->DE->DH->Prop,(∃m,W m Δ M)/\∀m Δ M,W m Δ M->c Δ M fun b M1=>if b=true then tb { E with nx:=fun Δ' M'=>∃m',m'<m/\W m' Δ' M',ct:=fun Δ' M'=>∃m',m'<m/\W m' Δ' M',bk:=E.nx } Δ M1 else E.nx Δ M1
end
def sm:D->Prop
 |.tup ds=>ds.length<=F3
 |.lst ds=>ds.length<=F3
 |.scr ds=>ds.length<=F3
 |_=>True
section
variable{X:Cx}{a b c e:J4}{es:List J4}{te ta tb:TEd}{pos:Pos}{tg iter elt:J4}
theorem aJ.len{K:o0}{aa:List (H0×Obj)}{σ:St}{H:Hp}{s:F1}{M:DH}{d:D}{v:V}(I:Inv X aa σ H s) (h:Rep X.K M H d v):sm d:=by
 cases d with
 |tup ds =>
  simp only[Rep]at h;obtain⟨a,vs,e,t,r⟩:=h;obtain⟨_,_,_,z⟩:=I.tuple t.sq;simp only[sm];rw[r.length];exact z
 |lst ds =>
  simp only[Rep]at h;obtain⟨a,vs,e,t,r⟩:=h;obtain⟨_,_,_,z⟩:=I.list (SqL.of t.1);simp only[sm];rw[r.length];exact z
 |scr ds =>
  simp only[Rep]at h;obtain⟨a,vs,e,t,r⟩:=h;obtain⟨_,_,_,z⟩:=I.list t.sq;simp only[sm];rw[r.length];exact z
 |_=>trivial
noncomputable def bQ:List Bool->DE->DE
 |true::ms,v::σ=>v::bQ ms σ
 |false::ms,_::σ=>none::bQ ms σ
 |[],_::σ=>none::bQ [] σ
 |_,[]=>[]
def lW(ms:List Bool) (k:Nat) (Δ:DE):DE:=bQ ms Δ++J1 k none
theorem cu:∀(ms:List Bool) (σ:DE),(bQ ms σ).length=σ.length
 |true::ms,v::σ=>by simp[bQ,cu ms σ]
 |false::ms,_::σ=>by simp[bQ,cu ms σ]
 |[],_::σ=>by simp[bQ,cu [] σ]
 |[],[]=>by simp[bQ]
 |true::_,[]=>by simp[bQ]
 |false::_,[]=>by simp[bQ]
theorem gk:∀{ms:List Bool}{σ:DE}{i:Nat}{v:D},(bQ ms σ)[i]?=some (some v)->ms[i]?=some true/\σ[i]?=some (some v)
 |true::ms,v::σ,0,x,h=>by simpa[bQ]using h
 |true::ms,v::σ,i+1,x,h=>by
  have:=gk (ms:=ms) (σ:=σ) (i:=i) (v:=x) (by simpa[bQ]using h);simpa using this
 |false::ms,_::σ,0,x,h=>by simp[bQ]at h
 |false::ms,_::σ,i+1,x,h=>by
  have:=gk (ms:=ms) (σ:=σ) (i:=i) (v:=x) (by simpa[bQ]using h);simpa using this
 |[],_::σ,0,x,h=>by simp[bQ]at h
 |[],_::σ,i+1,x,h=>by
  have:=gk (ms:=[]) (σ:=σ) (i:=i) (v:=x) (by simpa[bQ]using h);simpa using this
 |[],[],_,_,h=>by simp[bQ]at h
 |true::_,[],_,_,h=>by simp[bQ]at h
 |false::_,[],_,_,h=>by simp[bQ]at h
theorem gR:∀{ms:List Bool}{σ:St}{i:Nat}{v:V},ms[i]?=some true->σ[i]?=some (some v)->(bw ms σ)[i]?=some (some v)
 |true::ms,v::σ,0,x,h,h2=>by simpa[bw]using h2
 |true::ms,v::σ,i+1,x,h,h2=>by
  have:=gR (ms:=ms) (σ:=σ) (i:=i) (v:=x) (by simpa using h) (by simpa using h2);simpa[bw]using this
 |false::ms,_::σ,0,x,h,h2=>by simp at h
 |false::ms,_::σ,i+1,x,h,h2=>by
  have:=gR (ms:=ms) (σ:=σ) (i:=i) (v:=x) (by simpa using h) (by simpa using h2);simpa[bw]using this
 |[],_,_,_,h,_=>by simp at h
 |_::_,[],_,_,_,h=>by simp at h
theorem SR.comp{K:o0}{M:DH}{H:Hp}{σ:St}{Δ:DE}(ms:List Bool) (k:Nat) (h:SR K M H σ Δ):SR K M H (cW ms k σ) (lW ms k Δ):=by
 refine⟨by simp[cW,lW,bj,cu,h.1],fun i d q=>?_⟩;unfold lW at q
 by_cases hi:i<(bQ ms Δ).length
 ·rw[L9 hi]at q;obtain⟨m,e⟩:=gk q;obtain⟨v,ev,rv⟩:=h.2 i d e;refine⟨v,?_,rv⟩;have:=gR m ev;unfold cW;rw[L9 (by rw[bj,h.1,<-cu ms];exact hi)];exact this
 ·rw[Q6 (by lia),S8]at q
  split at q<;>cases q
def c9(g:GD) (tc:TTd) (te:TEd):List D->DE->DH->List D->(List D->DH->Prop)->Prop
 |[],_,M,acc,Q=>Q acc M
 |d::ds,Δ,M,acc,Q=>∃ Δ',g d Δ=some Δ'/\tc Δ' M fun b M1=>if b=true then te Δ' M1 fun y M2=>c9 g tc te ds Δ' M2 (acc++[y]) Q else c9 g tc te ds Δ' M1 acc Q
def dLc(ms:List Bool) (k:Nat) (wi:TId) (g:GD) (tc:TTd) (te:TEd):TEd:=fun Δ M Q=>wi Δ M fun ds M1=>ds.length<=F3/\c9 g tc te ds (lW ms k Δ) M1 [] fun ys M2=>Q (.lst ys) M2
def Ec(X:Cx) (ifs:List J4) (t:TTd):Prop:=PIf X ifs (upT X.K t)
def uP:TTd:=fun _ M Q=>Q true M
abbrev kX(K:o0) (g:GD) (gv:TG):Prop:=∀(d:D) (v:V) (σ:St) (Δ Δ':DE) (M:DH) (H:Hp) (Q:St->Hp->Prop),SR K M H σ Δ->HR K M H->Rep K M H d v->g d Δ=some Δ'->(∀ σ',SR K M H σ' Δ'->Q σ' H)->gv v σ H Q
theorem tS{K:o0}{g:GD}{tc:TTd}{te:TEd}{gv:TG}(kg:kX K g gv) {J:It}{ds:List D}{M1:DH}{H1:Hp}(it:ItD K J ds M1 H1) (hr1:HR K M1 H1) (hz:ds.length<=F3) {R:List D->DH->Prop}{σ:St}{Δ:DE}(sr:SR K M1 H1 σ Δ) (q:c9 g tc te ds Δ M1 [] R) :
  ∃(W:Nat->Nat->List V->St->Hp->Prop) (Z:List V->St->Hp->Prop),(∃m,W 0 m [] σ H1)/\gX J gv (upT K tc) (jd (up K te)) W Z/\∀ys σ' H',Z ys σ' H'->∃M' acc,Ext M1 H1 M' H'/\HR K M' H'/\ah K M' H' acc ys/\R acc M':=by
 refine⟨fun i m ys σ' H'=>∃ Δ' M' acc,m=ds.length-i/\i<=ds.length/\Ext M1 H1 M' H'/\HR K M' H'/\SR K M' H' σ' Δ'/\ah K M' H' acc ys/\acc.length<=i/\c9 g tc te (ds.drop i) Δ' M' acc R,_,
  ⟨ds.length,_,M1,[],by simp,P9 _,Ext.refl _ _,hr1,sr,ah.nil,by simp,q⟩,?_,fun _ _ _ z=>z⟩
 rintro i m ys σ2 H2 ⟨Δ2,M2,acc,rfl,hi2,e2,hr2,sr2,ra,la,f2⟩;have hl:ys.length<=F3:=by rw[<-ra.length];lia
 refine⟨hl,?_⟩;obtain⟨go,stop⟩:=it M2 H2 e2 hr2 i
 by_cases hlt:i<ds.length
 ·have hd:ds[i]?=some ds[i]:=by simp[hlt]
  obtain⟨g1,y1⟩:=go _ hd;rw[List.drop_eq_getElem_cons hlt]at f2;simp only[c9]at f2;obtain⟨Δ3,eg,f3⟩:=f2;refine .inr ⟨g1,fun x H' hy=>?_⟩;obtain⟨e3,hr3,rx⟩:=y1 x H' hy;refine kg _ x σ2 Δ2 Δ3 M2 H' _ (sr2.ext e3) hr3 rx eg fun σ3 sr3=>?_;refine⟨Δ3,M2,_,sr3,hr3,f3,fun b M4 H4 q4 e4 hr4=>?_⟩;cases b with
  |true =>
   simp only[if_true]at q4 ⊢;refine⟨Δ3,M4,_,sr3.ext e4,hr4,q4,fun y M5 v5 H5 q5 e5 hr5 rv5=>?_⟩;refine⟨ds.length-(i+1),by lia,Δ3,M5,acc++[y],rfl,hlt,((e2.trans e3).trans e4).trans e5,hr5,(sr3.ext e4).ext e5,(((ra.ext e3).ext e4).ext e5).append (ah.cons rv5 ah.nil),by simp;lia,q5⟩
  |false =>
   simp only[O4,if_false]at q4 ⊢;exact⟨ds.length-(i+1),by lia,Δ3,M4,acc,rfl,hlt,(e2.trans e3).trans e4,hr4,sr3.ext e4,(ra.ext e3).ext e4,by lia,q4⟩
 ·rw[List.drop_eq_nil_of_le (by lia)]at f2;exact .inl ⟨stop (by lia),M2,acc,e2,hr2,ra,f2⟩
theorem nP{K:o0}{wi:TId}{g:GD}{tc:TTd}{te:TEd}{gv:TG}{ms:List Bool}{kk:Nat}(kg:kX K g gv) :
  ∀ σ H Q,up K (dLc ms kk wi g tc te) σ H Q->tLc ms kk (upI K wi) gv (upT K tc) (up K te) σ H Q:=by
 rintro σ H Q ⟨Δ,M,R,sr,hr,q,k⟩;refine⟨Δ,M,_,sr,hr,q,fun ds M1 J H1 ⟨hz,q1⟩ e1 hr1 it=>?_⟩;obtain⟨W,Z,hW,hC,hZ⟩:=tS kg it hr1 hz ((sr.ext e1).comp ms kk) q1;refine⟨W,Z,hW,hC,fun ys σ' H' p z hp=>?_⟩;obtain⟨M',acc,e',hr',ra,q'⟩:=hZ _ _ _ z;refine k _ M' _ _ q' ((e1.trans e').trans (Ext.new hr' hp)) (hr'.new hp) ?_;simp only[Rep];exact⟨p,ys,rfl,⟨aA,hr'.fresh hp⟩,ra.ext (Ext.new hr' hp)⟩
variable{scope:R0}{cl:List (Str×H0)}{ms:List Bool}{ag:List Str}{ifs:List J4}
def PGa(X:Cx) (scope:R0) (cl:List (Str×H0)) (ag:List Str) (tg:J4) (g:GD):Prop:=∃gv:TG,(∀C s H ex,PG (au X scope cl (X.N++ag) C s H ex) tg gv)/\kX X.K g gv
theorem ay{i:Nat}{x:Str}{pos:Pos}(hN:(X.N++ag).Nodup) (hi:(X.N++ag)[i]?=some x) (hx:(Z5 scope X.env).names.lookup x=some .local):PGa X scope cl ag (.Name x pos) (dW i) :=
 ⟨j5 i,fun C s H ex=>oo hN hi (.inl hx) (.inr hx),fun d v σ Δ Δ' M H Q sr hr rv e k=>by cases e;exact k _ (sr.set i rv)⟩
end
abbrev SpD:=List D->DH->(D->DH->Prop)->Prop
def spD(K:o0) (n:Nat) (S:SpD):Sp:=fun vs H Q _=>∃(ds:List D) (M:DH) (R:D->DH->Prop),ds.length=n/\ah K M H ds vs/\HR K M H/\S ds M R/\∀d M' v H',R d M'->Ext M H M' H'->HR K M' H'->Rep K M' H' d v->Q v H'
theorem rZ{K:o0}{n:Nat}{S:SpD}{vs:List V}{H:Hp}{Q:VK}{E:XK}(h:spD K n S vs H Q E):vs.length=n:=by
 obtain⟨ds,M,R,hl,r,_⟩:=h;rw[<-r.length];exact hl
def eP(N:List Str) (ds:List D):DE:=ds.map some++J1 (N.length-ds.length) none
theorem pC{K:o0}{M:DH}{H:Hp}{N:List Str}:∀{ds:List D}{vs:List V},ah K M H ds vs->SR K M H (fw N vs) (eP N ds):=by
 intro ds vs h;have hl:=h.length;refine⟨by simp[fw,eP,hl],fun i d q=>?_⟩;unfold eP at q
 by_cases hi:i<ds.length
 ·rw[L9 (by simpa using hi),P6]at q;cases e:ds[i]? with
  |none=>rw[e]at q;cases q
  |some d' =>
   rw[e]at q;cases q;obtain⟨v,gv,rv⟩:=h.get e;refine⟨v,?_,rv⟩;unfold fw;rw[L9 (by simp;lia),P6,gv];rfl
 ·rw[Q6 (by simpa using hi),S8]at q
  split at q<;>cases q
section
variable{P:K7}{w:P5}{K:o0}{mg:Str->Option F0}{base:K2}{f:H0}{fd:V2}
theorem Fun.okD{x qual:Str}{st:ab0}{f:H0}{fd:V2}{N ps:List Str}{k n:Nat}{S:SpD}(F:Fun K x qual st f fd) (hn:ps.length=n) (Sc:aB N ps (ai st))
  (hbody:∀ (cdv:F0) (A:M9) (outer:List Env) (s:F1) (H:Hp) (E:XK),cI k (A.deeper (ac4 qual (ai st) s.heap.objs.size f cdv)) →
   ∃t:TSd,xB (nO CX0 P w K mg base N qual (ai st) f cdv A outer s H E).nox (cD st) t/\∀ds M R,ds.length=n->S ds M R->t { nx:=fun _ M'=>R .non M',rt:=R } (eP N ds) M):bq P w K mg base CX0 (k+1) f fd ps (spD K n S):=by
 refine F.ok Sc (fun vs H Q E h=>by rw[hn];exact rZ h) (fun cdv A outer s H vs Q E hr h=>?_);obtain⟨t,ht,hq⟩:=hbody cdv A outer s H E hr;obtain⟨ds,M,R,hl,r,hrr,q,k'⟩:=h;refine⟨_,ht,eP N ds,M,_,pC r,hrr,hq ds M R hl q,⟨fun Δ' M' σ' H' q' e' hr' _=>k' .non M' .non H' q' e' hr' (by simp[Rep]),fun _ _ _ _ q'=>U7 q',fun _ _ _ _ q'=>U7 q',fun d M' v H' q' e' hr' rv=>k' d M' v H' q' e' hr' rv⟩⟩
end
section
variable{X:Cx}{a b c e:J4}{es:List J4}{te ta tb:TEd}{t:TAd}{pos:Pos}
def pI(n:Nat) (S:SpD) (t:TAd):TEd:=fun Δ M Q=>t Δ M fun ds M1=>ds.length=n/\S ds M1 Q
theorem CG{k:Nat}{f:H0}{fd:V2}{ps:List Str}{n:Nat}{S:SpD}{x:Str}{p:Pos}(F:bq X.prog X.w X.K X.mg X.base CX0 k f fd ps (spD X.K n S)) (hr:cI k X.A) (hg:Gl X x) (hm:X.mg x=some (.ref f)) (hk:W5 X.K (.ref f)=true) (hb:ef X.K fd ps [])
  (ha:PAd X (e::es) t) (hdb:(x==("__debug__":Str))=false:=by decide) (he:J5 (e::es) X.env=(false,V7 e X.env)::J5 es X.env:=by rfl) (hpl:(V8 pos (J5 es X.env)).any (·.1)=false:=by rfl) :
  PEd X (.Call (.Name x p) (e::es) [] pos) (pI n S t) :=
 (zK F hr hg hm hk hb .nil DX ha hdb he hpl).conv fun σ H Q hup => hup.el fun Δ M R sr hr q k => ⟨Δ,M,_,sr,hr,q,fun ds M1 vs H1 ⟨hl,q1⟩ e1 hr1 rv => by
  dsimp only;rw[Z0];exact⟨ds,M1,R,hl,rv,hr1,q1,fun d M' v H' q' e' hr' rv'=>k d M' v H' q' (e1.trans e') hr' rv'⟩⟩
def AH(M1 M2:DH) (d d2:D):Prop:=d2=d∨∃a l,d=.ref a/\M1 a=some (.lst l)/\M2 a=none/\d2=.lst l
theorem pF{K:o0}{M1 M2:DH}{H:Hp}(hr:HR K M1 H) (hle:LeM M2 M1):∀{ds ds2:List D}{vs:List V},P8 (AH M1 M2) ds ds2->ah K M1 H ds vs->ah K M2 H ds2 vs
 |_,_,_,.nil,h=>by simp only[ah]at h ⊢;exact h
 |_,_,_,.cons h1 t,h=>by
  simp only[ah]at h;obtain⟨v,ws,rfl,h3,h4⟩:=h;refine ah.cons ?_ (pF hr hle t h4);rcases h1 with rfl|⟨a,l,rfl,e1,e2,rfl⟩
  ·exact h3.ext (Ext.le hle)
  ·simp only[Rep]at h3;subst h3;exact Rep.froze hr hle e1 e2
theorem qf{M1:DH}:∀{ds:List D},P8 (AH M1 noM) ds (ds.map (rdM M1))
 |[]=>.nil
 | d :: ds => .cons (by
   cases d with
   |ref a =>
    simp only[rdM];cases q:M1 a with
    |none=>exact .inl rfl
    |some o=>cases o with|lst l=>exact .inr ⟨a,l,rfl,q,rfl,rfl⟩|dK _=>exact .inl rfl|dT _=>exact .inl rfl|dKr _ _ _=>exact .inl rfl|ins _ _=>exact .inl rfl|ext _ _=>exact .inl rfl
   |_=>exact .inl rfl) qf
def Cf(to te:TEd):TEd:=fun Δ M Q=>to Δ M fun o M1=>∃a l,o=.ref a/\M1 a=some (.lst l)/\te Δ M1 fun d M2=>∃ds,M2 a=some (.lst ds)/\ds.length<F3/\Q .non (az M2 a (.lst (ds++[d])))
end
def ItW(n:Nat) (Vp:Nat->V->Prop):It:=⟨fun i _=>i<n,fun i H x H'=>H'=H/\Vp i x,fun i _=>n<=i⟩
theorem ux{P:K7}{w:P5}{K:o0}{tg:J4}{it:H0}{n:Nat}{Pv:Nat->F0->Prop}{St:Nat->K2->Prop}{ty:String}{Vp:Nat->V->Prop}
  (W:∀A:M9,A.handled=none->Walks P w A it [it] [it] n Pv St) (ho:∀i h,St i h->∃o,h.get? it=some o/\o.cls=.type ty/\∃vs,o.data=.fields vs)
  (hn:["enumerate","zip","dict_itemiterator","dict_reverseitemiterator","odict_iterator","itertools.zip_longest","itertools.pairwise"].contains ty=false)
  (hv:∀i u,Pv i u->∃x,aD x u/\Vp i x) (hself:∀(A:M9) (i:Nat) (s:F1) (Q:F0->F1->Prop) (E:F0->F1->Prop),St i s.heap->Q (.ref it) s->J3 (K1 P w) A (ac3 (.ref it)) Q E s):iJ P w K tg (ItW n Vp) [it] it (fun i h=>i<=n/\St i h) where
 mem:=by simp
 obj:=fun i h st b hb=>by
  have e:b=it:=by simpa using hb
  subst e;obtain⟨o,e,c,vs,d⟩:=ho i h st.2;exact⟨o,e,fun v z=>by rw[d]at z;cases z⟩
 keep:=fun i h h' st k=>⟨st.1,(W { handled:=none } rfl).frame i h h' st.2 k⟩
 item:=by
  intro X hP hw hK hc i aa s σ H E I hf st hg;subst hP hw hK;obtain⟨f0,f1,f2,f3,f4,f5⟩:=hf it (by simp);refine(W X.A (I.ok.hd hc)).item i s _ _ hg st.2 fun v h' tk pv st' kk=>?_;have I1:Inv X aa σ H { s with heap:=h',toks:=tk }:=I.turned (fun b o hb e=>kk b o (by simpa using hb) e) f0 f1 f3 f4 f5;obtain⟨x,rx,vx⟩:=hv i v pv;obtain⟨o,e,c,vs,d⟩:=ho _ _ st';exact⟨v,rfl,nc (s:={ s with heap:=h',toks:=tk }) e c d hn ⟨x,H,I1,rx,⟨rfl,vx⟩,⟨hg,st'⟩,fun b hb=>(hf b hb).1⟩⟩
 done:=by
  intro X hP hw hK hc i aa s σ H E I hf st hg;subst hP hw hK;obtain⟨f0,f1,f2,f3,f4,f5⟩:=hf it (by simp);have e:i=n:=Nat.le_antisymm st.1 hg;subst e;exact(W X.A (I.ok.hd hc)).done s _ _ st.2 fun h' tk kk=>⟨rfl,I.turned (fun b o hb e=>kk b o (by simpa using hb) e) f0 f1 f3 f4 f5⟩
 self:=fun A i s Q E st h=>hself A i s Q E st.2 h
section
variable{X:Cx}{a b c e:J4}{es:List J4}{te ta tb:TEd}{t:TAd}{pos:Pos}{tg iter:J4}
noncomputable def gb(x:Str):List D:=x.cps.toList.map fun c=>.str ⟨#[c]⟩
theorem tG{aa:List (H0×Obj)}{σ:St}{H:Hp}{s:F1}{x:Str}{t:Tok}{R:It->Hp->Prop}(I:Inv X aa σ H s) (ty:String) (hn:["enumerate","zip","dict_itemiterator","dict_reverseitemiterator","odict_iterator","itertools.zip_longest","itertools.pairwise"].contains ty=false)
  (W:∀A:M9,A.handled=none->Walks X.prog X.w A s.heap.objs.size [s.heap.objs.size] [s.heap.objs.size] x.cps.size (SignAt x) (fun i h=>h.IsStrIter s.heap.objs.size ty x t i))
  (hself:∀(A:M9) (i:Nat) (s':F1) (Q:F0->F1->Prop) (E:F0->F1->Prop),s'.heap.IsStrIter s.heap.objs.size ty x t i->Q (.ref s.heap.objs.size) s'->J3 (K1 X.prog X.w) A (ac3 (.ref s.heap.objs.size)) Q E s')
  (q:R (ItW x.cps.size fun i v=>∃c,x.cps[i]?=some c/\v=.str ⟨#[c]⟩) H):PIE X aa σ tg R (.ref s.heap.objs.size) { s with heap:=s.heap.push { cls:=.type ty,data:=.fields #[.str x t,.int 0 0] } }:=by
 have I1:Inv X aa σ H { s with heap:=s.heap.push { cls:=.type ty,data:=.fields #[.str x t,.int 0 0] } }:=I.kept (t':=s.toks) fun b o e=>F2 _ e;refine⟨s.heap.objs.size,[s.heap.objs.size],_,_,H,rfl,I1,ux W (fun i h st=>?_) hn (fun i u ⟨c,t',e,ev⟩=>⟨.str ⟨#[c]⟩,⟨t',ev⟩,c,e,rfl⟩) hself,⟨P9 _,_,F6 _ rfl,rfl,rfl⟩,fun b hb=>?_,q⟩
 ·obtain⟨o,e,c,d⟩:=st;exact⟨o,e,c,_,d⟩
 ·have e:b=s.heap.objs.size:=by simpa using hb
  subst e;exact I.fpOk (F8 _) (I.hok.fresh (F8 _))
end
section
variable{X:Cx}{a b c e:J4}{es:List J4}{te ta tb:TEd}{t:TAd}{pos:Pos}
def eqF(x y:D):Option D:=if dLe x 60=true/\dLe y 60=true then some (.bl (eqD x y))else none
theorem xh{x y z:D}(h:eqF x y=some z):dLe x 60=true/\dLe y 60=true/\z=.bl (eqD x y):=by
 unfold eqF at h
 by_cases hc:dLe x 60=true/\dLe y 60=true
 ·rw[if_pos hc]at h;cases h;exact⟨hc.1,hc.2,rfl⟩
 ·rw[if_neg hc]at h;cases h
theorem uh(hu:X.A.units+64<aa7):bC X (L7 .Eq) eqF:=by
 intro aa s σ H M x y v u dx dy dz Q I hr rx ry r1 r2 e k;obtain⟨h1,h2,rfl⟩:=xh e;exact(iP I 60 (A:=X.A) (by lia) h1 h2 r1 r2 rx ry).2.1 X.prog X.w X.xe _ ⟨.bl (eqD dx dy),H,I,rfl,k _ H (Ext.refl _ _) hr (by simp[Rep])⟩
def inD(neg:Bool) (x y:D):Option D:=match y with
 |.lst ds=>if aV x=true/\ds.all aV=true then some (.bl (xor neg (ds.any fun d=>eqD d x)))else none
 |.tup ds=>if aV x=true/\ds.all aV=true then some (.bl (xor neg (ds.any fun d=>eqD d x)))else none
 |_=>none
theorem BM{K:o0}{M:DH}{H:Hp}{d:D}{v:V}(h:aV d=true) (r:Rep K M H d v):v=toV d/\gf v=true:=by
 cases d<;>first|(simp only[Rep]at r;subst r;exact⟨rfl,rfl⟩)|cases h
theorem yy{x y:D}(hx:aV x=true) (hy:aV y=true):eqV (toV x) (toV y)=eqD x y:=by
 cases x<;>cases y<;>first|(simp[aV]at hx;done)|(simp[aV]at hy;done)|(simp[toV,eqV,eqD];done)
theorem fG{K:o0}{M:DH}{H:Hp}{x:D}(hx:aV x=true):∀{ds:List D}{vs:List V},ah K M H ds vs->ds.all aV=true->vs.all gf=true/\inV (toV x) vs=ds.any fun d=>eqD d x
 |[],_,h,_=>by simp only[ah]at h;subst h;simp[inV]
 |d::ds,_,h,ha=>by
  simp only[ah]at h;obtain⟨v,ws,rfl,h3,h4⟩:=h;rw[V6,K0]at ha;obtain⟨e1,e2⟩:=BM ha.1 h3;obtain⟨e3,e4⟩:=fG hx h4 ha.2;subst e1;refine⟨by rw[V6,e2,e3];rfl,?_⟩;unfold inV at e4 ⊢;rw[P1,P1,e4,yy ha.1 hx]
theorem aJ.scal{K:o0}{M:DH}{H:Hp}{d:D}{v:V}(h:aV d=true) (r:aJ K M H d v):v=toV d/\gf v=true:=by
 cases d<;>first|(simp only[aJ,Rep]at r;subst r;exact⟨rfl,rfl⟩)|cases h
theorem FT:bC X (L7 .In) (inD false):=bC.of uJ fun H M x y dx dy dz Q hr r1 r2 e q=>by
 cases dy with
 |lst ds =>
  simp only[inD]at e
  by_cases hc:aV dx=true/\ds.all aV=true
  ·rw[if_pos hc]at e;cases e;obtain⟨l,vs,rfl,sq,rl⟩:=r2;obtain⟨e1,e2⟩:=aJ.scal hc.1 r1;obtain⟨e3,e4⟩:=fG hc.1 rl hc.2;subst e1;refine⟨l,vs,rfl,.inl (SqL.of sq),e2,e3,q _ H (Ext.refl _ _) hr ?_⟩;rw[e4];simp[Rep]
  ·rw[if_neg hc]at e;cases e
 |tup ds =>
  simp only[inD]at e
  by_cases hc:aV dx=true/\ds.all aV=true
  ·rw[if_pos hc]at e;cases e;obtain⟨l,vs,rfl,sq,rl⟩:=r2;obtain⟨e1,e2⟩:=aJ.scal hc.1 r1;obtain⟨e3,e4⟩:=fG hc.1 rl hc.2;subst e1;refine⟨l,vs,rfl,.inr sq,e2,e3,q _ H (Ext.refl _ _) hr ?_⟩;rw[e4];simp[Rep]
  ·rw[if_neg hc]at e;cases e
 |_=>cases e
theorem yX:bC X (L7 .NotIn) (inD true):=bC.of nK fun H M x y dx dy dz Q hr r1 r2 e q=>by
 cases dy with
 |lst ds =>
  simp only[inD]at e
  by_cases hc:aV dx=true/\ds.all aV=true
  ·rw[if_pos hc]at e;cases e;obtain⟨l,vs,rfl,sq,rl⟩:=r2;obtain⟨e1,e2⟩:=aJ.scal hc.1 r1;obtain⟨e3,e4⟩:=fG hc.1 rl hc.2;subst e1;refine⟨l,vs,rfl,.inl (SqL.of sq),e2,e3,q _ H (Ext.refl _ _) hr ?_⟩;rw[e4];simp[Rep]
  ·rw[if_neg hc]at e;cases e
 |tup ds =>
  simp only[inD]at e
  by_cases hc:aV dx=true/\ds.all aV=true
  ·rw[if_pos hc]at e;cases e;obtain⟨l,vs,rfl,sq,rl⟩:=r2;obtain⟨e1,e2⟩:=aJ.scal hc.1 r1;obtain⟨e3,e4⟩:=fG hc.1 rl hc.2;subst e1;refine⟨l,vs,rfl,.inr sq,e2,e3,q _ H (Ext.refl _ _) hr ?_⟩;rw[e4];simp[Rep]
  ·rw[if_neg hc]at e;cases e
 |_=>cases e
def pY(f:D->Option D):List D->Option D
 |[d]=>f d
 |_=>none
theorem m9{K:o0}{M:DH}{H:Hp}{d:D}{xs:List V}(h:P8 (aJ K M H) [d] xs):∃v,xs=[v]/\aJ K M H d v:=by
 cases h with
 |cons r t=>cases t;exact⟨_,rfl,r⟩
theorem de{f:D->Option D}{ds:List D}{z:D}(h:pY f ds=some z):∃d,ds=[d]/\f d=some z:=by
 match ds,h with
 |[d],h=>exact⟨d,rfl,h⟩
noncomputable def uT:D->Option D
 |.tup ds=>some (.int ds.length)
 |.lst ds=>some (.int ds.length)
 |.scr ds=>some (.int ds.length)
 |.str x=>if x.length<=F3 then some (.int x.length)else none
 |_=>none
theorem cK:ck X (.builtin "len") (pY uT):=ck.of (dP.or nY nJ) fun H M xs ds dz Q hr rp e q=>by
 obtain⟨d,rfl,e0⟩:=de e;clear e;have e:=e0;clear e0;obtain⟨v,rfl,r⟩:=m9 rp;cases d with
 |tup ds=>cases e;obtain⟨l,vs,rfl,sq,rl⟩:=r;exact .inl ⟨l,vs,rfl,.inr sq,q _ H (Ext.refl _ _) hr (by rw[<-rl.length];simp[Rep])⟩
 |lst ds=>cases e;obtain⟨l,vs,rfl,sq,rl⟩:=r;exact .inl ⟨l,vs,rfl,.inl (SqL.of sq),q _ H (Ext.refl _ _) hr (by rw[<-rl.length];simp[Rep])⟩
 |scr ds=>cases e;obtain⟨l,vs,rfl,sq,rl⟩:=r;exact .inl ⟨l,vs,rfl,.inl sq,q _ H (Ext.refl _ _) hr (by rw[<-rl.length];simp[Rep])⟩
 |str x =>
  simp only[uT]at e
  by_cases hz:x.length<=F3
  ·rw[if_pos hz]at e;cases e;exact .inr ⟨x,by rw[mh r],hz,q _ H (Ext.refl _ _) hr (by simp[Rep])⟩
  ·rw[if_neg hz]at e;cases e
 |_=>cases e
def Fe:D->Option D
 |.int i=>some (.int (if i<0 then -i else i))
 |_=>none
def B8:D->Option D
 |.lst ds=>some (.tup ds)
 |.tup ds=>some (.tup ds)
 |_=>none
theorem gz:ck X (.type "tuple") (pY B8):=ck.of ml fun H M xs ds dz Q hr rp e q=>by
 obtain⟨d,rfl,e0⟩:=de e;clear e;have e:=e0;clear e0;obtain⟨v,rfl,r⟩:=m9 rp;cases d with
 |lst ds=>cases e;obtain⟨l,vs,rfl,sq,rl⟩:=r;exact⟨l,vs,rfl,.inl ⟨SqL.of sq,fun p hp=>oP hr hp rl q⟩⟩
 |tup ds=>cases e;have t1:=aJ.tup hr r;obtain⟨l,vs,rfl,sq,rl⟩:=r;exact⟨l,vs,rfl,.inr ⟨sq,q _ H (Ext.refl _ _) hr t1⟩⟩
 |_=>cases e
def Dx:D->Option D
 |.lst ds=>some (.lst ds)
 |.scr ds=>some (.lst ds)
 |.tup ds=>some (.lst ds)
 |_=>none
theorem C3:ck X (.type "list") (pY Dx):=ck.of n8 fun H M xs ds dz Q hr rp e q=>by
 obtain⟨d,rfl,e0⟩:=de e;clear e;have e:=e0;clear e0;obtain⟨v,rfl,r⟩:=m9 rp;cases d with
 |lst ds=>cases e;obtain⟨l,vs,rfl,sq,rl⟩:=r;exact⟨l,vs,rfl,.inl (SqL.of sq),fun p hp=>dY hr hp rl q⟩
 |scr ds=>cases e;obtain⟨l,vs,rfl,sq,rl⟩:=r;exact⟨l,vs,rfl,.inl sq,fun p hp=>dY hr hp rl q⟩
 |tup ds=>cases e;obtain⟨l,vs,rfl,sq,rl⟩:=r;exact⟨l,vs,rfl,.inr sq,fun p hp=>dY hr hp rl q⟩
 |_=>cases e
def yo:D->Bool
 |.bl _=>true
 |_=>false
def yP:D->Bool
 |.bl b=>b
 |_=>false
def zA:D->Option D
 |.lst ds=>if ds.all yo=true then some (.bl (ds.all yP))else none
 |_=>none
theorem ud{p:Nat->Bool}{q:D->Bool}:∀{ds:List D},(∀i d,ds[i]?=some d->p i=q d)->(W0 ds.length).all p=ds.all q:=by
 intro ds h;rw[Bool.eq_iff_iff,Q9,Q9];constructor
 ·intro hh d hd;obtain⟨i,hi,e⟩:=List.mem_iff_getElem.mp hd;rw[<-h i d (by rw[List.getElem?_eq_getElem hi,e])];exact hh i (Z8.mpr hi)
 ·intro hh i hi;have hi:=Z8.mp hi;rw[h i ds[i] (by simp[hi])];exact hh _ (List.getElem_mem hi)
theorem wy{K:o0}{M:DH}{H:Hp}{ds:List D}{vs:List V}{us:List F0}(rl:ah K M H ds vs) (rv:ao vs us) (hb:ds.all yo=true) {i:Nat}{u:F0}(h:us[i]?=some u):∃d,ds[i]?=some d/\u=.bool (yP d):=by
 have hi:i<ds.length:=by rw[rl.length,rv.length];exact(K6.mp h).1
 obtain⟨v,g,r⟩:=rl.get (i:=i) (d:=ds[i]) (by simp[hi]);obtain⟨u',g',r'⟩:=rv.get g;rw[h]at g';cases g';have hbi:=Q9.mp hb ds[i] (List.getElem_mem hi);refine⟨ds[i],by simp[hi],?_⟩;cases q:ds[i]with
 |bl b=>rw[q]at r;simp only[Rep]at r;subst r;exact r'
 |_=>rw[q]at hbi;cases hbi
theorem AJ(hc:X.calm=true):ck X (.builtin "all") (pY zA):=by
 intro aa s σ H M xs us ds dz Q I hr rv rp e k;obtain⟨d,rfl,e0⟩:=de e;clear e;have e:=e0;clear e0;obtain⟨v,rfl,r⟩:=m9 rp;obtain⟨u,rfl,ru⟩:=ao.one rv;cases d with
 |lst ds =>
  simp only[zA]at e
  by_cases hb:ds.all yo=true
  ·rw[if_pos hb]at e;cases e;obtain⟨l,vs,rfl,sq,rl⟩:=r;cases ru;obtain⟨its,rv,pl,hz⟩:=I.list (SqL.of sq);have hne:l≠s.heap.objs.size:=I0 (I.hok.lt sq);refine call_all_walk (wpAny_pyIter_list pl.isList ⟨s.heap.objs.size,[s.heap.objs.size,l],[s.heap.objs.size],its.toArray.size,_,_,fun i=>(ds[i]?.map yP).getD false,rfl,Walks.list (A:=X.A.in1) (show X.A.in1.handled=none from I.ok.hd hc) s.heap.objs.size l hne its.toArray,⟨⟨_,F6 _ rfl,rfl,rfl⟩,?_⟩,fun i v s' Q' E' hv q=>?_,fun h' tk kk=>?_⟩)
   ·obtain⟨o,e,c⟩:=pl.isList;exact⟨o,F2 _ e,c⟩
   ·obtain⟨d,hd,rfl⟩:=wy rl rv hb (i:=i) (u:=v) (by simpa using hv);dsimp only at q;rw[hd]at q;exact R7 q
   ·have I1:Inv X aa σ H { s with heap:=h',toks:=tk }:=I.kept (t':=tk) fun b o e=>kk b o (by simpa using I0 (F4 e)) (F2 _ e);refine⟨.bl _,H,I1,rfl,k _ H (Ext.refl _ _) hr ?_⟩;rw[F5,<-rv.length,<-rl.length,ud (q:=yP) (fun i d hd=>by simp[hd])];simp[Rep]
  ·rw[if_neg hb]at e;cases e
 |_=>cases e
end
section
variable{X:Cx}{a b c e:J4}{es:List J4}{te ta tb:TEd}{t:TAd}{pos:Pos}
noncomputable def FA(T:String):D->Option Bool
 |.non=>some false
 |.bl _=>some (T=="bool" || T=="int")
 |.int _=>some (T=="int")
 |.str _=>some (T=="str")
 |.tup _=>some (T=="tuple")
 |.lst _=>some (T=="list")
 |.emp=>some (T=="dict")
 |_=>none
abbrev TOd:=DE->DH->(Option Int->DH->Prop)->Prop
def upO(K:o0) (t:TOd):TO:=fun σ H Q=>∃(Δ:DE) (M:DH) (R:Option Int->DH->Prop),SR K M H σ Δ/\HR K M H/\t Δ M R/\∀i M' H',R i M'->Ext M H M' H'->HR K M' H'->Q i H'
theorem upO.el{K:o0}{t:TOd}{σ:St}{H:Hp}{Q:Option Int->Hp->Prop}{P:Prop}(h:upO K t σ H Q) (f:∀(Δ:DE) (M:DH) (R:Option Int->DH->Prop),SR K M H σ Δ->HR K M H->t Δ M R->(∀i M' H',R i M'->Ext M H M' H'->HR K M' H'->Q i H')->P):P:=by
 obtain⟨x1,x2,x3,a,b,c,d⟩:=h;exact f x1 x2 x3 a b c d
def POd(X:Cx) (e:Option J4) (t:TOd):Prop:=PO X e (upO X.K t)
def oA:TOd:=fun _ M Q=>Q none M
def vH(t:TEd):TOd:=fun Δ M Q=>t Δ M fun d M1=>∃i,d=.int i/\Q (some i) M1
theorem PO.conv{e:Option J4}{t t':TO}(h:PO X e t) (k:∀ σ H Q,t' σ H Q->t σ H Q):PO X e t':=fun p s σ H Q I q=>h p s σ H Q I (k σ H Q q)
theorem yd:POd X none oA:=yw.conv fun σ H Q hup=>hup.el fun Δ M R sr hr q k=>k none M H q (Ext.refl _ _) hr
theorem zY(h:PEd X e te):POd X (some e) (vH te):=(zU h).conv fun σ H Q hup=>hup.el fun Δ M R sr hr q k=>⟨Δ,M,_,sr,hr,q,fun d M1 v H1 ⟨i,ed,q1⟩ e1 hr1 rv=>⟨i,by subst ed;simpa only[Rep]using rv,k _ M1 H1 q1 e1 hr1⟩⟩
def dJ(xs:List D) (lo hi:Option Int):List D:=(xs.drop (HT.sIx xs.length 0 lo)).take (HT.sIx xs.length xs.length hi-HT.sIx xs.length 0 lo)
def slD:D->Option Int->Option Int->Option D
 |.lst ds,lo,hi=>some (.lst (dJ ds lo hi))
 |.scr ds,lo,hi=>some (.lst (dJ ds lo hi))
 |.str x,lo,hi=>if x.length<=F3 then some (.str (ab2 x lo hi))else none
 |.tup ds,lo,hi=>if HT.sIx ds.length 0 lo=0/\HT.sIx ds.length ds.length hi=ds.length then none else some (.tup (dJ ds lo hi))
 |_,_,_=>none
def Fk:V->Option Int->Option Int->Hp->VK->Prop:=fun x lo hi H Q=>∃z,x=.str z/\z.length<=F3/\Q (.str (ab2 z lo hi)) H
theorem CB:SlR X Fk:=by
 intro aa s σ H x v vl vu lo hi sl Q I rx hs pl pu h;obtain⟨z,rfl,hz,q⟩:=h;obtain⟨t,rfl⟩:=rx;refine⟨"str",_,PySem.F.slot_str_getitem.lookup,typeIs_str _ _ _,?_⟩;have fin:∀(t':Tok) (k:Nat),EP X aa σ Q (.str (ab2 z lo hi) t') { s with toks:=k }:=fun t' k=>⟨.str (ab2 z lo hi),H,I.tok _,⟨t',rfl⟩,q⟩;cases pl with
 |none =>
  cases pu with
  |none=>exact S9 (l:=none) (u:=none) (st:=none) hs rfl (Z6 ⟨L6 (ab3 z _ _) hz,fin⟩)
  |int j tj=>exact S9 (l:=none) (u:=some (j,tj)) (st:=none) hs rfl (Z6 ⟨L6 (ab3 z _ _) hz,fin⟩)
 |int i ti =>
  cases pu with
  |none=>exact S9 (l:=some (i,ti)) (u:=none) (st:=none) hs rfl (Z6 ⟨L6 (ab3 z _ _) hz,fin⟩)
  |int j tj=>exact S9 (l:=some (i,ti)) (u:=some (j,tj)) (st:=none) hs rfl (Z6 ⟨L6 (ab3 z _ _) hz,fin⟩)
end
def bD(names:List (Str×J7)) (cells:List (Str×H0)):List (Str×H0):=(names.filterMap fun y=>if y.2==.free then(cells.lookup y.1).map fun c=>(y.1,c)else none).reverse
noncomputable def eB(env:Env) (y:Str×J7) (cs:List (Str×H0)):Sem (ForInStep (List (Str×H0))):=if(y.2==.free)=true then(do let c <-cellOf env y.1;W4 (O3 ((y.1,c)::cs)))else W4 (O3 cs)
theorem iN{env:Env}:∀(names:List (Str×J7)) (acc:List (Str×H0)),(∀y∈names,y.2=.free->(env.cells.lookup y.1).isSome=true) ->
  (forIn names acc (eB env):Sem (List (Str×H0)))=W4 (bD names env.cells++acc)
 |[],acc,_=>by simp[bD]
 |y::r,acc,h=>by
  rw[List.forIn_cons]
  by_cases hk:(y.2==K5)=true
  ·have hs:=h y N0 (by simpa using hk);obtain⟨c,hc⟩:=N9.mp hs;have e1:eB env y acc=W4 (O3 ((y.1,c)::acc)):=by
    unfold eB cellOf;rw[if_pos hk,hc];simp only[ad8]
   rw[e1];simp only[ad8];rw[iN r ((y.1,c)::acc) fun y hy=>h y (L3 _ hy)];have e2:bD (y::r) env.cells=bD r env.cells++[(y.1,c)]:=by
    unfold bD;rw[S6,if_pos hk,hc];simp
   rw[e2];simp
  ·have e1:eB env y acc=W4 (O3 acc):=by
    unfold eB;rw[if_neg hk]
   rw[e1];simp only[ad8];rw[iN r acc fun y hy=>h y (L3 _ hy)];have e2:bD (y::r) env.cells=bD r env.cells:=by
    unfold bD;rw[S6,if_neg hk]
   rw[e2]
theorem oq{scope:R0}{env:Env}(h:∀y∈scope.names,y.2=.free->(env.cells.lookup y.1).isSome=true):closureFor scope env=W4 (bD scope.names env.cells):=by
 have:=iN (env:=env) scope.names [] h;simp only[Z0]at this;show(forIn scope.names [] (eB env) >>= fun cs=>W4 cs)=_;rw[this];simp only[ad8]
theorem ko{cells:List (Str×H0)}{names:List (Str×J7)}{x:Str}{c:H0}(h:(bD names cells).lookup x=some c):cells.lookup x=some c:=by
 have hm:=K3 h;unfold bD at hm;rw[List.mem_reverse,P3]at hm;obtain⟨y,_,e⟩:=hm
 split at e
 ·cases q:cells.lookup y.1 with
  |none=>rw[q]at e;cases e
  |some c'=>rw[q]at e;cases e;exact q
 ·cases e
theorem dI:∀{l:List (Str×H0)}{x:Str}{c:H0},(x,c)∈l->∃c',l.lookup x=some c'
 |(y,d)::l,x,c,h=>by
  rw[J6];cases q:x==y with
  |true=>exact⟨d,by simp⟩
  |false =>
   rcases N4.mp h with e|h
   ·cases e;simp at q
   ·simpa using dI h
theorem lu{cells:List (Str×H0)}{names:List (Str×J7)}{x:Str}(h:names.lookup x=some .free) (hs:(cells.lookup x).isSome=true):∃c,(bD names cells).lookup x=some c:=by
 obtain⟨c,hc⟩:=N9.mp hs;refine dI (c:=c) ?_;unfold bD;rw[List.mem_reverse,P3];exact⟨(x,.free),K3 h,by simp[hc]⟩
noncomputable def aE(fs:R0) (N:List Str) (scope:R0) (ms:List Bool):Bool :=
 scope.kind==.function&&scope.names.all (fun y=>y.2 != .cell)&&scope.names.all (fun y=>y.2 != .local || scope.names.lookup y.1==some .local) &&
 scope.names.all (fun y=>y.2 != .free || fs.names.lookup y.1==some .cell)&&(ms.zip N).all (fun y=>!y.1 || scope.names.lookup y.2==some .free)&&decide (ms.length<=N.length)
theorem aC{X:Cx}{scope:R0}{ms:List Bool}{ag:List Str}{n0:Nat}(hX:X.env.cells=O7 n0 X.env.scope.names []) (c:aE X.env.scope X.N scope ms=true):cA X scope (bD scope.names X.env.cells) ms ag:=by
 unfold aE at c;simp only[K0,Q9,decide_eq_true_eq]at c;obtain⟨⟨⟨⟨⟨c1,c2⟩,c3⟩,c4⟩,c5⟩,c6⟩:=c;have fr:∀x,(x,K5)∈scope.names->X.env.scope.names.lookup x=some .cell:=fun x hx=>by
  have:=c4 _ hx;simpa using this
 have cs:∀x,(x,K5)∈scope.names->(X.env.cells.lookup x).isSome=true:=fun x hx=>by
  rw[hX];exact N7 _ _ _ (.inl (fr x hx))
 refine⟨by simpa using c1,fun y hy e=>?_,fun y hy e=>?_,oq fun y hy e=>?_,fun x c h=>ko h,fun x h=>lu h (cs x (K3 h)),fun x h=>.inl (fr x (K3 h)),fun i x h1 h2=>?_,c6⟩
 ·have:=c2 y hy;rw[e]at this;simp at this
 ·have:=c3 y hy;simpa[e]using this
 ·obtain⟨a,b⟩:=y;cases e;exact cs a hy
 ·have:=c5 (true,x) (by
   rw[List.mem_iff_getElem?];exact⟨i,by rw[List.getElem?_zip_eq_some];exact⟨h1,h2⟩⟩)
  simpa using this
structure FnD(P:K7) (w:P5) (K:o0) (mg:Str->Option F0) (base:K2) (x:Str) (k n:Nat) (S:SpD):Prop where
 ex:∃(f:H0) (fd:V2) (ps:List Str),bq P w K mg base CX0 k f fd ps (spD K n S)/\mg x=some (.ref f)/\W5 K (.ref f)=true/\ef K fd ps []
section
variable{X:Cx}{e:J4}{es:List J4}{t:TAd}{pos p:Pos}{x:Str}{k n:Nat}{S:SpD}
theorem dc(F:FnD X.prog X.w X.K X.mg X.base x k n S) (hr:cI k X.A) (hg:Gl X x) (ha:PAd X (e::es) t) (hdb:(x==("__debug__":Str))=false:=by decide) (he:J5 (e::es) X.env=(false,V7 e X.env)::J5 es X.env:=by rfl) (hpl:(V8 pos (J5 es X.env)).any (·.1)=false:=by rfl) :
  PEd X (.Call (.Name x p) (e::es) [] pos) (pI n S t):=by
 obtain⟨f,fd,ps,h1,h2,h3,h4⟩:=F.ex;exact CG h1 hr hg h2 h3 h4 ha hdb he hpl
end
section
variable{X:Cx}{a b c e:J4}{es:List J4}{te ta tb:TEd}{t:TAd}{pos:Pos}{tg iter:J4}
def Ay(te:TEd):TSd:=fun E Δ M=>te Δ M fun d M1=>∃a ds,d=.ref a/\M1 a=some (.lst ds)/\E.rt (.lst ds) (kZ M1 a)
theorem Dc:bC X (ad5 .Add) (iOp fun i j=>some (.int (i+j))):=by
 intro aa s σ H M x y v u dx dy dz Q I hr rx ry r1 r2 e k;obtain⟨i,j,rfl,rfl,e'⟩:=lL e;cases e';exact BJ aa s σ H x y v u Q I rx ry ⟨i,j,gE r1,gE r2,k _ H (Ext.refl _ _) hr (by simp[Rep])⟩
theorem Fv:Ea X (unaryOp .USub) (fun d=>match d with|.int i=>some (.int (-i))|_=>none):=by
 intro aa s σ H M x v dx dz Q I hr rx r1 e k;cases dx with
 |int i=>cases e;exact AY aa s σ H x v Q I rx ⟨i,gE r1,k _ H (Ext.refl _ _) hr (by simp[Rep])⟩
 |_=>cases e
def gW:D->Option (List D)
 |.tup ds=>some ds
 |.lst ds=>some ds
 |.scr ds=>some ds
 |.str x=>if x.length<=F3 then some (gb x)else none
 |_=>none
def Az(te:TEd):TId:=fun Δ M R=>te Δ M fun d M1=>∃ds,gW d=some ds/\(ds.length<=F3->R ds M1)
theorem oj{aa:List (H0×Obj)}{σ:St}{H:Hp}{s:F1}{o:Obj}(I:Inv X aa σ H s):∀b∈[s.heap.objs.size],cH X aa H b:=fun b hb=>by
 have e:b=s.heap.objs.size:=by simpa using hb
 subst e;exact I.fpOk (F8 _) (I.hok.fresh (F8 _))
theorem Cb{K:o0}{x:Str}{M1:DH}{H1:Hp}:ItD K (ItW x.cps.size fun i v=>∃c,x.cps[i]?=some c/\v=.str ⟨#[c]⟩) (gb x) M1 H1:=fun M2 H2 e2 hr2 i=>⟨fun d hd=>by
  unfold gb at hd;rw[P6]at hd;cases q:x.cps.toList[i]? with
  |none=>rw[q]at hd;cases hd
  |some c =>
   rw[q]at hd;cases hd;have hc:x.cps[i]?=some c:=by simpa using q
   refine⟨?_,fun y H' ⟨eH,c',hc',ey⟩=>?_⟩
   ·exact(Array.getElem?_eq_some_iff.mp hc).1
   ·subst eH;subst ey;rw[hc]at hc';cases hc';exact⟨Ext.refl _ _,hr2,by simp[Rep]⟩,fun hl=>by
  show x.cps.size<=i;simpa[gb]using hl⟩
end
section
variable{M:DH}
theorem Ad{i:Int}:rdM M (.int i)=.int i:=rfl
theorem Br{i:Bool}:rdM M (.bl i)=.bl i:=rfl
theorem z6{i:Str}:rdM M (.str i)=.str i:=rfl
theorem zJ:rdM M .non=.non:=rfl
theorem yE{i:List D}:rdM M (.tup i)=.tup i:=rfl
theorem z4{i:List D}:rdM M (.lst i)=.lst i:=rfl
theorem zC{i:List D}:rdM M (.scr i)=.scr i:=rfl
theorem Ac{a:H0}{ds:List D}(h:M a=some (.lst ds)):rdM M (.ref a)=.lst ds:=by simp[rdM,h]
theorem yL{a:H0}{ds:List D}:rdM (az M a (.lst ds)) (.ref a)=.lst ds:=Ac ar
theorem Ce{f:Int->Int->Option D}{a b:Int}:iOp f (.int a) (.int b)=f a b:=rfl
theorem yq{a b:Int}:mB (.int a) (.int b)=some (.int (a+b)):=rfl
theorem Ab{a b:Str}:mB (.str a) (.str b)=if a.length+b.length<=F3 then some (.str (a++b))else none:=rfl
theorem zQ{a b:List D}:mB (.lst a) (.lst b)=if a.length+b.length<=F3 then some (.lst (a++b))else none:=rfl
theorem yG{a b:List D}:mB (.tup a) (.tup b)=if a.length+b.length<=F3 then some (.tup (a++b))else none:=rfl
theorem EK{a:List D}{b:Int}:ixD (.lst a) (.int b)=atI a b:=rfl
theorem D8{a:List D}{b:Int}:ixD (.scr a) (.int b)=atI a b:=rfl
theorem EM{a:List D}{b:Int}:ixD (.tup a) (.int b)=atI a b:=rfl
theorem AO{α:Type}{x:α}{xs:List α}:atI (x::xs) 0=some x:=cy (j:=0) rfl
theorem Es{α:Type}{x y:α}{xs:List α}:atI (x::y::xs) 1=some y:=cy (j:=1) rfl
theorem Dw{α:Type}{x y z:α}{xs:List α}:atI (x::y::z::xs) 2=some z:=cy (j:=2) rfl
theorem vD{f:D->Option D}{d:D}:pY f [d]=f d:=rfl
theorem CY{a:List D}:uT (.lst a)=some (.int a.length):=rfl
theorem BY{a:List D}:uT (.tup a)=some (.int a.length):=rfl
theorem CF{a:List D}:uT (.scr a)=some (.int a.length):=rfl
theorem Bc{x:Str}:uT (.str x)=if x.length<=F3 then some (.int x.length)else none:=rfl
theorem BX{i:Int}:Fe (.int i)=some (.int (if i<0 then -i else i)):=rfl
theorem A1{a:List D}:B8 (.lst a)=some (.tup a):=rfl
theorem B3{a:List D}:B8 (.tup a)=some (.tup a):=rfl
theorem Eu{b:Bool}{x:D}{ds:List D}:inD b x (.lst ds)=if aV x=true/\ds.all aV=true then some (.bl (xor b (ds.any fun d=>eqD d x)))else none:=rfl
theorem Ed{b:Bool}{x:D}{ds:List D}:inD b x (.tup ds)=if aV x=true/\ds.all aV=true then some (.bl (xor b (ds.any fun d=>eqD d x)))else none:=rfl
theorem Cy{a b:Int}:eqF (.int a) (.int b)=some (.bl (a==b)):=by simp[eqF,dLe,eqD]
theorem BQ{a b:Str}:eqF (.str a) (.str b)=some (.bl (a==b)):=by simp[eqF,dLe,eqD]
theorem B6{a b:Bool}:eqF (.bl a) (.bl b)=some (.bl (a==b)):=by simp[eqF,dLe,eqD]
theorem DU{ds:List D}{lo hi:Option Int}:slD (.scr ds) lo hi=some (.lst (dJ ds lo hi)):=rfl
theorem DD{ds:List D}{lo hi:Option Int}:slD (.lst ds) lo hi=some (.lst (dJ ds lo hi)):=rfl
theorem Dr{x:Str}{lo hi:Option Int}:slD (.str x) lo hi=if x.length<=F3 then some (.str (ab2 x lo hi))else none:=rfl
theorem xu{a:List D}:gW (.lst a)=some a:=rfl
theorem xR{a:List D}:gW (.tup a)=some a:=rfl
theorem xN{a:List D}:gW (.scr a)=some a:=rfl
theorem vX{x:Str}:gW (.str x)=if x.length<=F3 then some (gb x)else none:=rfl
theorem Dl{n:Nat}:ixN (n+1) 0=some 0:=by simp[ixN]<;>omega
theorem DY{n:Nat}:ixN (n+2) 1=some 1:=by simp[ixN]<;>omega
theorem E5{n:Nat}:ixN (n+3) 2=some 2:=by simp[ixN]<;>omega
theorem sz3(n:Nat) (h:n<=1000:=by decide):n<=F3:=L6 h (by decide)
theorem CH{b:Bool}:FA "bool" (.bl b)=some true:=rfl
end
end L2
namespace L2
theorem EA{i j:Int}(h:-18446744073709551616<j/\j<18446744073709551616):iY i j=True:=by unfold iY;simp;right;omega
theorem ET{i j:Int}(h:-18446744073709551616<i/\i<18446744073709551616):iY i j=True:=by unfold iY;simp;left;omega
theorem u7:ph 10 18=True:=by simp[ph]
theorem Ee{i j:Int}(h:0<j/\j<1073741824):pH i j=True:=by unfold pH;simp[h]
end L2
namespace L2
open PySem PySem.Spec PyProof.Rows
theorem zg{a b:Str}:eqD (.str a) (.str b)=(a==b):=by simp[eqD]
theorem lU{x:Str}:∀{ws:List Str},(ws.map D.str).any (fun d=>eqD d (.str x))=decide (x∈ws)
 |[]=>by simp
 |w::ws=>by
  rw[N5,P1,lU (ws:=ws),zg]
  by_cases h:w=x
  ·subst h;simp
  ·have h2:(w==x)=false:=by simpa using h
   have h3:¬ x=w:=fun e=>h e.symm;simp[h2,h3]
theorem qj{ws:List Str}:(ws.map D.str).all aV=true:=by
 induction ws with
 |nil=>rfl
 |cons w ws ih=>rw[N5,V6,ih];rfl
section
variable{X:Cx}{e:J4}{te:TEd}{pos:Pos}
def Aq(te:TEd):TSd:=fun E Δ M=>te Δ M fun d M1=>∃M2,LeM M2 M1/\E.rt d M2
theorem yF{M:DH}{q:H0}{o:HD}(h:M q=none):LeM M (az M q o):=fun a u e=>by
 by_cases ha:a=q
 ·subst ha;rw[h]at e;cases e
 ·rw[aw ha];exact e
end
end L2
namespace L2
open PySem PySem.Spec PyProof.Rows PySem.Builtin.Str
def tx(cs:List Nat):Str:=⟨cs.toArray⟩
theorem sO(cs:List Nat):(tx cs).cps.toList=cs:=by simp[tx]
theorem Cz(cs:List Nat):(tx cs).length=cs.length:=by show(tx cs).cps.size=_;simp[tx]
theorem eA{α:Type} [DecidableEq α]:∀(V K:List α),V.Nodup->(∀x∈V,x∈K)->V.length<=K.length
 |[],_,_,_=>P9 _
 |x::V,K,hn,h=>by
  have hx:=h x N0;obtain⟨h1,h2⟩:=V4.mp hn;have:=eA V (K.erase x) h2 fun y hy=>(List.mem_erase_of_ne (by rintro rfl;exact h1 hy)).mpr (h y (L3 _ hy));rw[List.length_erase_of_mem hx]at this;have hp:0<K.length:=List.length_pos_of_mem hx;simp only[U5]
  lia
abbrev abc:Str:=U8 "abcdefghijklmnopqrstuvwxyz"
def jO:List Nat:=List.range' 97 26
theorem uZ:abc=tx jO:=by decide +kernel
theorem uf:gb abc=jO.map fun c=>D.str (tx [c]):=by
 unfold gb;rw[uZ,sO];rfl
end L2
namespace L2
open PySem PySem.Spec PyProof.Rows
theorem mU{g:GD}{tb:TSd}{E:fu}{all:List D}(I:Nat->DE->DH->Prop)
  (step:∀(i:Nat) (d:D) (Δ:DE) (M:DH) (X:DE->DH->Prop),all[i]?=some d->I i Δ M->(∀ Δ' M',I (i+1) Δ' M'->X Δ' M')->∃ Δ',g d Δ=some Δ'/\tb { E with nx:=X,ct:=X,bk:=E.nx } Δ' M)
  (fin:∀ Δ M,I all.length Δ M->E.nx Δ M):∀(ds:List D) (i:Nat) (Δ:DE) (M:DH),all.drop i=ds->i<=all.length->I i Δ M->cN g tb E ds Δ M
 |[],i,Δ,M,e,hi,h=>by
  have:i=all.length:=by
   have:=congrArg aa4 e;simp at this;lia
  subst this;simpa only[cN]using fin Δ M h
 |d::ds,i,Δ,M,e,hi,h=>by
  have hlt:i<all.length:=by
   have:=congrArg aa4 e;simp at this;lia
  have hd:all[i]?=some d:=by
   have:=congrArg List.head? e;simpa using this
  have hn:all.drop (i+1)=ds:=by
   rw[<-List.tail_drop,e];rfl
  simp only[cN];exact step i d Δ M _ hd h fun Δ' M' h'=>mU I step fin ds (i+1) Δ' M' hn hlt h'
theorem br{g:GD}{tb:TSd}{E:fu}{ds:List D}{Δ:DE}{M:DH}(I:Nat->DE->DH->Prop) (h0:I 0 Δ M)
  (step:∀(i:Nat) (d:D) (Δ:DE) (M:DH) (X:DE->DH->Prop),ds[i]?=some d->I i Δ M->(∀ Δ' M',I (i+1) Δ' M'->X Δ' M')->∃ Δ',g d Δ=some Δ'/\tb { E with nx:=X,ct:=X,bk:=E.nx } Δ' M)
  (fin:∀ Δ M,I ds.length Δ M->E.nx Δ M):cN g tb E ds Δ M:=mU I step fin ds 0 Δ M rfl (P9 _) h0
theorem o7{g:GD}{tc:TTd}{te:TEd}{all:List D}{Q:List D->DH->Prop}(I:Nat->List D->DE->DH->Prop)
  (step:∀ (i:Nat) (d:D) (acc:List D) (Δ:DE) (M:DH) (X:List D → DE → DH → Prop),all[i]? = some d → I i acc Δ M → (∀ acc' Δ' M',I (i + 1) acc' Δ' M' → X acc' Δ' M') →
   ∃ Δ',g d Δ=some Δ'/\tc Δ' M fun b M1=>if b=true then te Δ' M1 fun y M2=>X (acc++[y]) Δ' M2 else X acc Δ' M1)
  (fin:∀acc Δ M,I all.length acc Δ M->Q acc M):∀(ds:List D) (i:Nat) (acc:List D) (Δ:DE) (M:DH),all.drop i=ds->i<=all.length->I i acc Δ M->c9 g tc te ds Δ M acc Q
 |[],i,acc,Δ,M,e,hi,h=>by
  have:i=all.length:=by
   have:=congrArg aa4 e;simp at this;lia
  subst this;simpa only[c9]using fin acc Δ M h
 |d::ds,i,acc,Δ,M,e,hi,h=>by
  have hlt:i<all.length:=by
   have:=congrArg aa4 e;simp at this;lia
  have hd:all[i]?=some d:=by
   have:=congrArg List.head? e;simpa using this
  have hn:all.drop (i+1)=ds:=by
   rw[<-List.tail_drop,e];rfl
  simp only[c9];exact step i d acc Δ M (fun acc' Δ' M'=>c9 g tc te ds Δ' M' acc' Q) hd h fun acc' Δ' M' h'=>o7 I step fin ds (i+1) acc' Δ' M' hn hlt h'
theorem iy{g:GD}{tc:TTd}{te:TEd}{ds:List D}{Δ:DE}{M:DH}{Q:List D->DH->Prop}(I:Nat->List D->DE->DH->Prop) (h0:I 0 [] Δ M)
  (step:∀ (i:Nat) (d:D) (acc:List D) (Δ:DE) (M:DH) (X:List D → DE → DH → Prop),ds[i]? = some d → I i acc Δ M → (∀ acc' Δ' M',I (i + 1) acc' Δ' M' → X acc' Δ' M') →
   ∃ Δ',g d Δ=some Δ'/\tc Δ' M fun b M1=>if b=true then te Δ' M1 fun y M2=>X (acc++[y]) Δ' M2 else X acc Δ' M1)
  (fin:∀acc Δ M,I ds.length acc Δ M->Q acc M):c9 g tc te ds Δ M [] Q:=o7 I step fin ds 0 [] Δ M rfl (P9 _) h0
theorem szB(n:Nat) (h:n<=16000000:=by decide):n<=F3:=L6 h (by decide)
theorem cC{α:Type}{f:α->D}{xs:List α}{i:Nat}{d:D}(h:(xs.map f)[i]?=some d):∃x,xs[i]?=some x/\d=f x:=by
 rw[P6]at h;cases e:xs[i]? with
 |none=>rw[e]at h;cases h
 |some x=>rw[e]at h;cases h;exact⟨x,rfl,rfl⟩
theorem pX{K:o0}{M:DH}{H:Hp}:∀ns:List Int,ah K M H (ns.map D.int) (ns.map V.int)
 |[]=>ah.nil
 |n::ns=>ah.cons (by simp[Rep]) (pX ns)
theorem nh:Manifest.owners.lookup (String.ofList ['d','e','s','r','e','v','e','r'].reverse)=some Manifest.sig_reversed:=by kernel_rfl
theorem bS:Slot "reversed" "__next__" "reversed.__next__" :=
 .of (owner:="reversed") (n:="__next__") (by rw[Z7,T9];kernel_rfl) (by decide +kernel) (by decide +kernel) (by decide +kernel)
  (by first|exact .inl (by decide +kernel)|exact .inr (by decide +kernel)) (by rw[W7];kernel_rfl)
theorem fJ:entryFor table "reversed.__next__"=some J8.«reversed.__next__»:=entryFor_of_tree (by kernel_rfl)
theorem fm(a:F0):argsOk "reversed.__next__" ⟨[a],[]⟩:=by
 unfold argsOk;rw[signature?_of (id:="reversed.__next__") (n:=['_','_','t','x','e','n','_','_']) (o:=['d','e','s','r','e','v','e','r']) (by kernel_rfl) nh];kernel_rfl
theorem gJ:Slot "reversed" "__iter__" "reversed.__iter__" :=
 .of (owner:="reversed") (n:="__iter__") (by rw[Z7,T9];kernel_rfl) (by decide +kernel) (by decide +kernel) (by decide +kernel)
  (by first|exact .inl (by decide +kernel)|exact .inr (by decide +kernel)) (by rw[W7];kernel_rfl)
theorem jG(a:F0):argsOk "reversed.__iter__" ⟨[a],[]⟩:=by
 unfold argsOk;rw[signature?_of (id:="reversed.__iter__") (n:=['_','_','r','e','t','i','_','_']) (o:=['d','e','s','r','e','v','e','r']) (by kernel_rfl) nh];kernel_rfl
theorem j3:entryFor table "reversed.__iter__"=some J8.«dict_keyiterator.__iter__» :=
 entryFor_alias (id':="dict_keyiterator.__iter__") (by kernel_rfl) (by first|rfl|decide +kernel|(unfold String.splitOn;simp +decide [String.splitOnAux])) (by decide +kernel) (by kernel_rfl)
theorem iq:typeLookup (.type "tuple") "__reversed__"=W4 none:=by rw[Z7,T9];kernel_rfl
theorem ku:isSubtype (.type "tuple") (.type "dict")=W4 false:=by rw[W7];kernel_rfl
section
variable{prog:K7}{w:P5}{A:M9}{E:F0->F1->Prop}{s:F1}
noncomputable def sD(l:H0) (i:Int):Obj:={ cls:=.type "reversed",data:=.fields #[.ref l,aa1 i] }
def dZ(h:K2) (a l:H0) (i:Int):Prop:=∃o,h.get? a=some o/\o.cls=.type "reversed"/\o.data=.fields #[.ref l,aa1 i]
theorem dZ.typeIs{a l:H0}{i:Int}(x:dZ s.heap a l i):s.TypeIs (.ref a) "reversed":=let⟨o,ho,hc,_⟩:=x;⟨o,ho,hc⟩
theorem dZ.at{h h':K2}{a l:H0}{i:Int}(x:dZ h a l i) (e:∀o,h.get? a=some o->h'.get? a=some o):dZ h' a l i:=let⟨o,ho,r⟩:=x;⟨o,e _ ho,r⟩
theorem mD(l:H0) (items:Array F0) (hsz:items.size<2 ^ 63) :
  Meets (J8.«reversed.__new__» ⟨[.type "reversed",.ref l],[]⟩) (fun _ R s=>ac7 s.heap l items/\∀k,R (.ok (.ret (.ref s.heap.objs.size))) { s with heap:=s.heap.push (sD l ((items.size:Int)-1)),toks:=k }) :=
 .of_wp fun prog w A R s h=>by
  obtain⟨hl,h⟩:=h;unfold J8.«reversed.__new__»;refine u8 (U0 (newClass_reversed _) ?_)
  try dsimp only
  refine u8 (U0 (a:=()) (by first|rfl|kernel_rfl) ?_);refine u8 (U0 (a:=()) (by first|rfl|kernel_rfl) ?_)
  try dsimp only
  refine u8 (Z4 hl.typeIs iq ?_)
  try dsimp only
  refine u8 (u8 (wpAny_isInstance hl.typeIs ku ?_));rw[if_neg K9];refine u8 (Z4 hl.typeIs slot_tuple_getitem.lookup ?_);dsimp only;rw[if_pos (by decide +kernel)];refine F7 ?_;rw[if_neg (by decide)];refine u8 (len_tuple hl (by lia) ?_);refine u8 (U0 (a:=some (items.size:Int)) rfl ?_);dsimp only;show J3 _ _ (newObj (.type "reversed") (.fields #[.ref l,aa1 ((items.size:Int)-1)]) >>= _) _ _ _;exact u8 (L5 (F7 ⟨_,rfl,h _⟩))
theorem mw:Slot "reversed" "__init__" "object.__init__" :=
 .of (owner:="object") (n:="__init__") (by rw[Z7,T9];kernel_rfl) (by decide +kernel) (by decide +kernel) (by decide +kernel)
  (by first|exact .inl (by decide +kernel)|exact .inr (by decide +kernel)) (by rw[W7];kernel_rfl)
theorem rJ:TypeCalled "reversed" "reversed.__new__" "object.__init__" :=
 ⟨by decide +kernel,by decide +kernel,⟨_,_,F.mro_reversed⟩,F.made_reversed,by decide +kernel,by rw[W7];kernel_rfl,mw⟩
theorem l9{l:H0}{items:Array F0}{Q:F0->F1->Prop}(hl:ac7 s.heap l items) (hsz:items.size<2 ^ 63)
  (h:∀k,Q (.ref s.heap.objs.size) { s with heap:=s.heap.push (sD l ((items.size:Int)-1)),toks:=k }):J3 (K1 prog w) A (call (.type "reversed") [.ref l]) Q E s:=by
 refine callType_new rJ (by decide) (F.typeCall_reversed_1 _) (F.newCall_reversed_1 _) (fun obj=>F.args_object_init_2 obj _) F.entry_reversed_new (mD l items hsz) ⟨hl,fun k=>?_⟩;exact⟨⟨_,F6 _ rfl,rfl⟩,h k⟩
theorem eW{it l:H0}{i:Nat}{items:Array F0}{x:F0}{Q:Option F0->F1->Prop}(hit:dZ s.heap it l (i:Int)) (hl:ac7 s.heap l items) (hx:items[i]?=some x) (hsz:items.size<2 ^ 62)
  (hQ:∀h' k,dZ h' it l ((i:Int)-1)->N6 it s.heap h'->Q (some x) { s with heap:=h',toks:=k }):J3 (K1 prog w) A (ad1 (.ref it)) Q E s:=by
 obtain⟨o,ho,hc,hd⟩:=id hit;have hi:i<items.size:=(Array.getElem?_eq_some_iff.mp hx).1;unfold ad1;refine u8 (wpAny_attempt (O2 (name:=U8 "__next__") hit.typeIs bS
  (Q8 bS hit.typeIs fJ ?_ (fm _))))
 unfold J8.«reversed.__next__»;refine u8 (U0 (a:=(P7 it,[])) rfl ?_)
 try dsimp only
 refine u8 (Q0 ho hd (x:=.ref l) rfl ?_);refine u8 (Q0 ho hd (x:=aa1 (i:Int)) rfl ?_);show J3 _ _ (if(i:Int)<0 then _ else _) _ _ s;rw[if_neg (by lia)];refine u8 (Z4 hl.typeIs slot_tuple_getitem.lookup ?_);rw[if_neg (by simp)];refine u8 (wpAny_mkInt ?_);refine u8 (wpAny_attempt (getItem_tuple (s:={ s with toks:=s.toks+1 }) hl (by lia) (by lia) (j:=i) (by unfold seqIndex?;simp;lia) hx ?_));dsimp only;refine u8 (Q0 (s:={ s with toks:=s.toks+1 }) ho hd (x:=aa1 (i:Int)) rfl ?_);dsimp only[aa1];refine u8 (W8 (s:={ s with toks:=s.toks+1 }) ho hd (by simp) ?_);refine F7 ⟨x,rfl,F7 (hQ _ _ ?_ (T0 ..))⟩;exact⟨_,K2.get?_update_self _ ho (Obj.isFreed_of_fields (R1 hd _)),(Obj.cls_mapFields ..).trans hc,by
  rw[R1 hd];simp[aa1]⟩
theorem fE{it l:H0}{Q:Option F0->F1->Prop}(hh:A.handled=none) (hit:dZ s.heap it l (-1))
  (hQ:∀h',K2.ExtBut it s.heap h'->Q none { s with heap:=h' }):J3 (K1 prog w) A (ad1 (.ref it)) Q E s:=by
 obtain⟨o,ho,hc,hd⟩:=id hit;unfold ad1;refine u8 (wpAny_attempt (O2 (name:=U8 "__next__") hit.typeIs bS
  (Q8 bS hit.typeIs fJ ?_ (fm _))))
 unfold J8.«reversed.__next__»;refine u8 (U0 (a:=(P7 it,[])) rfl ?_)
 try dsimp only
 refine u8 (Q0 ho hd (x:=.ref l) rfl ?_);refine u8 (Q0 ho hd (x:=aa1 (-1)) rfl ?_);show J3 _ _ (if(-1:Int)<0 then _ else _) _ _ s;rw[if_pos (by decide)];refine u8 (ad0 ?_);have ho1:=K2.get?_update_self (Obj.mapFields (·.setIfInBounds 1 (aa1 (-1)))) ho (Obj.isFreed_of_fields (R1 hd _));refine u8 (u8 (W8 ho hd (by simp) (W8 ho1 (R1 hd _) (by simp) ?_)));refine u8 ?_;show J3 _ _ (newExc (.type "StopIteration") [] >>= _) _ _ _;refine u8 ?_;simp only[newExc,newTuple];refine u8 (L5 ?_ (by size_fits));refine u8 (m:=aa0 _ _) (U0 (a:=V9) (by first|rfl|(simp only[aa0];rfl)) ?_);refine L5 ?_ (by size_fits);simp only[raiseNew];refine u8 (wpAny_handled ?_)
 first|rw[show A.in1.handled=none from hh]|rw[hh]
 refine u8 (F7 (wpAny_throw ?_));refine u8 (wpAny_isInstance (T:="StopIteration") (b:=true) ⟨_,F6 _ rfl,rfl⟩ isSubtype_stop ?_);refine F7 (hQ _ ((K2.ExtBut.push ?_ _).push _));exact fun b o hb e=>((T0 ..).2 b hb).trans (((T0 ..).2 b hb).trans e)
theorem dR{it l:H0}{i:Int}{Q:F0->F1->Prop}(hit:dZ s.heap it l i) (h:Q (.ref it) s):J3 (K1 prog w) A (ac3 (.ref it)) Q E s:=by
 refine wpAny_pyIter_slot hit.typeIs gJ (Q8 gJ hit.typeIs j3 ?_ (jG _));show J3 _ _ (ret (.ref it)) _ _ s;exact F7 ⟨_,rfl,"reversed",_,hit.typeIs,bS.lookup,h⟩
end
def Itv(K:o0) (a:H0) (n:Nat):It :=
 ⟨fun i H=>(∃xs,SqT K H a xs/\xs.length=n)/\i<n,fun i H x H'=>H'=H/\∀xs,SqT K H a xs->xs[n-1-i]?=some x,fun i _=>n<=i⟩
theorem wW:F3<2 ^ 62:=by decide
theorem vf{P:K7}{w:P5}{K:o0}{tg:J4}(a it:H0) (n:Nat):iJ P w K tg (Itv K a n) [it] it (fun i h=>i<=n/\dZ h it a ((n:Int)-1-(i:Int))) where
 mem:=by simp
 obj:=fun i h st b hb=>by
  have e:b=it:=by simpa using hb
  subst e;obtain⟨_,o,e,c,d⟩:=st;exact⟨o,e,fun v z=>by rw[d]at z;cases z⟩
 keep:=fun i h h' st k=>⟨st.1,st.2.at fun o e=>k it (by simp) o e⟩
 item:=by
  intro X hP hw hK hc i aa s σ H E I hf st hg;subst hP hw hK;obtain⟨⟨xs,hq,hxl⟩,hi⟩:=hg;obtain⟨its,rv,p,hz⟩:=I.tuple hq;have bv:=rv.length;have hxi:n-1-i<xs.length:=by lia
  obtain⟨u,hu,ru⟩:=rv.get (show xs[n-1-i]?=some xs[n-1-i]by simp[hxi]);obtain⟨f0,f1,f2,f3,f4,f5⟩:=hf it (by simp);have ei:(n:Int)-1-(i:Int)=((n-1-i:Nat):Int):=by lia
  have st2:=st.2;rw[ei]at st2;have hsz:its.toArray.size<2 ^ 62:=by have:=wW;simp;lia
  refine eW st2 p (x:=u) (by simpa using hu) hsz fun h' kk st' sb=>?_;have I1:Inv X aa σ H { s with heap:=h',toks:=kk }:=I.turned (t':=kk) (fun b o hb e=>(sb.2 b hb).trans e) f0 f1 f3 f4 f5;obtain⟨o,e,c,d⟩:=id st';have e2:((n-1-i:Nat):Int)-1=(n:Int)-1-((i+1:Nat):Int):=by lia
  rw[e2]at st';exact⟨u,rfl,nc (s:={ s with heap:=h',toks:=kk }) e c d (by decide) ⟨xs[n-1-i],H,I1,ru,⟨rfl,fun ys hy=>by rw[I.tuple_inj hy hq];simp[hxi]⟩,⟨hi,st'⟩,fun b hb=>(hf b hb).1⟩⟩
 done:=by
  intro X hP hw hK hc i aa s σ H E I hf st hg;subst hP hw hK;obtain⟨f0,f1,f2,f3,f4,f5⟩:=hf it (by simp);have e:i=n:=Nat.le_antisymm st.1 hg;subst e;have st2:=st.2;rw[show(i:Int)-1-(i:Int)=-1 by lia]at st2;exact fE (I.ok.hd hc) st2 fun h' eb=>⟨rfl,I.turned (t':=s.toks) (fun b o hb e=>eb b o hb e) f0 f1 f3 f4 f5⟩
 self:=fun _ _ _ _ _ st h=>dR st.2 h
section
variable{X:Cx}{a b c e:J4}{es:List J4}{te ta tb:TEd}{t:TAd}{pos:Pos}{tg iter:J4}
def AF(ta:TAd):TId:=fun Δ M R=>ta Δ M fun ds M1=>∃es,ds=[.tup es]/\(es.length<=F3->R es.reverse M1)
theorem mj:T5 "reversed"=some (.type "reversed"):=by kernel_rfl
end
section
variable{X:Cx}
def neF(x y:D):Option D:=if dLe x 60=true/\dLe y 60=true then some (.bl (!(eqD x y)))else none
theorem B2(hu:X.A.units+64<aa7):bC X (L7 .NotEq) neF:=by
 intro aa s σ H M x y v u dx dy dz Q I hr rx ry r1 r2 e k;unfold neF at e
 by_cases hc:dLe dx 60=true/\dLe dy 60=true
 ·rw[if_pos hc]at e;cases e;exact(iP I 60 (A:=X.A) (by lia) hc.1 hc.2 r1 r2 rx ry).2.2 X.prog X.w X.xe _ ⟨.bl (!(eqD dx dy)),H,I,rfl,k _ H (Ext.refl _ _) hr (by simp[Rep])⟩
 ·rw[if_neg hc]at e;cases e
theorem BF{a b:Int}:neF (.int a) (.int b)=some (.bl (!(a==b))):=by simp[neF,dLe,eqD]
theorem xy{a b:Str}:neF (.str a) (.str b)=some (.bl (!(a==b))):=by simp[neF,dLe,eqD]
theorem xn{a b:Bool}:neF (.bl a) (.bl b)=some (.bl (!(a==b))):=by simp[neF,dLe,eqD]
end
end L2
namespace HT
open PySem PyProof.Rows
section
variable{prog:K7}{w:P5}{A:M9}{E:F0->F1->Prop}{s:F1}
theorem mi{t:H0}{items:Array F0}{Q:Bool->F1->Prop}(ht:ac7 s.heap t items) (h:Q true s):J3 (K1 prog w) A (J8.Tuple.tupleIsExact (.ref t)) Q E s:=by
 unfold J8.Tuple.tupleIsExact;exact u8 (wpAny_typeOf ht.typeIs (F7 (by simpa using h)))
theorem getItem_tuple_whole{t sl:H0}{items:Array F0}{vl vu:F0}{lo hi:Option Int}{Q:F0->F1->Prop}(ht:ac7 s.heap t items) (hs:s.heap.IsSliceOf sl vl vu .none) (pl:ac5 vl lo) (pu:ac5 vu hi)
  (hw:sIx items.size 0 lo=0/\sIx items.size items.size hi=items.size) (h:Q (.ref t) s):J3 (K1 prog w) A (aa5 (.ref t) (.ref sl)) Q E s:=by
 obtain⟨os,hos,hcs,hds⟩:=id hs;have hTs:s.TypeIs (.ref sl) "slice":=⟨os,hos,hcs⟩;unfold aa5
 try with_reducible refine X5 ?_
 first|refine u8 (F7 ?_)|skip
 refine u8 (wpAny_sequenceKey ht.typeIs (by decide) ?_);refine u8 (O2 (name:=U8 "__getitem__") ht.typeIs M7
  (Q8 M7 ht.typeIs entry_tuple_getitem ?_ (args_tuple_getitem _ _)))
 show J3 _ _ (J8.Tuple.tupleItemsOf (.ref t) >>= _) _ _ s;refine u8 (tupleItemsOf_ ht ?_);refine u8 (wpAny_typeOf hTs ?_);rw[if_pos (by decide)];refine u8 (eh hs pl pu ?_);show J3 _ _ (if(((sIx items.size 0 lo:Nat):Int)==0&&(1:Int)==1&&(sIx items.size items.size hi-sIx items.size 0 lo)==items.size)=true then _ else _) _ _ s;rw[if_pos (by rw[hw.1,hw.2];simp)];refine u8 (mi ht ?_);rw[if_pos rfl];refine u8 (ad0 ?_)
 first
  |exact F7 ⟨_,rfl,F7 h⟩
  |exact u8 (F7 (F7 ⟨_,rfl,F7 h⟩))
end
end HT
namespace L2
open PySem PySem.Spec PyProof.Rows
section
variable{X:Cx}{a b c e:J4}{es:List J4}{te ta tb ts:TEd}{t:TAd}{pos:Pos}
def slE:D->Option Int->Option Int->Option D
 |.tup ds,lo,hi=>some (.tup (dJ ds lo hi))
 |d,lo,hi=>slD d lo hi
def FD(K:o0):V->Option Int->Option Int->Hp->VK->Prop:=fun x lo hi H Q=>∃a xs,x=.ref a/\SqT K H a xs/\(HT.sIx xs.length 0 lo=0/\HT.sIx xs.length xs.length hi=xs.length)/\Q (.ref a) H
theorem vA:SlR X (FD X.K):=by
 intro aa s σ H x v vl vu lo hi sl Q I rx hs pl pu h;obtain⟨a,xs,rfl,hx,hw,q⟩:=h;cases rx;obtain⟨its,r,ht,hz⟩:=I.tuple hx;have bv:its.toArray.size=xs.length:=by rw[F5];exact r.length.symm
 exact⟨"tuple",_,M7.lookup,ht.typeIs,HT.getItem_tuple_whole ht hs pl pu (by rw[bv];exact hw) ⟨.ref a,H,I,rfl,q⟩⟩
theorem qL{ds:List D}{lo hi:Option Int}(h:HT.sIx ds.length 0 lo=0/\HT.sIx ds.length ds.length hi=ds.length):dJ ds lo hi=ds:=by
 unfold dJ;rw[h.1,h.2];simp
def Eg(te:TEd) (tl th:TOd):TEd:=fun Δ M Q=>te Δ M fun x M1=>tl Δ M1 fun l M2=>th Δ M2 fun u M3=>∃z,slE (rdM M3 x) l u=some z/\Q z M3
theorem Eh{ds:List D}{lo hi:Option Int}:slE (.tup ds) lo hi=some (.tup (dJ ds lo hi)):=rfl
theorem E1{ds:List D}{lo hi:Option Int}:slE (.lst ds) lo hi=some (.lst (dJ ds lo hi)):=rfl
theorem Ef{ds:List D}{lo hi:Option Int}:slE (.scr ds) lo hi=some (.lst (dJ ds lo hi)):=rfl
theorem DP{x:Str}{lo hi:Option Int}:slE (.str x) lo hi=if x.length<=F3 then some (.str (ab2 x lo hi))else none:=rfl
theorem ah.reverse{K:o0}{M:DH}{H:Hp}:∀{ds:List D}{vs:List V},ah K M H ds vs->ah K M H ds.reverse vs.reverse
 |[],_,h=>by simp only[ah]at h;subst h;exact ah.nil
 |d::ds,_,h=>by
  simp only[ah]at h;obtain⟨v,ws,rfl,h1,h2⟩:=h;rw[W1,W1];exact(ah.reverse h2).append (ah.cons h1 ah.nil)
variable{scope:R0}{cl:List (Str×H0)}{ag:List Str}{tg:J4}
def z9(X:Cx) (scope:R0) (cl:List (Str×H0)) (ag:List Str) (tgs:List J4) (g:GDs):Prop:=∃gv:TGs,(∀C s H ex,PGs (au X scope cl (X.N++ag) C s H ex) tgs gv)/\∀(ds:List D) (vs:List V) (σ:St) (Δ Δ':DE) (M:DH) (H:Hp) (Q:St->Hp->Prop),SR X.K M H σ Δ->HR X.K M H->ah X.K M H ds vs->g ds Δ=some Δ'->(∀ σ',SR X.K M H σ' Δ'->Q σ' H)->gv vs σ H Q
theorem eN:z9 X scope cl ag [] sC:=⟨C1,fun _ _ _ _=>si,fun ds vs σ Δ Δ' M H Q sr hr rv e k=>by
 cases ds with
 |nil=>simp only[ah]at rv;subst rv;cases e;exact⟨rfl,k _ sr⟩
 |cons _ _=>cases e⟩
theorem ba{tgs:List J4}{g:GD}{gs:GDs}(h1:PGa X scope cl ag tg g) (h2:z9 X scope cl ag tgs gs)
  (hs:∀env,(P4 (tg::tgs) env).map (·.2)=X1 tg env::(P4 tgs env).map (·.2):=by intro _;rfl):z9 X scope cl ag (tg::tgs) (gT g gs):=by
 obtain⟨g1,p1,k1⟩:=h1;obtain⟨g2,p2,k2⟩:=h2;refine⟨vb g1 g2,fun C s H ex=>pQ (p1 C s H ex) (p2 C s H ex) (hs _),fun ds vs σ Δ Δ' M H Q sr hr rv e k=>?_⟩;cases ds with
 |nil=>cases e
 |cons d r =>
  simp only[ah]at rv;obtain⟨v,ws,rfl,h3,h4⟩:=rv;simp only[gT]at e;cases q:g d Δ with
  |none=>rw[q]at e;cases e
  |some Δ1 =>
   rw[q]at e;exact⟨v,ws,rfl,k1 d v σ Δ Δ1 M H _ sr hr h3 q fun σ1 sr1=>k2 r ws σ1 Δ1 Δ' M H Q sr1 hr h4 e k⟩
theorem eY{tgs:List J4}{kx:Nat}{g:GDs}{n:Nat}(hc:X.calm=true) (h:z9 X scope cl ag tgs g) (hn:∀env,(P4 tgs env).length=n:=by intro _;rfl) (hst:∀env,(P4 tgs env).findIdx? (·.1)=none:=by intro _;rfl):PGa X scope cl ag (.Tuple tgs kx pos) (mG g n):=by
 obtain⟨g1,p1,k1⟩:=h;refine⟨Cp X.K n g1,fun C s H ex=>vj (X:=au X scope cl (X.N++ag) C s H ex) hc (p1 C s H ex) (hn _) (hst _),fun d v σ Δ Δ' M H Q sr hr rv e k=>?_⟩;cases d with
 |tup ds =>
  simp only[mG]at e
  by_cases hl:ds.length=n
  ·rw[if_pos hl]at e;simp only[Rep]at rv;obtain⟨a,vs,rfl,ta,rl⟩:=rv;exact⟨a,vs,rfl,ta.sq,by rw[<-rl.length];exact hl,k1 ds vs σ Δ Δ' M H Q sr hr rl e k⟩
  ·rw[if_neg hl]at e;cases e
 |_=>cases e
end
section
variable{X:Cx}{a b c e:J4}{es:List J4}{te ta tb ts:TEd}{t:TAd}{pos:Pos}
def inE(neg:Bool) (x y:D):Option D:=match y with
 |.str j=>match x with
  |.str i=>some (.bl (xor neg (!(S7 j i 0 j.length 1).isEmpty)))
  |_=>none
 |y=>inD neg x y
theorem E6:bC X (L7 .In) (inE false):=by
 intro aa s σ H M x y v u dx dy dz Q I hr rx ry r1 r2 e k;cases dy with
 |str j =>
  cases dx with
  |str i =>
   cases e;exact uA aa s σ H x y v u Q I rx ry ⟨i,j,mh r1,mh r2,k _ H (Ext.refl _ _) hr (by simp[Rep])⟩
  |_=>cases e
 |_=>exact FT aa s σ H M x y v u dx _ dz Q I hr rx ry r1 r2 e k
theorem p9:bC X (L7 .NotIn) (inE true):=by
 intro aa s σ H M x y v u dx dy dz Q I hr rx ry r1 r2 e k;cases dy with
 |str j =>
  cases dx with
  |str i =>
   cases e;exact nG aa s σ H x y v u Q I rx ry ⟨i,j,mh r1,mh r2,k _ H (Ext.refl _ _) hr (by simp[Rep])⟩
  |_=>cases e
 |_=>exact yX aa s σ H M x y v u dx _ dz Q I hr rx ry r1 r2 e k
theorem Dh{b:Bool}{x:D}{ds:List D}:inE b x (.lst ds)=if aV x=true/\ds.all aV=true then some (.bl (xor b (ds.any fun d=>eqD d x)))else none:=rfl
theorem D9{b:Bool}{x:D}{ds:List D}:inE b x (.tup ds)=if aV x=true/\ds.all aV=true then some (.bl (xor b (ds.any fun d=>eqD d x)))else none:=rfl
theorem D4{b:Bool}{c:Nat}{y:Str}:inE b (.str (tx [c])) (.str y)=some (.bl (xor b (decide (c∈y.cps.toList)))):=by
 show some (D.bl (xor b (!(S7 y ⟨#[c]⟩ 0 y.length 1).isEmpty)))=_;rw[StrLaws.found_one]
theorem iQ:fillsNumberSlot (.type "tuple") "mul"=W4 false :=
 PySem.fillsNumberSlot_seq (id:="tuple.__mul__") (r:=some (.builtin "tuple.__rmul__")) F.slot_tuple_mul.lookup (by decide +kernel) F.slot_tuple_rmul.lookup (by decide +kernel)
theorem nF:seqRepeat? (.type "tuple")=W4 (some (.builtin "tuple.__mul__")):=by
 unfold seqRepeat?;rw[PySem.seqSlot_of (T:="tuple") (name:="__mul__") (id:="tuple.__mul__") F.slot_tuple_mul.lookup (by decide +kernel),PySem.seqSlot_of (T:="tuple") (name:="__rmul__") (id:="tuple.__rmul__") F.slot_tuple_rmul.lookup (by decide +kernel)];rfl
theorem lA(a:Int) (t:Tok) (l:H0) (items:Array F0) :
  Meets (J8.«int.__rmul__» ⟨[.int a t,.ref l],[]⟩) (fun _ R s=>ac7 s.heap l items/\R (.ok (.ret F0.notImplemented)) s) :=
 .of_wp fun prog w A R s h=>by
  obtain⟨hp,g,d,tk,os⟩:=s;obtain⟨⟨⟨cls,dd,data,sl⟩,ho,hc,n,hd⟩,h⟩:=h;simp only at hc hd;subst hc hd
  wp_walk;exact⟨_,rfl,h⟩
theorem mf(l:H0) (items:Array F0) (x:Int) (u:Tok) (hne:items.isEmpty=false) (hx:2<=x) (hx2:x<2 ^ 62) (hz:items.size*x.toNat<=F3) :
  Meets (J8.«tuple.__mul__» ⟨[.ref l,.int x u],[]⟩) (fun _ R s=>ac7 s.heap l items/\R (.ok (.ret (.ref s.heap.objs.size))) { s with heap:=s.heap.push { cls:=.type "tuple",data:=.seq (J1 x.toNat items.toList).flatten.toArray } }) :=
 .of_wp fun prog w A R s h=>by
  obtain⟨ht,h⟩:=h;show J3 _ _ (do
   let n <-asIndex (.int x u)
   if n < -(2 ^ 63) || n>=2 ^ 63 then
    rule "tuple.repeat.overflow";raiseError "OverflowError" s!"cannot fit '{← typeNameOf (.int x u)}' into an index-sized integer"
   let xs <-J8.Tuple.tupleItemsOf (.ref l)
   if xs.isEmpty || n==1 then
    if <-J8.Tuple.tupleIsExact (.ref l)then rule "tuple.repeat.same-object";return <-ret (.ref l)
   if n<=0 || xs.isEmpty then return <-ret (<-N2 #[])
   if xs.size*n > (2 ^ 63-1) / 8 then rule "tuple.repeat.no-memory";raiseNew (<-newExc (.type "MemoryError") [])
   if J8.Tuple.tupleTooMany (xs.size*n)then unsupported "tuple.__mul__:memory"
   ret (<-N2 ((J1 n.toNat xs).foldl (·++·) #[]))) _ _ s
  refine u8 (U0 (a:=x) rfl ?_);dsimp only;rw[if_neg (by simp only[Bool.or_eq_true,decide_eq_true_eq];lia)];refine u8 (tupleItemsOf_ ht ?_);rw[if_neg (by simp[hne];lia)];rw[if_neg (by simp[hne];lia)];have hxn:((x.toNat:Nat):Int)=x:=by lia
  have hm:(items.size:Int)*x=((items.size*x.toNat:Nat):Int):=by rw[Int.natCast_mul,hxn]
  have h16:F3=16777216:=rfl;rw[if_neg (by rw[hm];lia)];rw[if_neg (by unfold J8.Tuple.tupleTooMany;rw[hm];simp only[decide_eq_true_eq];lia)];have hf:ac8 (fun x1 x2=>x1++x2) #[] (J1 x.toNat items)=(J1 x.toNat items.toList).flatten.toArray:=by
   have:=iZ items.toList x.toNat [];rw[List.nil_append]at this;simpa using this
  rw[hf];have hs:sizeOk (.seq (J1 x.toNat items.toList).flatten.toArray):=by
   show(J1 x.toNat items.toList).flatten.toArray.size<=F3;rw[F5,n6,U6,Nat.mul_comm];exact hz
  exact u8 (m:=N2 _) (L5 (F7 ⟨_,rfl,h⟩) hs)
theorem ah.rep{K:o0}{M:DH}{H:Hp}{ds:List D}{vs:List V}(h:ah K M H ds vs):∀k:Nat,ah K M H (J1 k ds).flatten (J1 k vs).flatten
 |0=>ah.nil
 |k+1=>by
  rw[O9,O9,R9,R9];exact h.append (ah.rep h k)
def qD:D->D->Option D
 |.int a,.int b=>if iY a b then some (.int (a*b))else none
 |.str x,.int n=>if x.length<=16777216/\-(2 ^ 63)<=n/\n<=16777216/\x.length*n.toNat<=16777216 then some (.str (Txt.mul x n))else none
 |.tup ds,.int n=>if 2<=n/\n<2 ^ 62/\ds≠[]/\ds.length*n.toNat<=F3 then some (.tup (J1 n.toNat ds).flatten)else none
 |.lst ds,.int n=>if -(2 ^ 63)<=n/\n<2 ^ 63/\ds.length*n.toNat<=F3 then some (.lst (J1 n.toNat ds).flatten)else none
 |_,_=>none
theorem qU:bC X (O6 .Mult) qD:=by
 intro aa s σ H M x y v u dx dy dz Q I hr rx ry r1 r2 e k;cases dx with
 |int a =>
  cases dy with
  |int b=>exact Ba aa s σ H M x y v u _ _ dz Q I hr rx ry r1 r2 e k
  |_=>cases e
 |str z =>
  cases dy with
  |int n =>
   simp only[qD]at e
   by_cases hc:z.length<=16777216/\-(2 ^ 63)<=n/\n<=16777216/\z.length*n.toNat<=16777216
   ·rw[if_pos hc]at e;cases e;have e1:=mh r1;have e2:=gE r2;subst e1;subst e2;obtain⟨t1,rfl⟩:=rx;obtain⟨t2,rfl⟩:=ry;have hok:MulOk z n:=by
     by_cases hn:0<=n
     ·exact mulOk_of z.length n.toNat (F8 _) (by lia) hc.2.1 (by lia) hc.2.2.2
     ·exact mulOk_of z.length 0 (F8 _) (by lia) hc.2.1 (by lia) (by lia)
    exact SB.mul hok fun t' kk=>⟨.str _,H,I.tok _,⟨t',rfl⟩,k _ H (Ext.refl _ _) hr (by simp[Rep])⟩
   ·rw[if_neg hc]at e;cases e
  |_=>cases e
 |tup ds =>
  cases dy with
  |int n =>
   simp only[qD]at e
   by_cases hc:2<=n/\n<2 ^ 62/\ds≠[]/\ds.length*n.toNat<=F3
   ·rw[if_pos hc]at e;cases e;have e2:=gE r2;subst e2;obtain⟨t2,rfl⟩:=ry;obtain⟨a,vs,rfl,sq,rl⟩:=r1;cases rx;obtain⟨its,rv,pt,hz⟩:=I.tuple sq;have hl1:=rv.length;have hl2:=rl.length;have hne:its.toArray.isEmpty=false:=by
     cases its with
     |nil =>
      have h0:ds.length=0:=by rw[hl2,hl1];rfl
      exact absurd (List.length_eq_zero_iff.mp h0) hc.2.2.1
     |cons _ _=>rfl
    have hzz:its.toArray.size*n.toNat<=F3:=by rw[F5,<-hl1,<-hl2];exact hc.2.2.2
    refine wpAny_binaryOp_repeat_ref (T:="tuple") (U:="int") (by decide) pt.typeIs (fun s'=>ab4 s' n t2) iQ F.fills_int_mul Z3 nF F.slot_int_index.lookup
     (X8 Z3 (ab4 s n t2) F.entry_int_rmul (F.args_int_rmul_2 _ _) (lA n t2 a its.toArray)
      ⟨pt,rfl,pt.typeIs,X8 F.slot_tuple_mul pt.typeIs F.entry_tuple_mul (F.args_tuple_mul_2 _ _) (mf a its.toArray n t2 hne hc.1 hc.2.1 hzz) ⟨pt,?_⟩⟩)
    have rr:ao (J1 n.toNat vs).flatten (J1 n.toNat its).flatten:=rv.rep n.toNat;refine⟨.ref s.heap.objs.size,_,I.laid (t':=s.toks) (o:=.tup (J1 n.toNat vs).flatten) (fun b ob q=>F2 _ q) (F8 _) ?_,rfl,?_⟩
    ·refine⟨?_,_,rr,by simpa using kH.new _ _⟩;rw[n6,Nat.mul_comm,<-hl2];exact hc.2.2.2
    ·exact oP hr (I.hok.fresh (F8 _)) (rl.rep n.toNat) k
   ·rw[if_neg hc]at e;cases e
  |_=>cases e
 |lst ds =>
  cases dy with
  |int n =>
   simp only[qD]at e
   by_cases hc:-(2 ^ 63)<=n/\n<2 ^ 63/\ds.length*n.toNat<=F3
   ·rw[if_pos hc]at e;cases e;obtain⟨a,vs,rfl,sq,rl⟩:=r1;exact CO aa s σ H _ _ v u Q I rx ry ⟨a,n,vs,rfl,gE r2,sq,hc.1,hc.2.1,by rw[<-rl.length];exact hc.2.2,fun p hp=>dY hr hp (rl.rep n.toNat) k⟩
   ·rw[if_neg hc]at e;cases e
  |_=>cases e
 |_=>cases e
theorem yu{a b:Int}:qD (.int a) (.int b)=if iY a b then some (.int (a*b))else none:=rfl
def mQ:D->Bool
 |.non=>true
 |_=>false
def nE(neg:Bool) (x y:D):Option D:=match y with|.non=>some (.bl (xor neg (mQ x)))|_=>none
theorem sM{K:o0}{M:DH}{H:Hp}{d:D}{x:V}(r:aJ K M H d x):decide (x=V.non)=mQ d:=by
 cases d with
 |tup ds=>obtain⟨a,vs,rfl,_⟩:=r;rfl
 |lst ds=>obtain⟨a,vs,rfl,_⟩:=r;rfl
 |scr ds=>obtain⟨a,vs,rfl,_⟩:=r;rfl
 |emp=>simp only[aJ,Rep]at r;obtain⟨a,rfl,_⟩:=r;rfl
 |box _ _=>simp only[aJ,Rep]at r;obtain⟨a,_,rfl,_⟩:=r;rfl
 |_=>simp only[aJ,Rep]at r;subst r;rfl
theorem FK:bC X (L7 .Is) (nE false):=by
 intro aa s σ H M x y v u dx dy dz Q I hr rx ry r1 r2 e k;cases dy with
 |non =>
  cases e;refine BU aa s σ H x y v u Q I rx ry ⟨Dq r2,?_⟩;rw[sM r1];exact k _ H (Ext.refl _ _) hr (by simp[Rep])
 |_=>cases e
theorem zo:bC X (L7 .IsNot) (nE true):=by
 intro aa s σ H M x y v u dx dy dz Q I hr rx ry r1 r2 e k;cases dy with
 |non =>
  cases e;refine yp aa s σ H x y v u Q I rx ry ⟨Dq r2,?_⟩;rw[sM r1];exact k _ H (Ext.refl _ _) hr (by simp[Rep])
 |_=>cases e
theorem uR{b:Bool}{x:D}:nE b x .non=some (.bl (xor b (mQ x))):=rfl
def B0(ms:List Bool) (k:Nat) (wi:TId) (g:GD) (tc:TTd) (te:TEd):TEd:=fun Δ M Q=>wi Δ M fun ds M1=>ds.length<=F3/\c9 g tc te ds (lW ms k Δ) M1 [] fun ys M2=>∀p,M2 p=none->Q (.ref p) (az M2 p (.lst ys))
theorem vT{K:o0}{wi:TId}{g:GD}{tc:TTd}{te:TEd}{gv:TG}{ms:List Bool}{kk:Nat}(kg:kX K g gv) :
  ∀ σ H Q,up K (B0 ms kk wi g tc te) σ H Q->tLc ms kk (upI K wi) gv (upT K tc) (up K te) σ H Q:=by
 rintro σ H Q ⟨Δ,M,R,sr,hr,q,k⟩;refine⟨Δ,M,_,sr,hr,q,fun ds M1 J H1 ⟨hz,q1⟩ e1 hr1 it=>?_⟩;obtain⟨W,Z,hW,hC,hZ⟩:=tS kg it hr1 hz ((sr.ext e1).comp ms kk) q1;refine⟨W,Z,hW,hC,fun ys σ' H' p z hp=>?_⟩;obtain⟨M',acc,e',hr',ra,q'⟩:=hZ _ _ _ z;exact k _ _ _ _ (q' p (hr'.fresh hp)) ((e1.trans e').trans (Ext.own hp)) (hr'.own hp ra) (by simp only[Rep])
variable{scope:R0}{cl:List (Str×H0)}{ms:List Bool}{ag:List Str}{ifs:List J4}{tg iter elt:J4}
end
@[irreducible] def QEd(X:Cx) (e:J4) (t:TEd):Prop:=PEd X e t
theorem QEd.eq{X:Cx}{e:J4}{t:TEd}:QEd X e t=(PEd X e t):=by unfold QEd;rfl
@[irreducible] def QAd(X:Cx) (e:List J4) (t:TAd):Prop:=PAd X e t
theorem QAd.eq{X:Cx}{e:List J4}{t:TAd}:QAd X e t=(PAd X e t):=by unfold QAd;rfl
@[irreducible] def QTd(X:Cx) (e:J4) (t:TTd):Prop:=PTd X e t
theorem QTd.eq{X:Cx}{e:J4}{t:TTd}:QTd X e t=(PTd X e t):=by unfold QTd;rfl
@[irreducible] def QWd(X:Cx) (e:J4) (t:TTd):Prop:=PWd X e t
theorem QWd.eq{X:Cx}{e:J4}{t:TTd}:QWd X e t=(PWd X e t):=by unfold QWd;rfl
@[irreducible] def QSd(X:Cx) (e:ab0) (t:TSd):Prop:=PSd X e t
theorem QSd.eq{X:Cx}{e:ab0}{t:TSd}:QSd X e t=(PSd X e t):=by unfold QSd;rfl
@[irreducible] def QSs(X:Cx) (e:List ab0) (t:TSd):Prop:=xB X e t
theorem QSs.eq{X:Cx}{e:List ab0}{t:TSd}:QSs X e t=(xB X e t):=by unfold QSs;rfl
@[irreducible] def QId(X:Cx) (tg e:J4) (t:TId):Prop:=PId X tg e t
theorem QId.eq{X:Cx}{tg e:J4}{t:TId}:QId X tg e t=(PId X tg e t):=by unfold QId;rfl
@[irreducible] def QIf(X:Cx) (e:List J4) (t:TTd):Prop:=Ec X e t
theorem QIf.eq{X:Cx}{e:List J4}{t:TTd}:QIf X e t=(Ec X e t):=by unfold QIf;rfl
@[irreducible] def QOd(X:Cx) (e:Option J4) (t:TOd):Prop:=POd X e t
theorem QOd.eq{X:Cx}{e:Option J4}{t:TOd}:QOd X e t=(POd X e t):=by unfold QOd;rfl
theorem ae{X:Cx}(i:Nat) {x:Str}{pos:Pos}(hN:X.N[i]?=some x:=by rfl) (hv:Vis X.env.scope x:=by first|exact Or.inl rfl|exact Or.inr (Or.inl rfl)|exact Or.inr (Or.inr rfl)) (hd:(x==("__debug__":Str))=false:=by decide)
  (hcd:(x==("__classdict__":Str))=false:=by decide):QEd X (.Name x pos) (lh i):=by
 simp only[QEd.eq]at *
 exact(Bj hN hv hd hcd).conv fun σ H Q ⟨Δ,M,R,sr,hr,⟨d,e,q⟩,k⟩=>let⟨v,ev,rv⟩:=sr.2 i d e;⟨v,ev,k d M v H q (Ext.refl _ _) hr rv⟩
theorem am{X:Cx}{i j pos}:QEd X (.Constant (.int i) j pos) (dC (.int i)):=by
 simp only[QEd.eq]at *
 exact Be.conv fun σ H Q hup=>hup.el fun Δ M R sr hr q k=>k _ M _ H q (Ext.refl _ _) hr (by simp[Rep])
theorem uS{X:Cx}{i j pos}:QEd X (.Constant (.bool i) j pos) (dC (.bl i)):=by
 simp only[QEd.eq]at *
 exact D5.conv fun σ H Q hup=>hup.el fun Δ M R sr hr q k=>k _ M _ H q (Ext.refl _ _) hr (by simp[Rep])
theorem lw{X:Cx}{i j pos}:QEd X (.Constant (.str i) j pos) (dC (.str i)):=by
 simp only[QEd.eq]at *
 exact Bv.conv fun σ H Q hup=>hup.el fun Δ M R sr hr q k=>k _ M _ H q (Ext.refl _ _) hr (by simp[Rep])
theorem wc{X:Cx}{j pos}:QEd X (.Constant .none j pos) (dC .non):=by
 simp only[QEd.eq]at *
 exact CA.conv fun σ H Q hup=>hup.el fun Δ M R sr hr q k=>k _ M _ H q (Ext.refl _ _) hr (by simp[Rep])
theorem aj{X:Cx}:QAd X [] Bl:=by
 simp only[QAd.eq]at *
 exact oh.conv fun σ H Q hup=>hup.el fun Δ M R sr hr q k=>k _ M _ H q (Ext.refl _ _) hr ah.nil
theorem af{X:Cx}{a:J4}{es:List J4}{ta:TEd}{tr:TAd}(ha:QEd X a ta) (hr:QAd X es tr) (hs:J5 (a::es) X.env=(false,V7 a X.env)::J5 es X.env:=by rfl):QAd X (a::es) (sX ta tr):=by
 simp only[QEd.eq,QAd.eq]at *
 exact(j0 ha hr hs).conv fun σ H Q hup=>hup.el fun Δ M R sr hr q k=>⟨Δ,M,_,sr,hr,q,fun d M1 v H1 q1 e1 hr1 rv=>⟨Δ,M1,_,sr.ext e1,hr1,q1,fun ds M2 vs H2 q2 e2 hr2 rvs =>
   k _ M2 _ H2 q2 (e1.trans e2) hr2 (ah.cons (rv.ext e2) rvs)⟩⟩
theorem cJ{X:Cx}{es:List J4}{pos:Pos}{x1}{t:TAd}(h:QAd X es t):QEd X (.Tuple es x1 pos) (DL t):=by
 simp only[QEd.eq,QAd.eq]at *
 exact(kB h).conv fun σ H Q hup=>hup.el fun Δ M R sr hr q k=>⟨Δ,M,_,sr,hr,q,fun ds M1 vs H1 ⟨z,q1⟩ e1 hr1 rv=>⟨by rw[<-rv.length];exact z,fun p hp=>k _ M1 _ _ q1 (e1.trans (Ext.new hr1 hp)) (hr1.new hp) (by
   simp only[Rep];exact⟨p,vs,rfl,.inl ⟨.inl aA,hr1.fresh hp⟩,rv.ext (Ext.new hr1 hp)⟩)⟩⟩
theorem nr{X:Cx}{es:List J4}{pos:Pos}{t:TAd}(h:QAd X es t):QEd X (.List es pos) (DC t):=by
 simp only[QEd.eq,QAd.eq]at *
 exact(vY h).conv fun σ H Q hup=>hup.el fun Δ M R sr hr q k=>⟨Δ,M,_,sr,hr,q,fun ds M1 vs H1 ⟨z,q1⟩ e1 hr1 rv=>⟨by rw[<-rv.length];exact z,fun p hp=>k _ M1 _ _ q1 (e1.trans (Ext.new hr1 hp)) (hr1.new hp) (by
   simp only[Rep];exact⟨p,vs,rfl,⟨aA,hr1.fresh hp⟩,rv.ext (Ext.new hr1 hp)⟩)⟩⟩
theorem fI{X:Cx}{es:List J4}{pos:Pos}{t:TAd}(h:QAd X es t):QEd X (.List es pos) (Ak t):=by
 simp only[QEd.eq,QAd.eq]at *
 exact(vY h).conv fun σ H Q hup=>hup.el fun Δ M R sr hr q k=>⟨Δ,M,_,sr,hr,q,fun ds M1 vs H1 ⟨z,q1⟩ e1 hr1 rv=>⟨by rw[<-rv.length];exact z,fun p hp=>k _ _ _ _ (q1 p (hr1.fresh hp)) (e1.trans (Ext.own hp)) (hr1.own hp rv) (by
   simp only[Rep])⟩⟩
theorem aI{X:Cx}{a:J4}{b:J4}{ta:TEd}{tb:TEd}{pos:Pos}{op:ad2}{r:D->D->Option D}(ho:bC X (O6 op) r) (ha:QEd X a ta) (hb:QEd X b tb):QEd X (.BinOp a op b pos) (dOp r ta tb):=by
 simp only[QEd.eq]at *
 exact(Ey ho.v ha hb).conv xr
theorem nA{X:Cx}{a:J4}{b:J4}{ta:TEd}{tb:TEd}{pos:Pos}{op:CmpOp}{r:D->D->Option D}(ho:bC X (L7 op) r) (ha:QEd X a ta) (hb:QEd X b tb) (hm:V1 op b=false):QEd X (.Compare a [op] [b] pos) (dOp r ta tb):=by
 simp only[QEd.eq]at *
 exact(xW ho.v ha hb hm).conv xr
theorem cf{X:Cx}{a:J4}{b:J4}{ta:TEd}{tb:TEd}{pos:Pos}{r:D->D->Option D}(ho:IxR X (opV X.K r)) (ha:QEd X a ta) (hb:QEd X b tb) (hs:sT b):QEd X (.Subscript a b pos) (dOp r ta tb):=by
 simp only[QEd.eq]at *
 exact(Ds ho ha hb hs).conv xr
theorem Fq{X:Cx}{a:J4}{ta:TEd}{pos:Pos}{op:UnaryOp}{r:D->Option D}(ho:Ea X (unaryOp op) r) (ha:QEd X a ta):QEd X (.UnaryOp op a pos) (dUn r ta):=by
 simp only[QEd.eq]at *
 have h:UnR X (unaryOp op) (fun x H Q=>∃dx dz M,HR X.K M H/\aJ X.K M H dx x/\r dx=some dz/\∀w H',Ext M H M H'->HR X.K M H'->Rep X.K M H' dz w->Q w H'):=fun aa s σ H x v Q I rx ⟨dx,dz,M,hr,r1,e,k⟩=>ho aa s σ H M x v dx dz Q I hr rx r1 e k;exact(DW h ha).conv fun σ H Q hup=>hup.el fun Δ M R sr hr q k=>⟨Δ,M,_,sr,hr,q,fun x M1 v H1 ⟨z,ez,q1⟩ e1 hr1 rv=>⟨_,z,M1,hr1,rv.rd hr1,ez,fun w H' e2 hr2 rw_=>k z M1 w H' q1 (e1.trans e2) hr2 rw_⟩⟩
theorem a7{X:Cx}{a:J4}{b:J4}{ta:TEd}{tb:TEd}{pos:Pos}{op:CmpOp}{r:D->D->Option D}(ho:bC X (L7 op) r) (ha:QEd X a ta) (hb:QEd X b tb) (hm:V1 op b=false):QTd X (.Compare a [op] [b] pos) (rm (dOp r ta tb)):=by
 simp only[QEd.eq,QTd.eq]at *
 refine(Ah ho.v ha hb hm).conv fun σ H Q h=>?_;obtain⟨Δ,M,R,sr,hr,q,k⟩:=h;exact⟨Δ,M,_,sr,hr,q,fun x M1 v H1 q1 e1 hr1 rv=>⟨Δ,M1,_,sr.ext e1,hr1,q1,fun y M2 u H2 ⟨z,ez,b,eb,q2⟩ e2 hr2 ru=>⟨_,_,z,M2,hr2,(rv.ext e2).rd hr2,ru.rd hr2,ez,fun w H' e3 hr3 rw_ =>
  ⟨b,by subst eb;simpa only[Rep]using rw_,k b M2 H' q2 ((e1.trans e2).trans e3) hr3⟩⟩⟩⟩
theorem nW{X:Cx}{a:J4}{ta:TEd}(h:QEd X a ta) (he:∀whole,isTrue a X.env whole=(do let v <-whole;ad4 a.pos;holding [v] (truthy v)):=by intro _;rfl):QTd X a (rm ta):=by
 simp only[QEd.eq,QTd.eq]at *
 exact(CZ h he).conv EY
theorem vG{X:Cx}{a:J4}{pos:Pos}{tA:TTd}(h:QTd X a tA):QTd X (.UnaryOp .Not a pos) (An tA):=by
 simp only[QTd.eq]at *
 exact(A7 h).conv fun σ H Q hup=>hup.el fun Δ M R sr hr q k=>⟨Δ,M,_,sr,hr,q,fun b M1 H1 q1 e1 hr1=>k _ M1 H1 q1 e1 hr1⟩
theorem yh{X:Cx}{a:J4}{pos:Pos}{tA:TTd}(ha:QTd X a tA):QWd X (.BoolOp .And [a] pos) tA:=by
 simp only[QTd.eq,QWd.eq]at *
 exact yM ha
theorem uX{X:Cx}{a:J4}{pos:Pos}{tA:TTd}(ha:QTd X a tA):QWd X (.BoolOp .Or [a] pos) tA:=by
 simp only[QTd.eq,QWd.eq]at *
 exact Bm ha
theorem Da{X:Cx}{a:J4}{b:J4}{pos:Pos}{tA:TTd}{tB':TTd}{aK:List J4}(ha:QTd X a tA) (hb:QWd X (.BoolOp .And (b::aK) pos) tB'):QWd X (.BoolOp .And (a::b::aK) pos) (wD tA tB'):=by
 simp only[QTd.eq,QWd.eq]at *
 exact(B5 ha hb).conv fun σ H Q hup=>hup.el fun Δ M R sr hr q k=>⟨Δ,M,_,sr,hr,q,fun c M1 H1 q1 e1 hr1=>by
   cases c with
   |true=>simp only[if_true]at q1 ⊢;exact⟨Δ,M1,R,sr.ext e1,hr1,q1,fun b M2 H2 q2 e2 hr2=>k b M2 H2 q2 (e1.trans e2) hr2⟩
   |false=>simp only[O4,if_false]at q1 ⊢;exact k _ M1 H1 q1 e1 hr1⟩
theorem AI{X:Cx}{a:J4}{b:J4}{pos:Pos}{tA:TTd}{tB':TTd}{aK:List J4}(ha:QTd X a tA) (hb:QWd X (.BoolOp .Or (b::aK) pos) tB'):QWd X (.BoolOp .Or (a::b::aK) pos) (D1 tA tB'):=by
 simp only[QTd.eq,QWd.eq]at *
 exact(D0 ha hb).conv fun σ H Q hup=>hup.el fun Δ M R sr hr q k=>⟨Δ,M,_,sr,hr,q,fun c M1 H1 q1 e1 hr1=>by
   cases c with
   |false=>simp only[O4,if_false]at q1 ⊢;exact⟨Δ,M1,R,sr.ext e1,hr1,q1,fun b M2 H2 q2 e2 hr2=>k b M2 H2 q2 (e1.trans e2) hr2⟩
   |true=>simp only[if_true]at q1 ⊢;exact k _ M1 H1 q1 e1 hr1⟩
theorem EE{X:Cx}{a:J4}{ta:TEd}{pos:Pos}{op}(h:QEd X a ta):QEd X (.BoolOp op [a] pos) ta:=by
 simp only[QEd.eq]at *
 exact Bu h
theorem Ew{X:Cx}{a:J4}{b:J4}{ta:TEd}{tb:TEd}{pos:Pos}{aK:List J4}(ha:QEd X a ta) (hb:QEd X (.BoolOp .And (b::aK) pos) tb):QEd X (.BoolOp .And (a::b::aK) pos) (Em ta tb):=by
 simp only[QEd.eq]at *
 exact(A5 ha hb).conv fun σ H Q hup=>hup.el fun Δ M R sr hr q k=>⟨Δ,M,_,sr,hr,q,fun d M1 v H1 ⟨c,e,q1⟩ e1 hr1 rv=>⟨c,by subst e;simpa only[Rep]using rv,by
   cases c with
   |true=>simp only[if_true]at q1 ⊢;exact⟨Δ,M1,R,sr.ext e1,hr1,q1,fun b M2 v2 H2 q2 e2 hr2 r2=>k b M2 v2 H2 q2 (e1.trans e2) hr2 r2⟩
   |false=>simp only[O4,if_false]at q1 ⊢;exact k _ M1 _ H1 q1 e1 hr1 (by simp[Rep])⟩⟩
theorem wL{X:Cx}{a:J4}{b:J4}{c:J4}{ta:TEd}{tb:TEd}{pos:Pos}{tc:TEd}{op op':CmpOp}{r r':D->D->Option D}(ho:bC X (L7 op) r) (ho':bC X (L7 op') r') (ha:QEd X a ta) (hb:QEd X b tb) (hc:QEd X c tc)
  (hm:lastMarks [op,op'] [b,c]=false:=by with_unfolding_all rfl):QTd X (.Compare a [op,op'] [b,c] pos) (rm (vE r r' ta tb tc)):=by
 simp only[QEd.eq,QTd.eq]at *
 refine(vJ ho.v ho'.v ha hb hc hm).conv fun σ H Q h=>?_;obtain⟨Δ,M,R,sr,hr,q,k⟩:=h;refine⟨Δ,M,_,sr,hr,q,fun x M1 v H1 q1 e1 hr1 rv=>⟨Δ,M1,_,sr.ext e1,hr1,q1,fun y M2 u H2 ⟨b,eb,q2⟩ e2 hr2 ru=>⟨_,_,.bl b,M2,hr2,(rv.ext e2).rd hr2,ru.rd hr2,eb,fun w H3 e3 hr3 rw_ =>
  ⟨b,by simpa only[Rep]using rw_,?_⟩⟩⟩⟩
 cases b with
 |true =>
  simp only[if_true]at q2 ⊢;exact⟨Δ,M2,_,(sr.ext (e1.trans e2)).ext e3,hr3,q2,fun z M4 w4 H4 ⟨d,ed,kb,ekb,q4⟩ e4 hr4 r4=>⟨_,_,d,M4,hr4,((ru.ext e3).ext e4).rd hr4,r4.rd hr4,ed,fun w5 H5 e5 hr5 r5=>⟨kb,by subst ekb;simpa only[Rep]using r5,k kb M4 H5 q4 ((((e1.trans e2).trans e3).trans e4).trans e5) hr5⟩⟩⟩
 |false =>
  simp only[O4,if_false]at q2 ⊢;obtain⟨kb,ekb,q2⟩:=q2;cases ekb;exact⟨false,rfl,k _ M2 H3 q2 ((e1.trans e2).trans e3) hr3⟩
theorem aH{X:Cx}{pos:Pos}{x:Str}{p:Pos}{e:J4}{es:List J4}{t:TAd}{id:String}{r:List D->Option D}(hc:ck X (.builtin id) r) (hg:Gl X x) (hm:X.mg x=none) (hv:T5 x=some (.builtin id)) (ha:QAd X (e::es) t) (hn:x≠"__name__":=by decide) (hdb:(x==("__debug__":Str))=false:=by decide)
  (he:J5 (e::es) X.env=(false,V7 e X.env)::J5 es X.env:=by rfl) (hpl:(V8 pos (J5 es X.env)).any (·.1)=false:=by rfl):QEd X (.Call (.Name x p) (e::es) [] pos) (dCB r t):=by
 simp only[QEd.eq,QAd.eq]at *
 exact(v9 hc.v hg hm hv ha hn hdb he hpl).conv AD
theorem dB{X:Cx}{pos:Pos}{x:Str}{p:Pos}{e:J4}{es:List J4}{t:TAd}{id:String}{r:List D->Option D}(hc:ck X (.type id) r) (hg:Gl X x) (hm:X.mg x=none) (hv:T5 x=some (.type id)) (ha:QAd X (e::es) t) (hn:x≠"__name__":=by decide) (hdb:(x==("__debug__":Str))=false:=by decide)
  (he:J5 (e::es) X.env=(false,V7 e X.env)::J5 es X.env:=by rfl) (hpl:(V8 pos (J5 es X.env)).any (·.1)=false:=by rfl):QEd X (.Call (.Name x p) (e::es) [] pos) (dCB r t):=by
 simp only[QEd.eq,QAd.eq]at *
 exact(uw hc.v hg hm hv ha hn hdb he hpl).conv AD
theorem c0{X:Cx}:QSs X [] xp:=by
 simp only[QSs.eq]at *
 exact Aa.conv fun D σ H hup=>hup.el fun Δ M E sr hr q u=>u.nx Δ M σ H q (Ext.refl _ _) hr sr
theorem ak{X:Cx}{st:ab0}{aK:List ab0}{t:TSd}{u:TSd}(h1:QSd X st t) (h2:QSs X aK u):QSs X (st::aK) (Fb t u):=by
 simp only[QSd.eq,QSs.eq]at *
 exact(vQ h1 h2).conv fun D σ H hup=>hup.el fun Δ M E sr hr q k=>⟨Δ,M,{ E with nx:=u E },sr,hr,q,⟨fun Δ' M' σ' H' q' e' hr' sr'=>⟨Δ',M',E,sr',hr',q',k.ext e'⟩,k.bk,k.ct,k.rt⟩⟩
theorem av{X:Cx}{st:ab0}{t:TSd}(h1:QSd X st t):QSs X [st] t:=by
 simp only[QSd.eq,QSs.eq]at *
 exact z5 h1
theorem bG{X:Cx}{e:J4}{te:TEd}{pos:Pos}(he:QEd X e te):QSd X (.Return (some e) pos) (Dj te):=by
 simp only[QEd.eq,QSd.eq]at *
 exact(rD he).conv fun D σ H hup=>hup.el fun Δ M E sr hr q k=>⟨Δ,M,_,sr,hr,q,k.rt⟩
theorem dU{X:Cx}{e:J4}{te:TEd}{pos:Pos}(he:QEd X e te) (hs:W9 e none pos.line X.env=W4 false:=by rfl):QSd X (.Expr e pos) (xO te):=by
 simp only[QEd.eq,QSd.eq]at *
 exact(yT he hs).conv fun D σ H hup=>hup.el fun Δ M E sr hr q k=>⟨Δ,M,_,sr,hr,q,fun d M1 v H1 q1 e1 hr1 _=>k.nx Δ M1 σ H1 q1 e1 hr1 (sr.ext e1)⟩
theorem ft{X:Cx}{c:J4}{pos:Pos}{t:TSd}{u:TSd}{sa sb:List ab0}{tc:TTd}(hc:QTd X c tc) (ha:QSs X sa t) (hb:QSs X sb u):QSd X (.If c sa sb pos) (BB tc t u):=by
 simp only[QTd.eq,QSd.eq,QSs.eq]at *
 exact(ES hc ha hb).conv fun D σ H hup=>hup.el fun Δ M E sr hr q k=>⟨Δ,M,_,sr,hr,q,fun b M1 H1 q1 e1 hr1=>by
   cases b with
   |true=>simp only[if_true]at q1 ⊢;exact⟨Δ,M1,E,sr.ext e1,hr1,q1,k.ext e1⟩
   |false=>simp only[O4,if_false]at q1 ⊢;exact⟨Δ,M1,E,sr.ext e1,hr1,q1,k.ext e1⟩⟩
theorem aP{X:Cx}{e:J4}{te:TEd}{pos:Pos}{i:Nat}{x:Str}{pos':Pos}(hN:X.N.Nodup) (hi:X.N[i]?=some x) (hx:Loc X.env.scope x) (he:QEd X e te) (hs:W9 e (some (.Name x pos')) pos.line X.env=W4 false:=by rfl) (hf:X.fn x=true∨X.env.scope.names.lookup x=some .local:=by first|exact .inl rfl|exact .inr rfl|assumption) :
  QSd X (.Assign [.Name x pos'] e pos) (xf i te):=by
 simp only[QEd.eq,QSd.eq]at *
 exact(BR hN hi hx he hs hf).conv fun D σ H hup=>hup.el fun Δ M E sr hr q k=>⟨Δ,M,_,sr,hr,q,fun d M1 v H1 q1 e1 hr1 rv=>k.nx _ M1 _ H1 q1 e1 hr1 ((sr.ext e1).set i rv)⟩
theorem EU{X:Cx}{e:J4}{te:TEd}{pos:Pos}{i:Nat}{x:Str}{op:ad2}{r:D->D->Option D}{pos':Pos}(hN:X.N.Nodup) (hi:X.N[i]?=some x) (hx:Loc X.env.scope x) (he:QEd X e te) (ho:bC X (ad5 op) r) (hf:X.fn x=true∨X.env.scope.names.lookup x=some .local:=by first|exact .inl rfl|exact .inr rfl|assumption) :
  QSd X (.AugAssign (.Name x pos') op e pos) (Df i te r):=by
 simp only[QEd.eq,QSd.eq]at *
 have h:PIp X op (opV X.K r):=fun aa s σ H x y v u Q I rx ry q=>ho.v aa s σ H x y v u Q I rx ry q;refine(BP hN hi hx he h hf).conv fun D σ H hh=>?_;obtain⟨Δ,M,E,sr,hr,⟨d,ed,q⟩,k⟩:=hh;obtain⟨v,ev,rv⟩:=sr.2 i d ed;refine⟨v,ev,Δ,M,_,sr,hr,q,fun y M1 w H1 ⟨z,ez,q1⟩ e1 hr1 rw_=>⟨_,_,z,M1,hr1,(rv.ext e1).rd hr1,rw_.rd hr1,ez,fun w2 H2 e2 hr2 r2=>k.nx _ M1 _ H2 q1 (e1.trans e2) hr2 (((sr.ext e1).ext e2).set i r2)⟩⟩
theorem nU{X:Cx}{t:TSd}{sts:List ab0}(i:Nat) (h:QSs X sts t):QSs X sts (wf i t):=by
 simp only[QSs.eq]at *
 exact PSs.conv h fun D σ H ⟨Δ,M,E,sr,hr,⟨a,ds,e1,e2,q⟩,k⟩=>by
  refine⟨_,kZ M a,E,?_,hr.le LeM.del,q,k.ext (Ext.le LeM.del)⟩;obtain⟨v,ev,rv⟩:=sr.2 i _ e1;simp only[Rep]at rv;subst rv;have:=(sr.ext (Ext.le (M1:=kZ M a) LeM.del)).set i (Rep.froze (M1:=kZ M a) hr LeM.del e2 mK);have es:σ.set i (some (.ref a))=σ:=by
   apply List.ext_getElem?;intro j
   by_cases hj:j=i
   ·subst hj;have hl:j<σ.length:=(K6.mp ev).1;rw[Q5 hl,ev]
   ·rw[U4 (Z9 hj)]
  rw[es]at this;exact this
theorem DK{X:Cx}{e:J4}{te:TEd}{pos:Pos}{tg:J4}{g:GD}(he:QEd X e te) (hg:PGd X tg g) (hs:swapsWithSole [tg] e pos.line X.env=W4 false:=by rfl) (hw:swappedStores [tg] e X.env=W4 none:=by rfl)
  (h1:(P4 [tg] X.env).map (·.2)=[X1 tg X.env]:=by rfl):QSd X (.Assign [tg] e pos) (DG te g):=by
 simp only[QEd.eq,QSd.eq]at *
 obtain⟨gv,pg,kg⟩:=hg;exact(C0 he pg hs hw h1).conv fun D σ H hup=>hup.el fun Δ M E sr hr q k=>⟨Δ,M,_,sr,hr,q,fun d M1 v H1 ⟨Δ',eg,q1⟩ e1 hr1 rv=>kg d v σ Δ Δ' M1 H1 _ (sr.ext e1) hr1 rv eg fun σ' sr'=>k.nx Δ' M1 σ' H1 q1 e1 hr1 sr'⟩
theorem gp{X:Cx}{a:J4}{pos:Pos}{tg:J4}{ta:TAd}{p:Pos}(hg:Gl X "range") (hm:X.mg "range"=none) (ha:QAd X [a] ta) (hs:J5 [a] X.env=[(false,V7 a X.env)]:=by rfl):QId X tg (.Call (.Name "range" p) [a] [] pos) (vL ta):=by
 simp only[QAd.eq,QId.eq]at *
 exact(uQ hg hm ha hs).conv fun σ H R hup=>hup.el fun Δ M R' sr hr q k=>⟨Δ,M,_,sr,hr,q,fun ds M1 vs H1 ⟨j,ed,h1,h2,q1⟩ e1 hr1 rv=>by
   subst ed;obtain⟨v,ev,rv1⟩:=rv.one;have ev1:v=.int j:=by simpa only[Rep]using rv1
   subst ev1;subst ev;exact⟨j,rfl,h1,h2,k _ M1 _ H1 q1 e1 hr1 yY⟩⟩
theorem fq{X:Cx}{pos:Pos}{tg:J4}{iter:J4}{body:List ab0}{wi:TId}{g:GD}{tb:TSd}(hp:ad6 (K1 X.prog X.w) X.A X.env X.xe) (hc:X.calm=true) (hi:QId X tg iter wi) (hg:PGd X tg g) (hb:QSs X body tb)
  (hs:∀x,M0 iter X.env x=W4 x:=by intro _;rfl):QSd X (.For tg iter body [] pos) (Dk wi g tb):=by
 simp only[QSd.eq,QSs.eq,QId.eq]at *
 obtain⟨gv,pg,kg⟩:=hg;refine(BN hp hc hi pg hb hs).conv fun D σ H hh=>?_;obtain⟨Δ,M,E,sr,hr,q,k⟩:=hh;refine⟨Δ,M,_,sr,hr,q,fun ds M1 J H1 q1 e1 hr1 it=>?_⟩;refine⟨fun i m σ' H'=>∃ Δ' M',m=ds.length-i/\i<=ds.length/\Ext M1 H1 M' H'/\HR X.K M' H'/\SR X.K M' H' σ' Δ'/\cN g tb E (ds.drop i) Δ' M',⟨ds.length,Δ,M1,by simp,P9 _,Ext.refl _ _,hr1,sr.ext e1,q1⟩,?_⟩;rintro i m σ2 H2 ⟨Δ2,M2,rfl,hi2,e2,hr2,sr2,f2⟩;obtain⟨go,stop⟩:=it M2 H2 e2 hr2 i
 by_cases hlt:i<ds.length
 ·have hd:ds[i]?=some ds[i]:=by simp[hlt]
  obtain⟨g1,y1⟩:=go _ hd;rw[List.drop_eq_getElem_cons hlt]at f2;simp only[cN]at f2;obtain⟨Δ3,eg,f3⟩:=f2;refine .inr ⟨g1,fun σ' H'=>∃m',m'<ds.length-i/\∃ Δ' M',m'=ds.length-(i+1)/\i+1<=ds.length/\Ext M1 H1 M' H'/\HR X.K M' H'/\SR X.K M' H' σ' Δ'/\cN g tb E (ds.drop (i+1)) Δ' M',fun σ' H' z=>z,fun x H' hy=>?_⟩;obtain⟨e3,hr3,rx⟩:=y1 x H' hy;refine kg _ x σ2 Δ2 Δ3 M2 H' _ (sr2.ext e3) hr3 rx eg fun σ3 sr3=>?_;refine⟨Δ3,M2,_,sr3,hr3,f3,⟨fun Δ' M' σ' H'' q' e' hr' sr'=>?_,fun Δ' M' σ' H'' q' e' hr' sr'=>?_,fun Δ' M' σ' H'' q' e' hr' sr'=>?_,fun d M' v H'' q' e' hr' rv'=>?_⟩⟩
  ·exact⟨_,by lia,Δ',M',rfl,hlt,(e2.trans e3).trans e',hr',sr',q'⟩
  ·exact k.nx Δ' M' σ' H'' q' (((e1.trans e2).trans e3).trans e') hr' sr'
  ·exact⟨_,by lia,Δ',M',rfl,hlt,(e2.trans e3).trans e',hr',sr',q'⟩
  ·exact k.rt d M' v H'' q' (((e1.trans e2).trans e3).trans e') hr' rv'
 ·rw[List.drop_eq_nil_of_le (by lia)]at f2;exact .inl ⟨stop (by lia),k.nx Δ2 M2 σ2 H2 f2 (e1.trans e2) hr2 sr2⟩
theorem oe{X:Cx}{c:J4}{pos:Pos}{body:List ab0}{tc:TTd}{tb:TSd}(hp:ad6 (K1 X.prog X.w) X.A X.env X.xe) (hc:QTd X c tc) (hb:QSs X body tb):QSd X (.While c body [] pos) (vm tc tb):=by
 simp only[QTd.eq,QSd.eq,QSs.eq]at *
 refine(vW hp hc hb).conv fun D σ H hh=>?_;obtain⟨Δ,M,E,sr,hr,⟨W,⟨m0,w0⟩,turn⟩,k⟩:=hh;refine⟨fun m σ' H'=>∃ Δ' M',Ext M H M' H'/\HR X.K M' H'/\SR X.K M' H' σ' Δ'/\W m Δ' M',⟨m0,Δ,M,Ext.refl _ _,hr,sr,w0⟩,?_⟩;rintro m σ1 H1 ⟨Δ1,M1,e1,hr1,sr1,w1⟩;refine⟨Δ1,M1,_,sr1,hr1,turn m Δ1 M1 w1,fun b M2 H2 q2 e2 hr2=>?_⟩;cases b with
 |true =>
  simp only[if_true]at q2 ⊢;refine⟨fun σ' H'=>∃m',m'<m/\∃ Δ' M',Ext M H M' H'/\HR X.K M' H'/\SR X.K M' H' σ' Δ'/\W m' Δ' M',fun σ' H' z=>z,Δ1,M2,_,sr1.ext e2,hr2,q2,⟨fun Δ' M' σ' H'' ⟨m',hm,w'⟩ e' hr' sr'=>?_,fun Δ' M' σ' H'' q' e' hr' sr'=>?_,fun Δ' M' σ' H'' ⟨m',hm,w'⟩ e' hr' sr'=>?_,fun d M' v H'' q' e' hr' rv'=>?_⟩⟩
  ·exact⟨m',hm,Δ',M',(e1.trans e2).trans e',hr',sr',w'⟩
  ·exact k.nx Δ' M' σ' H'' q' ((e1.trans e2).trans e') hr' sr'
  ·exact⟨m',hm,Δ',M',(e1.trans e2).trans e',hr',sr',w'⟩
  ·exact k.rt d M' v H'' q' ((e1.trans e2).trans e') hr' rv'
 |false =>
  simp only[O4,if_false]at q2 ⊢;exact k.nx Δ1 M2 σ1 H2 q2 (e1.trans e2) hr2 (sr1.ext e2)
theorem cL{X:Cx}:QIf X [] uP:=by
 simp only[QIf.eq]at *
 exact fun aa s σ H Q I ⟨Δ,M,R,sr,hr,q,k⟩=>zS aa s σ H Q I (k true M H q (Ext.refl _ _) hr)
theorem dX{X:Cx}{c:J4}{tc:TTd}(h:QTd X c tc):QIf X [c] tc:=by
 simp only[QTd.eq,QIf.eq]at *
 exact yv h
theorem gU{X:Cx}{pos:Pos}{tg:J4}{iter:J4}{elt:J4}{scope:R0}{cl:List (Str×H0)}{ms:List Bool}{ag:List Str}{ifs:List J4}{wi:TId}{g:GD}{tc:TTd}{te:TEd}(S:cA X scope cl ms ag) (bg:X.calm=true) (hi:QId X tg iter wi) (hg:PGa X scope cl ag tg g)
  (hif:∀C s H ex,QIf (au X scope cl (X.N++ag) C s H ex) ifs tc) (he:∀C s H ex,QEd (au X scope cl (X.N++ag) C s H ex) elt te)
  (hs:∀x,M0 iter X.env x=W4 x:=by intro _;rfl):QEd X (.ListComp elt [⟨tg,iter,ifs,0⟩] scope pos) (dLc ms ag.length wi g tc te):=by
 simp only[QEd.eq,QId.eq,QIf.eq]at *
 obtain⟨gv,pg,kg⟩:=hg;exact(u6 (tc:=upT X.K tc) S bg hi pg hif (qC (te:=up X.K te) he) hs).conv (nP kg)
theorem jX{X:Cx}{pos:Pos}{tg:J4}{iter:J4}{elt:J4}{scope:R0}{cl:List (Str×H0)}{ms:List Bool}{ag:List Str}{ifs:List J4}{i:Nat}{x:Str}{spos pos':Pos}{wi:TId}{g:GD}{tc:TTd}{te:TEd}(hN:X.N.Nodup) (hix:X.N[i]?=some x) (hx:X.env.scope.names.lookup x=some .local)
  (hsw:W9 (.ListComp elt [⟨tg,iter,ifs,0⟩] scope pos) (some (.Name x pos')) spos.line X.env=W4 true) (S:cA X scope cl ms ag) (bg:X.calm=true) (hi:QId X tg iter wi) (hg:PGa X scope cl ag tg g)
  (hif:∀C s H ex,QIf (au X scope cl (X.N++ag) C s H ex) ifs tc) (he:∀C s H ex,QEd (au X scope cl (X.N++ag) C s H ex) elt te)
  (hs:∀x,M0 iter X.env x=W4 x:=by intro _;rfl):QSd X (.Assign [.Name x pos'] (.ListComp elt [⟨tg,iter,ifs,0⟩] scope pos) spos) (xf i (dLc ms ag.length wi g tc te)):=by
 simp only[QEd.eq,QSd.eq,QId.eq,QIf.eq]at *
 obtain⟨gv,pg,kg⟩:=hg;refine(m8 (tc:=upT X.K tc) hN hix hx hsw S bg hi pg hif (qC (te:=up X.K te) he) hs).conv fun D σ H hh=>?_;obtain⟨Δ,M,E,sr,hr,q,k⟩:=hh;exact nP kg σ H _ ⟨Δ,M,_,sr,hr,q,fun d M1 v H1 q1 e1 hr1 rv=>k.nx _ M1 _ H1 q1 e1 hr1 ((sr.ext e1).set i rv)⟩
theorem kG{X:Cx}{e:J4}{te:TEd}{o:J4}{to:TEd}{cM bf:Pos}(ho:QEd X o to) (he:QEd X e te) (fS:X6 o "append" X.env (V7 o X.env)=V7 o X.env:=by rfl)
  (hse:J5 [e] X.env=(false,V7 e X.env)::J5 [] X.env:=by rfl)
  (oK:((V8 bf (J5 [e] X.env)).all (fun x => !x.1) && (backToKw bf (ac0 [] X.env)).all (fun x => x.1.isSome)
  &&decide ([e].length+([]:List ac1).length+(if([]:List ac1).isEmpty then 0 else 1)<30))=true:=by rfl)
  (fR:(cM.endLine==bf.line)=true:=by rfl) (gM:(V8 bf (J5 [] X.env)).any (·.1)=false:=by rfl):QEd X (.Call (.Attribute o "append" cM) [e] [] bf) (Cf to te):=by
 simp only[QEd.eq]at *
 exact(vB PySem.F.plainAttrs_list PySem.F.slot_list_append PySem.F.type_list_append (show MtR X "list.append" sY from uK) ho (j0 he oh hse) fS oK fR hse gM).conv fun σ H Q hup=>hup.el fun Δ M R sr hr q k=>⟨Δ,M,_,sr,hr,q,fun o M1 ov H1 ⟨a,l,eo,em,q1⟩ e1 hr1 ro=>by
   subst eo;simp only[Rep]at ro;subst ro;obtain⟨vs,hv,rl⟩:=hr1 a _ em;refine⟨.inl ⟨rfl,vs,SqL.of hv⟩,Δ,M1,_,sr.ext e1,hr1,q1,fun d M2 v H2 ⟨ds,em2,hz,q2⟩ e2 hr2 rv=>?_⟩;obtain⟨ws,hw,rl2⟩:=hr2 a _ em2;refine⟨a,ws,v,rfl,rfl,hw,by rw[<-rl2.length];exact hz,k _ _ _ _ q2 ((e1.trans e2).trans (Ext.write em2)) (hr2.write em2 (rl2.append (ah.cons rv ah.nil))) (by simp[Rep])⟩⟩
theorem cS{X:Cx}:QOd X none oA:=by
 simp only[QEd.eq,QAd.eq,QTd.eq,QWd.eq,QSd.eq,QSs.eq,QId.eq,QIf.eq,QOd.eq]at *
 exact yd 
theorem bH{X:Cx}{e:J4}{te:TEd}(h:QEd X e te):QOd X (some e) (vH te):=by
 simp only[QEd.eq,QAd.eq,QTd.eq,QWd.eq,QSd.eq,QSs.eq,QId.eq,QIf.eq,QOd.eq]at *
 exact zY (h:=h)
theorem qc{X:Cx}{e:J4}{es:List J4}{t:TAd}{pos:Pos}{p:Pos}{x:Str}{k:Nat}{n:Nat}{S:SpD}(F:FnD X.prog X.w X.K X.mg X.base x k n S) (hr:cI k X.A) (hg:Gl X x) (ha:QAd X (e::es) t) (hdb:(x==("__debug__":Str))=false:=by decide) (he:J5 (e::es) X.env=(false,V7 e X.env)::J5 es X.env:=by rfl) (hpl:(V8 pos (J5 es X.env)).any (·.1)=false:=by rfl) :
  QEd X (.Call (.Name x p) (e::es) [] pos) (pI n S t):=by
 simp only[QEd.eq,QAd.eq,QTd.eq,QWd.eq,QSd.eq,QSs.eq,QId.eq,QIf.eq,QOd.eq]at *
 exact dc (F:=F) (hr:=hr) (hg:=hg) (ha:=ha) (hdb:=hdb) (he:=he) (hpl:=hpl)
theorem oy{X:Cx}{e:J4}{te:TEd}{pos:Pos}(he:QEd X e te):QSd X (.Return (some e) pos) (Ay te):=by
 simp only[QEd.eq,QSd.eq]at *
 exact(rD he).conv fun D σ H hup=>hup.el fun Δ M E sr hr q k=>⟨Δ,M,_,sr,hr,q,fun d M1 v H1 ⟨a,ds,ed,em,q1⟩ e1 hr1 rv=>by
  subst ed;simp only[Rep]at rv;subst rv;exact k.rt _ _ _ H1 q1 (e1.trans (Ext.le LeM.del)) (hr1.le LeM.del) (Rep.froze hr1 LeM.del em mK)⟩
theorem aQ{X:Cx}{te:TEd}{tg:J4}{iter:J4}(h:QEd X iter te):QId X tg iter (Az te):=by
 simp only[QEd.eq,QId.eq]at *
 intro aa s σ H R I hh;obtain⟨Δ,M,R',sr,hr,q,k⟩:=hh;refine thn (h aa s σ H (fun v H1=>∃d ds M1,gW d=some ds/\(ds.length<=F3->R' ds M1)/\Ext M H M1 H1/\HR X.K M1 H1/\Rep X.K M1 H1 d v) I ⟨Δ,M,_,sr,hr,q,fun d M1 v H1 ⟨ds,ed,q1⟩ e1 hr1 rv=>⟨d,ds,M1,ed,q1,e1,hr1,rv⟩⟩) fun u s1 ⟨v,H1,I1,r1,d,ds,M1,ed,q1,e1,hr1,rv⟩=>?_;have lo:=aJ.len (K:=X.K) I1 rv;cases d with
 |tup es =>
  cases ed;simp only[Rep]at rv;obtain⟨a,vs,rfl,ta,rl⟩:=rv;cases r1;obtain⟨its,rvv,p,hz⟩:=I1.tuple ta.sq;refine wpAny_pyIter_tuple (show s1.heap.IsTuple a its.toArray from p) ?_;refine⟨s1.heap.objs.size,[s1.heap.objs.size],_,_,H1,rfl,I1.kept (t':=s1.toks) fun b o e=>F2 _ e,rL a _,⟨_,F6 _ rfl,rfl,rfl⟩,oj (o:=default) I1,?_⟩;refine k _ M1 _ H1 (q1 lo) e1 hr1 fun M2 H2 e2 hr2 i=>⟨fun d hd=>?_,fun hl=>⟨vs,(ta.ext e2).sq,by rw[<-rl.length];exact hl⟩⟩;obtain⟨v,gv,r⟩:=rl.get hd;refine⟨⟨vs,v,(ta.ext e2).sq,gv⟩,fun x H' ⟨eH,y⟩=>?_⟩;subst eH;have:=y vs (ta.ext e2).sq;rw[gv]at this;cases this;exact⟨Ext.refl _ _,hr2,r.ext e2⟩
 |lst es =>
  cases ed;simp only[Rep]at rv;obtain⟨a,vs,rfl,ta,rl⟩:=rv;cases r1;obtain⟨its,rvv,p,hz⟩:=I1.list (SqL.of ta.1);refine wpAny_pyIter_list p.isList ?_;refine⟨s1.heap.objs.size,[s1.heap.objs.size],_,_,H1,rfl,I1.kept (t':=s1.toks) fun b o e=>F2 _ e,nz a _,⟨_,F6 _ rfl,rfl,rfl⟩,oj (o:=default) I1,?_⟩;refine k _ M1 _ H1 (q1 lo) e1 hr1 fun M2 H2 e2 hr2 i=>⟨fun d hd=>?_,fun hl=>⟨vs,SqL.of (ta.ext e2).1,by rw[<-rl.length];exact hl⟩⟩;obtain⟨v,gv,r⟩:=rl.get hd;refine⟨⟨vs,v,SqL.of (ta.ext e2).1,gv⟩,fun x H' ⟨eH,y⟩=>?_⟩;subst eH;have:=y vs (SqL.of (ta.ext e2).1);rw[gv]at this;cases this;exact⟨Ext.refl _ _,hr2,r.ext e2⟩
 |scr es =>
  cases ed;simp only[Rep]at rv;obtain⟨a,vs,rfl,ta,rl⟩:=rv;cases r1;obtain⟨its,rvv,p,hz⟩:=I1.list ta.sq;refine wpAny_pyIter_list p.isList ?_;refine⟨s1.heap.objs.size,[s1.heap.objs.size],_,_,H1,rfl,I1.kept (t':=s1.toks) fun b o e=>F2 _ e,nz a _,⟨_,F6 _ rfl,rfl,rfl⟩,oj (o:=default) I1,?_⟩;refine k _ M1 _ H1 (q1 lo) e1 hr1 fun M2 H2 e2 hr2 i=>⟨fun d hd=>?_,fun hl=>⟨vs,(ta.ext e2).sq,by rw[<-rl.length];exact hl⟩⟩;obtain⟨v,gv,r⟩:=rl.get hd;refine⟨⟨vs,v,(ta.ext e2).sq,gv⟩,fun x H' ⟨eH,y⟩=>?_⟩;subst eH;have:=y vs (ta.ext e2).sq;rw[gv]at this;cases this;exact⟨Ext.refl _ _,hr2,r.ext e2⟩
 |str x =>
  simp only[gW]at ed
  by_cases hz:x.length<=F3
  ·rw[if_pos hz]at ed;cases ed;simp only[Rep]at rv;subst rv;obtain⟨t,rfl⟩:=r1;have hq:=k _ M1 _ H1 (q1 (by have hz2:x.cps.size<=F3:=hz;simpa[gb]using hz2)) e1 hr1 Cb;cases ha:x.cps.all (·<128)
   ·exact wpAny_pyIter_wide ha (tG I1 "str_iterator" (by decide) (fun A hA=>Walks.strWide hA _ x t) (fun A i s' Q E st q=>wpAny_pyIter_striter_wide st q) hq)
   ·exact wpAny_pyIter_ascii ha (tG I1 "str_ascii_iterator" (by decide) (fun A hA=>Walks.strAscii hA _ x t) (fun A i s' Q E st q=>wpAny_pyIter_striter_ascii st q) hq)
  ·rw[if_neg hz]at ed;cases ed
 |_=>cases ed
theorem kL{X:Cx}{e:J4}{te:TEd}{pos:Pos}(he:QEd X e te):QSd X (.Return (some e) pos) (Aq te):=by
 simp only[QEd.eq,QSd.eq]at *
 exact(rD he).conv fun D σ H hup=>hup.el fun Δ M E sr hr q k=>⟨Δ,M,_,sr,hr,q,fun d M1 v H1 ⟨M2,hle,q1⟩ e1 hr1 rv =>
  k.rt _ _ _ H1 q1 (e1.trans (Ext.le hle)) (hr1.le hle) (rv.ext (Ext.le hle))⟩
theorem vi{X:Cx}{a:J4}{t:TAd}{pos:Pos}{tg:J4}{p:Pos}(hg:Gl X "reversed") (hm:X.mg "reversed"=none) (ha:QAd X [a] t) (hs:J5 [a] X.env=[(false,V7 a X.env)]:=by rfl):QId X tg (.Call (.Name "reversed" p) [a] [] pos) (AF t):=by
 simp only[QAd.eq,QId.eq]at *
 intro aa s σ H R I hh;obtain⟨Δ,M,R',sr,hr,q,k⟩:=hh;refine Call_ (di I hg hm mj (O1 (thn (ha pos aa s σ H (fun vs H1=>∃es M1,ah X.K M1 H1 [.tup es] vs/\(es.length<=F3->R' es.reverse M1)/\Ext M H M1 H1/\HR X.K M1 H1) I ⟨Δ,M,_,sr,hr,q,fun ds M1 vs H1 ⟨es,ed,q1⟩ e1 hr1 rv=>⟨es,M1,by rw[<-ed];exact rv,q1,e1,hr1⟩⟩) fun us s1 ⟨vs,H1,I1,r1,es,M1,rv,q1,e1,hr1⟩=>?_) hs rfl));obtain⟨v,rfl,rt⟩:=rv.one;cases r1 with
 |cons r rr =>
  cases rr;have lo:=aJ.len (K:=X.K) I1 rt;simp only[Rep]at rt;obtain⟨ad,vs,rfl,ta,rl⟩:=rt;cases r;obtain⟨its,rvv,pt,hz⟩:=I1.tuple ta.sq;have hl1:=rvv.length;have hl2:=rl.length;have hsz:its.toArray.size<2 ^ 63:=by have:=wW;simp;lia
  refine l9 pt hsz fun kk=>?_;refine dR (i:=(its.toArray.size:Int)-1) ⟨_,F6 _ rfl,rfl,rfl⟩ ?_;refine⟨s1.heap.objs.size,[s1.heap.objs.size],_,_,H1,rfl,I1.kept (t':=kk) fun b o e=>F2 _ e,vf ad _ es.length,⟨P9 _,_,F6 _ rfl,rfl,?_⟩,oj (o:=default) I1,?_⟩
  ·show Data.fields _=_;have e1:(its.toArray.size:Int)-1=(es.length:Int)-1-((0:Nat):Int):=by simp;lia
   rw[e1]
  ·refine k _ M1 _ H1 (q1 lo) e1 hr1 fun M2 H2 e2 hr2 i=>⟨fun d hd=>?_,fun hl=>by show es.length<=i;simpa using hl⟩;have hi:i<es.length:=by
    have:=(K6.mp hd).1;simpa using this
   rw[List.getElem?_reverse hi]at hd;obtain⟨v,gv,r⟩:=rl.get hd;refine⟨⟨⟨vs,(ta.ext e2).sq,by lia⟩,hi⟩,fun x H' ⟨eH,y⟩=>?_⟩;subst eH;have:=y vs (ta.ext e2).sq;rw[gv]at this;cases this;exact⟨Ext.refl _ _,hr2,r.ext e2⟩
theorem bL{X:Cx}{e:J4}{te:TEd}{pos:Pos}{lo hi:Option J4}{tl th:TOd}{p2:Pos}(he:QEd X e te) (hl:QOd X lo tl) (hu:QOd X hi th):QEd X (.Subscript e (.Slice lo hi none p2) pos) (Eg te tl th):=by
 simp only[QEd.eq,QOd.eq]at *
 refine(wF (SlR.or zp (SlR.or CI (SlR.or CB vA))) he hl hu).conv fun σ H Q hh=>?_;obtain⟨Δ,M,R,sr,hr,q,k⟩:=hh;refine⟨Δ,M,_,sr,hr,q,fun x M1 v H1 q1 e1 hr1 rv=>⟨Δ,M1,_,sr.ext e1,hr1,q1,fun l M2 H2 q2 e2 hr2=>⟨Δ,M2,_,(sr.ext e1).ext e2,hr2,q2,fun u M3 H3 ⟨z,ez,q3⟩ e3 hr3=>?_⟩⟩⟩;have rr:=((rv.ext e2).ext e3).rd hr3;have ee:=(e1.trans e2).trans e3;have kk:∀w H',Ext M3 H3 M3 H'->HR X.K M3 H'->Rep X.K M3 H' z w->Q w H':=fun w H' e4 hr4 r4=>k z M3 w H' q3 (ee.trans e4) hr4 r4;generalize rdM M3 x=d at rr ez;cases d with
 |lst ds =>
  cases ez;obtain⟨a,vs,rfl,sq,rl⟩:=rr;refine .inl ⟨a,vs,rfl,SqL.of sq,fun p hp=>dY hr3 hp ?_ kk⟩;unfold dJ nM;rw[<-rl.length];exact(rl.drop _).take _
 |scr ds =>
  cases ez;obtain⟨a,vs,rfl,sq,rl⟩:=rr;refine .inl ⟨a,vs,rfl,sq,fun p hp=>dY hr3 hp ?_ kk⟩;unfold dJ nM;rw[<-rl.length];exact(rl.drop _).take _
 |str s =>
  simp only[slE,slD]at ez
  by_cases hz:s.length<=F3
  ·rw[if_pos hz]at ez;cases ez;exact .inr (.inr (.inl ⟨s,mh rr,hz,kk _ H3 (Ext.refl _ _) hr3 (by simp[Rep])⟩))
  ·rw[if_neg hz]at ez;cases ez
 |tup ds =>
  cases ez;have rt:=aJ.tup hr3 rr;obtain⟨a,vs,rfl,sq,rl⟩:=rr
  by_cases hw:HT.sIx ds.length 0 l=0/\HT.sIx ds.length ds.length u=ds.length
  ·refine .inr (.inr (.inr ⟨a,vs,rfl,sq,by rw[<-rl.length];exact hw,kk _ H3 (Ext.refl _ _) hr3 ?_⟩));rw[qL hw];exact rt
  ·refine .inr (.inl ⟨a,vs,rfl,sq,by rw[<-rl.length];exact hw,fun p hp=>oP hr3 hp ?_ kk⟩);unfold dJ nM;rw[<-rl.length];exact(rl.drop _).take _
 |_=>cases ez
theorem xt{X:Cx}{pos:Pos}{scope:R0}{cl:List (Str×H0)}{ms:List Bool}{ag:List Str}{ifs:List J4}{tg:J4}{iter:J4}{elt:J4}{i:Nat}{x:Str}{spos pos':Pos}{wi:TId}{g:GD}{tc:TTd}{te:TEd}(hN:X.N.Nodup) (hix:X.N[i]?=some x) (hx:X.env.scope.names.lookup x=some .local)
  (hsw:W9 (.ListComp elt [⟨tg,iter,ifs,0⟩] scope pos) (some (.Name x pos')) spos.line X.env=W4 true) (S:cA X scope cl ms ag) (bg:X.calm=true) (hi:QId X tg iter wi) (hg:PGa X scope cl ag tg g)
  (hif:∀C s H ex,QIf (au X scope cl (X.N++ag) C s H ex) ifs tc) (he:∀C s H ex,QEd (au X scope cl (X.N++ag) C s H ex) elt te)
  (hs:∀x,M0 iter X.env x=W4 x:=by intro _;rfl):QSd X (.Assign [.Name x pos'] (.ListComp elt [⟨tg,iter,ifs,0⟩] scope pos) spos) (xf i (B0 ms ag.length wi g tc te)):=by
 simp only[QEd.eq,QSd.eq,QId.eq,QIf.eq]at *
 obtain⟨gv,pg,kg⟩:=hg;refine(m8 (tc:=upT X.K tc) hN hix hx hsw S bg hi pg hif (qC (te:=up X.K te) he) hs).conv fun D σ H hh=>?_;obtain⟨Δ,M,E,sr,hr,q,k⟩:=hh;exact vT kg σ H _ ⟨Δ,M,_,sr,hr,q,fun d M1 v H1 q1 e1 hr1 rv=>k.nx _ M1 _ H1 q1 e1 hr1 ((sr.ext e1).set i rv)⟩
section
variable{X:Cx}{aK:List ab0}{t:TSd}{e:J4}{tt:TTd}
theorem sh(h:QSs X aK t):xB X aK t:=by
 rw[QSs.eq]at h;exact h
theorem BL(h:QWd X e tt):QTd X e tt:=by
 simp only[QWd.eq,QTd.eq]at *
 exact PWd.pt h
end
end L2
namespace L2
open PySem PySem.Spec PyProof.Rows PySem.Builtin.Str
end L2
namespace L2
open PySem PySem.Spec PyProof.Rows
def Few(n:Int):Prop:=J8.Int.intBits n<=2 ^ 20
theorem zO{ns:List Int}:R3.weightAll (ns.map .int)<=2 ^ 20->∀n∈ns,Few n:=by
 induction ns with
 |nil=>intro _ n h;cases h
 |cons a r ih =>
  intro h n hn;rw[N5,R3.weightAll]at h;rcases N4.mp hn with e|e
  ·subst e;have:R3.weight (.int n)=J8.Int.intBits n:=by unfold R3.weight J8.Int.intBits;rfl
   unfold Few
   lia
  ·exact ih (by lia) n e
theorem z0{ns:List Int}(h:R3.layableAll [.list (ns.map .int)]=true):∀n∈ns,Few n:=by
 refine zO ?_;have h1:R3.layable (.list (ns.map .int))=true:=by
  unfold R3.layableAll at h;simpa using h
 unfold R3.layable at h1;have h2:=(Bool.and_eq_true_iff.mp h1).2;have h3:=of_decide_eq_true h2;unfold R3.weight at h3;exact h3
end L2
namespace Att
open PySem PySem.W PySem.Calls PyProof.Rows
theorem attach_callB{l:OpenLaw}{n:Nat}{q:K7}{loose:List Str}{XP:(Str->Option F0)->K2->Prop}{YP:P5->K2->Prop}{d:DefRec}
  (hn:l.most=some n) (hdf:d.params.defaults=[])
  (call:∀ (w:P5) (s₀ s₁:F1) (mg mb:Str → Option F0) (fa:H0) (o:Obj) (pm cd doc:F0) (a:H0) (vs:List F0) (ns:List Int),
   Ground q loose [] XP w s₀ mg mb s₁.heap->YP w s₁.heap ->
   s₁.heap.get? fa=some o->o.data=.func (docDef d.name d.params d.body d.scope pm cd doc)->s₁.heap.CodeRec cd d.name->mg d.name=some (.ref fa) ->
   s₁.heap.get? a=some { cls:=.type "list",data:=.seq vs.toArray }->IntsAre vs ns->ns.length<=n->(∀m∈ns,L2.Few m)->s₁.gens=#[] ->
   V3 (K1 l.prog w) callerA (.call (.ref fa) ⟨[.ref a],[]⟩) (fun r s'=>r=.ok (.ret (.bool true))/\OldK s₁.heap s'.heap/\s'.os=s₁.os/\aa9 s'.gens) s₁) :
  WalkO q loose XP YP l.row.toRowW d [] (fun f vs=>PySem.call f vs):=by
 intro w s₀ s₁ mg mb G Y fa o pm cd doc dV kV ho hd hcd hD hmg hg args vals as hpre hlay hrd hwl hlo;obtain rfl:dV=.none:=Dflts.none hD hdf;obtain rfl:kV=.none:=Dflts.noKw hD;obtain⟨a,vs,ns,rfl,rfl,hobj,hints,bv⟩:=tU hn hpre hwl;refine enter_call (ab1 (call w s₀ s₁ mg mb fa o pm cd doc a vs ns G Y ho (fd_plain hd) hcd hmg hobj hints bv (L2.z0 hlay) hg) fun r s' hq=>?_);obtain⟨rfl,h2,h3,h4⟩:=hq;exact⟨.inl ⟨.bool true,.bool true,[],rfl,fun _=>rfl,.bool true,uk l _,fun _=>⟨List.Pairwise.nil,fun _ hm=>(nomatch hm)⟩⟩,h2,h3,h4⟩
end Att
namespace L2
open PySem PySem.Spec PyProof.Rows
section
variable{X:Cx}{pos:Pos}
instance (n:Int):Decidable (Few n):=by unfold Few;exact inferInstance
def jr(i j:Int):Prop:=iY i j∨(Few i/\Few j)
instance:∀i j,Decidable (jr i j):=fun i j=>Classical.propDecidable _
theorem jr.ok{i j:Int}(h:jr i j):IntMulOk i j:=by
 rcases h with h|⟨a,b⟩
 ·exact h.ok
 ·exact .of_bits a b
theorem zc:OpR X (O6 .Mult) (rI jr fun i j=>.int (i*j)):=opI fun _ _ _ _ _ _ _ hc q=>mul_int q hc.ok
theorem BZ:bC X (O6 .Mult) (iOp fun i j=>if jr i j then some (.int (i*j))else none):=o5 (fun _ _=>rfl) zc
def dmD:List D->Option D
 |[.int i,.int j]=>if pH i j then some (.tup [.int (i / j),.int (i % j)])else none
 |_=>none
noncomputable def Fi:List D->Option D
 |[.int i,.int j]=>some (.int (if j > i then j else i))
 |_=>none
end
open AutoSeq1 (wpAny_loadPart')
section
variable{prog:K7}{w:P5}{A:M9}{E:F0->F1->Prop}{s:F1}
theorem jy(l:H0) (its:Array F0) (n:Nat) (dct:Option H0) (sl:Array (Option F0)) :
  Meets (J8.«enumerate.__new__» ⟨[.type "enumerate",.ref l],[]⟩) (fun _ R s=>s.heap.get? l=some { cls:=.type "tuple",dict:=dct,data:=.seq its n,slots:=sl } /\
   R (.ok (.ret (.ref (s.heap.push { cls:=.type "tuple_iterator",data:=.fields #[.ref l,.int 0 0] }).objs.size)))
    { s with heap:=(s.heap.push { cls:=.type "tuple_iterator",data:=.fields #[.ref l,.int 0 0] }).push { cls:=.type "enumerate",data:=.fields #[.none,.bool false,.ref s.heap.objs.size,aa1 0,.none,.none] } }) :=
 .of_wp fun prog w A R s h=>by
  obtain⟨hp,g,d,tk,os⟩:=s;have hl:=h.1;have hR:=h.2;have hsb:=sub_enumerate;have hT:K2.IsTuple (F1.heap ⟨hp,g,d,tk,os⟩) l its:=⟨_,hl,rfl,n,rfl⟩
  wp_walk using V5 hl
  refine wpAny_stack_any fun st=>F7 ?_
  split
  ·rename_i c _ _ _ _ _;cases(c==ac6 "enumerate")<;>(wp_walk using V5 hl,wpAny_pyIter_tuple hT;exact⟨_,rfl,hR⟩)
  ·wp_walk using V5 hl,wpAny_pyIter_tuple hT
   exact⟨_,rfl,hR⟩
theorem jF{l:H0}{its:Array F0}{Q:F0->F1->Prop}(hL:s.heap.IsTuple l its)
  (h:∀ h',IsEnum h' (s.heap.objs.size + 1) s.heap.objs.size 0 .none → h'.IsTupleIter s.heap.objs.size l 0 → h'.objs.size = s.heap.objs.size + 2 →
   (∀b o,s.heap.get? b=some o->h'.get? b=some o)->Q (.ref (s.heap.objs.size+1)) { s with heap:=h' }) :
  J3 (K1 prog w) A (call (.type "enumerate") [.ref l]) Q E s:=by
 obtain⟨⟨c,dct,dt,sl⟩,hl,hc,n,hd⟩:=hL;obtain rfl:c=.type "tuple":=hc;obtain rfl:dt=.seq its n:=hd;refine callType_new F.called_enumerate (by decide) (F.typeCall_enumerate_1 _) (F.newCall_enumerate_1 _) (fun ob=>F.args_object_init_2 ob _) F.entry_enumerate_new (jy l its n dct sl) ⟨hl,?_⟩;have hz:(s.heap.push { cls:=.type "tuple_iterator",data:=.fields #[.ref l,.int 0 0] }).objs.size=s.heap.objs.size+1:=P0 ..;show _/\_;rw[hz];have he:IsEnum ((s.heap.push { cls:=.type "tuple_iterator",data:=.fields #[.ref l,.int 0 0] }).push { cls:=.type "enumerate",data:=.fields #[.none,.bool false,.ref s.heap.objs.size,aa1 0,.none,.none] }) (s.heap.objs.size+1) s.heap.objs.size 0 .none:=by
  have q:=F6 (s.heap.push { cls:=.type "tuple_iterator",data:=.fields #[.ref l,.int 0 0] }) (o:={ cls:=.type "enumerate",data:=.fields #[.none,.bool false,.ref s.heap.objs.size,aa1 0,.none,.none] }) rfl
  rwa [hz]at q
 exact⟨⟨_,he,rfl⟩,h _ he ⟨_,F2 _ (F6 _ rfl),rfl,rfl⟩ (by rw[P0,hz]) fun b o x=>F2 _ (F2 _ x)⟩
theorem jQ{it t:H0}{i:Nat}{its}{x:F0}{Q:F0->F1->Prop}(hit:s.heap.IsTupleIter it t i) (ht:s.heap.IsTuple t its) (hx:its[i]?=some x)
  (hQ:∀h',h'.IsTupleIter it t (i+1)->N6 it s.heap h'->Q x { s with heap:=h' }):J3 (K1 prog w) A (R5 (.ref it)) Q E s:=by
 obtain⟨o,ho,hc,hd⟩:=id hit;obtain⟨ol,hol,_,nl,hdl⟩:=ht;unfold R5;refine u8 (O2 (name:=U8 "__next__") hit.typeIs Q7 (Q8 Q7 hit.typeIs F.entry_tuple_iterator_next ?_ (F.args_tuple_iterator_next_1 _)));show J3 _ _ (field (.ref it) 0 >>= _) _ _ s;refine u8 (Q0 ho hd (x:=.ref t) rfl ?_);show J3 _ _ (if(P7 t==V9)=true then _ else _) _ _ s;rw[if_neg (show ¬ ((P7 t==V9)=true)from K9)];show J3 _ _ (field (.ref it) 1 >>= _) _ _ s;refine u8 (Q0 ho hd (x:=.int i 0) rfl ?_);show J3 _ _ (seqItems? (.ref t) >>= _) _ _ s;refine u8 (wpAny_seqItems hol hdl ?_);simp only[Int.toNat_natCast,hx];refine u8 (W8 ho hd (by simp) (F7 ⟨x,rfl,F7 (hQ _ ?_ (T0 ..))⟩));exact⟨_,K2.get?_update_self _ ho (Obj.isFreed_of_fields (R1 hd _)),(Obj.cls_mapFields ..).trans hc,by rw[R1 hd];simp[aa1]⟩
theorem kW{it t:H0}{i:Nat}{its}{Q:F0->F1->Prop}(hh:A.handled=none) (hit:s.heap.IsTupleIter it t i) (ht:s.heap.IsTuple t its) (hx:its[i]?=none)
  (hE:∀h' e,K2.ExtBut it s.heap h'->(∃o,h'.get? e=some o/\o.cls=.type "StopIteration")->E (.ref e) { s with heap:=h' }):J3 (K1 prog w) A (R5 (.ref it)) Q E s:=by
 obtain⟨o,ho,hc,hd⟩:=id hit;obtain⟨ol,hol,_,nl,hdl⟩:=ht;unfold R5;refine u8 (O2 (name:=U8 "__next__") hit.typeIs Q7 (Q8 Q7 hit.typeIs F.entry_tuple_iterator_next ?_ (F.args_tuple_iterator_next_1 _)));show J3 _ _ (field (.ref it) 0 >>= _) _ _ s;refine u8 (Q0 ho hd (x:=.ref t) rfl ?_);show J3 _ _ (if(P7 t==V9)=true then _ else _) _ _ s;rw[if_neg (show ¬ ((P7 t==V9)=true)from K9)];show J3 _ _ (field (.ref it) 1 >>= _) _ _ s;refine u8 (Q0 ho hd (x:=.int i 0) rfl ?_);show J3 _ _ (seqItems? (.ref t) >>= _) _ _ s;refine u8 (wpAny_seqItems hol hdl ?_);simp only[Int.toNat_natCast,hx];refine u8 (ad0 (u8 (W8 ho hd (by simp) ?_)));show J3 _ _ (newExc (.type "StopIteration") [] >>= _) _ _ _;refine u8 ?_;simp only[newExc,newTuple];refine u8 (L5 ?_ (by size_fits));refine u8 (m:=aa0 _ _) (U0 (a:=V9) (by first|rfl|(simp only[aa0];rfl)) ?_);refine L5 ?_ (by size_fits);simp only[raiseNew];refine u8 (wpAny_handled ?_)
 first|rw[show A.in1.handled=none from hh]|rw[hh]
 refine u8 (F7 (wpAny_throw ?_));exact hE _ _ (((T0 ..).extBut.push _).push _) ⟨_,F6 _ rfl,rfl⟩
theorem uu{prog:K7}{w:P5}{A:M9}(hh:A.handled=none) (it l:H0) (hne:l≠it) (its:Array F0) :
  Draws prog w A it [it,l] its.size (fun i v=>its[i]?=some v) (fun i h=>h.IsTupleIter it l i/\h.IsTuple l its) where
 live:=fun _ _ st=>let⟨o,ho,_⟩:=st.1;⟨o,ho⟩
 frame:=fun _ _ _ st hk=>⟨let⟨o,ho,r⟩:=st.1;⟨o,hk it (by simp) o ho,r⟩,let⟨o,ho,r⟩:=st.2;⟨o,hk l (by simp) o ho,r⟩⟩
 item:=fun i s Q E hi st hQ=>jQ st.1 st.2 (x:=its[i]) (by simp[hi]) fun h' hit' hs'=>hQ _ h' s.toks (by simp[hi]) ⟨hit',st.2.extBut hs'.extBut hne⟩ hs'
 done:=fun s Q E st hE=>kW hh st.1 st.2 (by simp) hE
end
section
variable{X:Cx}{aa:List (H0×Obj)}{σ:St}{H:Hp}{s:F1}{h':K2}
theorem Inv.turned2{t':Nat}{e it:H0}(I:Inv X aa σ H s) (k:∀b o,b≠e->b≠it->s.heap.get? b=some o->h'.get? b=some o) (f1:cH X aa H e) (f2:cH X aa H it):Inv X aa σ H { s with heap:=h',toks:=t' }:=by
 obtain⟨a0,a1,a2,a3,a4,a5⟩:=f1;obtain⟨b0,b1,b2,b3,b4,b5⟩:=f2;have nit:∀b u,H b=some u->b≠e/\b≠it:=fun b u q=>⟨fun z=>(by rw[z,a0]at q;cases q),fun z=>(by rw[z,b0]at q;cases q)⟩;have kk:∀b o,b∉[e,it]->s.heap.get? b=some o->h'.get? b=some o:=fun b o hc q=>k b o (fun z=>hc (by simp[z])) (fun z=>hc (by simp[z])) q;refine I.step (g':=s.gens) (d':=s.drawn) (ch:=[e,it]) (fun b hb=>?_) (fun b o _ _ hc q _=>kk b o hc q) (fun b o _ _ hc q _=>⟨o.slots,kk b o hc q⟩) (fun _ _ _ _ n=>n)
  (fun b o hc q=>⟨o,kk b o hc q⟩) (fun _ _ q=>q) (fun _ _ _ q=>q) (fun b ps q=>⟨#[],by rw[q];simp⟩) (fun m hm=>?_) (fun b u q=>?_) I.bare
 ·rcases N4.mp hb with z|z
  ·subst z;exact⟨a3,a1,a4,a5⟩
  ·have z:=N1.mp z;subst z;exact⟨b3,b1,b4,b5⟩
 ·obtain⟨o,es,ep,ho,r⟩:=hm;exact⟨o,es,ep,k _ o (Z9 a1) (Z9 b1) ho,r⟩
 ·refine(I.hok b u q).stay (fun c v hc q'=>?_) (fun _ q=>q) fun _ _ q=>q;rcases hc with z|z
  ·rw[z]at q' ⊢;exact k _ _ (nit b u q).1 (nit b u q).2 q'
  ·exact k c v (nit c _ z).1 (nit c _ z).2 q'
end
def mq(b:Bool) (K:o0) (H:Hp) (a:H0) (xs:List V):Prop:=match b with|true=>SqT K H a xs|false=>SqL K H a xs
def pf(b:Bool) (h:K2) (it a:H0) (i:Nat):Prop:=match b with|true=>h.IsTupleIter it a i|false=>h.IsListIter it a i
def Du(b:Bool):String:=match b with|true=>"tuple_iterator" |false=>"list_iterator"
theorem pf.obj{b:Bool}{h:K2}{it a:H0}{i:Nat}(st:pf b h it a i):∃o,h.get? it=some o/\o.cls=.type (Du b)/\o.data=.fields #[.ref a,.int i 0]:=by
 cases b<;>exact st
theorem pf.of{b:Bool}{h:K2}{it a:H0}{i:Nat}(st:∃o,h.get? it=some o/\o.cls=.type (Du b)/\o.data=.fields #[.ref a,.int i 0]):pf b h it a i:=by
 cases b<;>exact st
theorem qu{X:Cx}{aa:List (H0×Obj)}{σ:St}{H:Hp}{s:F1}{b:Bool}{a it:H0}{i:Nat}{xs:List V}(hc:X.calm=true) (I:Inv X aa σ H s) (hq:mq b X.K H a xs) (hit:pf b s.heap it a i) :
  ∃(its:List F0) (St:Nat->K2->Prop),ao xs its/\Draws X.prog X.w X.A.in1 it [it,a] its.toArray.size (fun i v=>its.toArray[i]?=some v) St/\St i s.heap/\(∀j h,St j h->pf b h it a j)/\∃o,s.heap.get? a=some o/\o.cls≠.type "enumerate":=by
 cases b with
 |true =>
  obtain⟨its,rv,p,hz⟩:=I.tuple hq;have hT:s.heap.IsTuple a its.toArray:=p;have hal:a≠it:=fun z=>by
   obtain⟨o,q,c,_⟩:=hT;obtain⟨o',q',c',_⟩:=hit;rw[z,q']at q;cases q;rw[c']at c;exact absurd c (by decide)
  obtain⟨o,q,c,_⟩:=id hT;exact⟨its,_,rv,uu (A:=X.A.in1) (I.ok.hd hc) it a hal its.toArray,⟨hit,hT⟩,fun j h st=>st.1,o,q,by rw[c];decide⟩
 |false =>
  obtain⟨its,rv,p,hz⟩:=I.list hq;have hT:s.heap.IsList a its.toArray:=p.isList;have hal:a≠it:=fun z=>by
   obtain⟨o,q,c,_⟩:=hT;obtain⟨o',q',c',_⟩:=hit;rw[z,q']at q;cases q;rw[c']at c;exact absurd c (by decide)
  obtain⟨o,q,c,_⟩:=id hT;exact⟨its,_,rv,Draws.list (A:=X.A.in1) (I.ok.hd hc) it a hal its.toArray,⟨hit,hT⟩,fun j h st=>st.1,o,q,by rw[c];decide⟩
theorem mq.inj{X:Cx}{aa:List (H0×Obj)}{σ:St}{H:Hp}{s:F1}{b:Bool}{a:H0}{xs ys:List V}(I:Inv X aa σ H s) (h:mq b X.K H a xs) (h':mq b X.K H a ys):xs=ys:=by
 cases b with
 |true=>exact I.tuple_inj h h'
 |false=>exact I.list_inj h h'
def Ite(b:Bool) (K:o0) (a:H0) (n:Nat):It :=
 ⟨fun i H=>(∃xs,mq b K H a xs/\xs.length=n)/\i<n,fun i H x H'=>∃T y,x=.ref T/\H T=none/\H'=upd H T (.tup [.int i,y])/\∀xs,mq b K H a xs->xs[i]?=some y,fun i H=>(∃xs,mq b K H a xs/\xs.length=n)/\n<=i⟩
theorem cH.upd{X:Cx}{aa:List (H0×Obj)}{H:Hp}{b T:H0}{o:HO}(f:cH X aa H b) (h:b≠T):cH X aa (upd H T o) b:=by
 obtain⟨f0,r⟩:=f;exact⟨by rw[aq h];exact f0,r⟩
theorem tX{P:K7}{w:P5}{K:o0}{elts:List J4}{x1:Nat}{pt:Pos}(b:Bool) (a e it:H0) (n:Nat):iJ P w K (.Tuple elts x1 pt) (Ite b K a n) [e,it] e (fun i h=>(∃old,IsEnum h e it i old)/\pf b h it a i/\e≠it/\i<=n) where
 mem:=by simp
 obj:=fun i h st c hb=>by
  rcases N4.mp hb with z|z
  ·subst z;obtain⟨⟨old,q⟩,_⟩:=st;exact⟨_,q,fun v z=>by cases z⟩
  ·have z:=N1.mp z;subst z;obtain⟨_,st,_⟩:=st;obtain⟨o,q,_,d⟩:=st.obj;exact⟨o,q,fun v z=>by rw[d]at z;cases z⟩
 keep:=fun i h h' st k=>by
  obtain⟨⟨old,q⟩,st,ne,le⟩:=st;obtain⟨o,q2,r⟩:=st.obj;exact⟨⟨old,k e (by simp) _ q⟩,.of ⟨o,k it (by simp) o q2,r⟩,ne,le⟩
 item:=by
  intro X hP hw hK hc i aa s σ H E I hf st hg;subst hP hw hK;obtain⟨⟨xs,hq,hxl⟩,hin⟩:=hg;have hx:xs[i]?=some (xs[i]'(by lia)):=by simp[hxl,hin]
  generalize xs[i]'(by lia)=x at hx;obtain⟨⟨old,he⟩,hit,hne,hle⟩:=st;obtain⟨its,St,rv,dr,hst0,hback,ob,hob,hcl⟩:=qu hc I hq hit;obtain⟨u,hu,ru⟩:=rv.get hx;have hea:e≠a:=fun z=>by
   rw[<-z,he]at hob;cases hob;exact hcl rfl
  have fe:=hf e (by simp);have fi:=hf it (by simp);have hlt:i<its.toArray.size:=by
   have h1:=(K6.mp hu).1;simpa using h1
  have eT:e<s.heap.objs.size:=F4 he;have iT:it<s.heap.objs.size:=by obtain⟨o,q,_⟩:=hit.obj;exact F4 q
  refine wpAny_pyNext_enum_itemD dr he hst0 hlt hne (by simp[hne,hea]) fun y h1 tk hy hout hst hTn hsz hk=>?_;have ey:y=u:=by
   have h2:its[i]?=some y:=by simpa using hy
   rw[hu]at h2;cases h2;rfl
  subst ey;refine⟨_,rfl,?_⟩;have In:H s.heap.objs.size=none:=I.hok.fresh (F8 _);have I1:Inv X aa σ (upd H s.heap.objs.size (.tup [.int i,x])) { s with heap:=s.heap.push { cls:=.type "tuple",data:=.seq #[.int i tk,y] },toks:=tk+1 } :=
   I.laid (fun b o q=>F2 _ q) (F8 _) ⟨by simp only[U5,List.length_nil];rw[sizeLine_eq];decide,[.int i tk,y],.cons ⟨_,rfl⟩ (.cons ru .nil),⟨_,F6 s.heap rfl,rfl,⟨0,rfl⟩,rfl⟩⟩
  have fe1:cH X aa (upd H s.heap.objs.size (.tup [.int i,x])) e:=fe.upd (I0 eT);have fi1:cH X aa (upd H s.heap.objs.size (.tup [.int i,x])) it:=fi.upd (I0 iT);have I2:Inv X aa σ (upd H s.heap.objs.size (.tup [.int i,x])) { s with heap:=h1,toks:=tk+1 }:=I1.turned2 (t':=tk+1) (fun b o hb1 hb2 q=>by
   by_cases hbs:b=s.heap.objs.size
   ·subst hbs;rw[F6 s.heap rfl]at q;cases q;exact hTn
   ·refine hk b o hb1 hb2 ?_;rcases K2.get?_push_cases q with z|z
    ·exact absurd z.1 hbs
    ·exact z) fe1 fi1
  refine wpAny_letOwnedTupleGo_enum hout fun h2 he2 hs2=>?_;obtain⟨g0,g1,g2,g3,g4,g5⟩:=fe1;have I3:=I2.turned (t':=tk+1) (h':=h2) (it:=e) (fun b o hb q=>(hs2.2 b hb).trans q) g0 g1 g3 g4 g5;refine⟨.ref s.heap.objs.size,_,I3,rfl,⟨_,x,rfl,In,rfl,fun ys hys=>by rw[mq.inj I hys hq];exact hx⟩,⟨⟨y,by simpa using he2⟩,?_,hne,hin⟩,fun b hb=>?_⟩
  ·obtain⟨o,q,r⟩:=(hback _ _ hst).obj;exact .of ⟨o,(hs2.2 it (Z9 hne)).trans q,r⟩
  ·rcases N4.mp hb with z|z
   ·subst z;exact g0
   ·rw[N1.mp z];exact fi1.1
 done:=by
  intro X hP hw hK hc i aa s σ H E I hf st hg;subst hP hw hK;obtain⟨⟨xs,hq,hxl⟩,hx⟩:=hg;obtain⟨⟨old,he⟩,hit,hne,hle⟩:=st;obtain⟨its,St,rv,dr,hst0,_⟩:=qu hc I hq hit;obtain⟨f0,f1,f2,f3,f4,f5⟩:=hf it (by simp);have hl:=rv.length;have hi:i=its.toArray.size:=by simp;lia
  rw[hi]at hst0;exact wpAny_pyNext_enum_endD dr he hst0 fun h' eb=>⟨rfl,I.turned (t':=s.toks) (fun b o hb q=>eb b o hb q) f0 f1 f3 f4 f5⟩
 self:=fun _ _ _ _ _ st h=>by
  obtain⟨⟨old,he⟩,_⟩:=st;exact wpAny_pyIter_enum he h
section
variable{X:Cx}{a:J4}{t:TAd}{pos:Pos}
def lK(n:Nat):List D->List D
 |[]=>[]
 |d::r=>.tup [.int n,d]::lK (n+1) r
theorem j4:∀(ds:List D) (n i:Nat),(lK n ds)[i]?=(ds[i]?).map fun d=>.tup [.int ((n+i:Nat):Int),d]
 |[],n,i=>by simp[lK]
 |d::r,n,0=>by simp[lK]
 |d::r,n,i+1=>by
  simp only[lK,List.getElem?_cons_succ];rw[j4 r (n+1) i];have:n+1+i=n+(i+1):=by lia
  rw[this]
theorem ik:∀(ds:List D) (n:Nat),(lK n ds).length=ds.length
 |[],_=>rfl
 |d::r,n=>by simp[lK,ik r (n+1)]
def sqD(b:Bool) (es:List D):D:=match b with|true=>.tup es|false=>.lst es
def yZ(b:Bool) (ta:TAd):TId:=fun Δ M R=>ta Δ M fun ds M1=>∃es,ds=[sqD b es]/\(es.length<=F3->R (lK 0 es) M1)
def tw(ta:TAd):TId:=fun Δ M R=>ta Δ M fun ds M1=>∃es,ds=[.lst es]/\(es.length<=F3->R (lK 0 es) M1)
theorem CC{K:o0}{M:DH}{H:Hp}{b:Bool}{es:List D}{v:V}(h:Rep K M H (sqD b es) v):∃a vs,v=.ref a/\ah K M H es vs/\∀M2 H2,Ext M H M2 H2->mq b K H2 a vs:=by
 cases b with
 |true =>
  simp only[sqD,Rep]at h;obtain⟨a,vs,e,ta,rl⟩:=h;exact⟨a,vs,e,rl,fun M2 H2 x=>(ta.ext x).sq⟩
 |false =>
  simp only[sqD,Rep]at h;obtain⟨a,vs,e,ta,rl⟩:=h;exact⟨a,vs,e,rl,fun M2 H2 x=>SqL.of (x _ _ ta.1 ta.2).1⟩
theorem qQ{prog:K7}{w:P5}{A:M9}{E:F0->F1->Prop}{X:Cx}{aa:List (H0×Obj)}{σ:St}{H:Hp}{s:F1}{b:Bool}{l:H0}{xs:List V}{Q:F0->F1->Prop}(I:Inv X aa σ H s) (hq:mq b X.K H l xs)
  (h:∀ h',IsEnum h' (s.heap.objs.size + 1) s.heap.objs.size 0 .none → pf b h' s.heap.objs.size l 0 → h'.objs.size = s.heap.objs.size + 2 →
   (∀b o,s.heap.get? b=some o->h'.get? b=some o)->Q (.ref (s.heap.objs.size+1)) { s with heap:=h' }):J3 (K1 prog w) A (call (.type "enumerate") [.ref l]) Q E s:=by
 cases b with
 |true =>
  obtain⟨its,rv,p,hz⟩:=I.tuple hq;exact jF (show s.heap.IsTuple l its.toArray from p) h
 |false =>
  obtain⟨its,rv,p,hz⟩:=I.list hq;exact call_enumerate_list p.isList h
theorem lS:T5 "enumerate"=some (.type "enumerate"):=by kernel_rfl
theorem zV{b:Bool}{elts:List J4}{x1:Nat}{pt p:Pos}(hg:Gl X "enumerate") (hm:X.mg "enumerate"=none) (ha:PAd X [a] t) (hs:J5 [a] X.env=[(false,V7 a X.env)]:=by rfl):PId X (.Tuple elts x1 pt) (.Call (.Name "enumerate" p) [a] [] pos) (yZ b t):=by
 intro aa s σ H R I hh;obtain⟨Δ,M,R',sr,hr,q,k⟩:=hh;refine Call_ (di I hg hm lS (O1 (thn (ha pos aa s σ H (fun vs H1=>∃es M1,ah X.K M1 H1 [sqD b es] vs/\(es.length<=F3->R' (lK 0 es) M1)/\Ext M H M1 H1/\HR X.K M1 H1) I ⟨Δ,M,_,sr,hr,q,fun ds M1 vs H1 ⟨es,ed,q1⟩ e1 hr1 rv=>⟨es,M1,by rw[<-ed];exact rv,q1,e1,hr1⟩⟩) fun us s1 ⟨vs,H1,I1,r1,es,M1,rv,q1,e1,hr1⟩=>?_) hs rfl));obtain⟨v,rfl,rt⟩:=rv.one;cases r1 with
 |cons r rr =>
  cases rr;obtain⟨ad,vs,rfl,rl,ta⟩:=CC rt;cases r;have lo:es.length<=F3:=by
   have hq:=ta _ _ (Ext.refl _ _);rw[rl.length];cases b with
   |true=>exact(I1.tuple hq).choose_spec.2.2
   |false=>exact(I1.list hq).choose_spec.2.2
  have hl2:=rl.length;refine qQ I1 (ta _ _ (Ext.refl _ _)) fun h' he hit hsz hk=>?_;refine wpAny_pyIter_enum he ?_;refine⟨s1.heap.objs.size+1,[s1.heap.objs.size+1,s1.heap.objs.size],_,_,H1,rfl,I1.kept (t':=s1.toks) hk,tX b ad _ _ es.length,⟨⟨_,he⟩,hit,Nat.succ_ne_self _,P9 _⟩,fun b' hb=>?_,?_⟩
  ·rcases N4.mp hb with z|z
   ·subst z;exact I1.fpOk (by lia) (I1.hok.fresh (by lia))
   ·rw[N1.mp z];exact I1.fpOk (F8 _) (I1.hok.fresh (F8 _))
  ·refine k _ M1 _ H1 (q1 lo) e1 hr1 fun M2 H2 e2 hr2 i=>⟨fun d hd=>?_,fun hl=>⟨⟨vs,(ta _ _ e2),by lia⟩,by rw[ik]at hl;exact hl⟩⟩;rw[j4]at hd;cases hdi:es[i]? with
   |none=>rw[hdi]at hd;cases hd
   |some d0 =>
    rw[hdi]at hd;have hd':D.tup [.int ((0+i:Nat):Int),d0]=d:=by simpa using hd
    subst hd';have hi:i<es.length:=(K6.mp hdi).1;obtain⟨v0,gv,r0⟩:=rl.get hdi;refine⟨⟨⟨vs,(ta _ _ e2),by lia⟩,hi⟩,fun x H' ⟨T,y,ex,hT,eH,hy⟩=>?_⟩;subst ex;subst eH;have hh:=hy vs (ta _ _ e2);rw[gv]at hh;cases hh;refine⟨Ext.new hr2 hT,hr2.new hT,?_⟩;simp only[Rep];refine⟨T,[.int i,v0],rfl,.inl ⟨.inl aA,hr2.fresh hT⟩,?_⟩;exact ah.cons (by simp[Rep]) (ah.cons ((r0.ext e2).ext (Ext.new hr2 hT)) ah.nil)
theorem uW{elts:List J4}{x1:Nat}{pt p:Pos}(hg:Gl X "enumerate") (hm:X.mg "enumerate"=none) (ha:QAd X [a] t) (hs:J5 [a] X.env=[(false,V7 a X.env)]:=by rfl):QId X (.Tuple elts x1 pt) (.Call (.Name "enumerate" p) [a] [] pos) (tw t):=by
 simp only[QAd.eq,QId.eq]at *
 exact zV (b:=false) hg hm ha hs
end
section
variable{X:Cx}{pos:Pos}
theorem Ca{i j:Int}:dmD [.int i,.int j]=if pH i j then some (.tup [.int (i / j),.int (i % j)])else none:=rfl
theorem yS{i j:Int}:Fi [.int i,.int j]=some (.int (if j > i then j else i)):=rfl
theorem wk:ph 10 60=True:=by simp[ph]
theorem CK{x:Int}(h0:-(10 ^ 60)<x) (h1:x<10 ^ 60):Few x:=by
 unfold Few;rw[intBits_le_iff];have h2:x.natAbs<10 ^ 60:=by lia
 exact F9 h2 (L6 (by decide:10 ^ 60<=2 ^ 200) (Nat.pow_le_pow_right (by decide) (by decide)))
theorem D7{i j:Int}(h:Few i/\Few j):jr i j=True:=by simp[jr,h]
end
section
variable{X:Cx}{e:J4}{te ts:TEd}{pos:Pos}
end
section
variable{κ:Type} [DecidableEq κ]
noncomputable def cX(kvs:List (κ×D)) (k:κ):Option D:=(kvs.find? fun kv=>decide (kv.1=k)).map (·.2)
noncomputable def jB(kvs:List (κ×D)) (k:κ) (v:D):List (κ×D) :=
 if(kvs.any fun kv=>decide (kv.1=k))=true then kvs.map (fun kv=>if kv.1=k then(kv.1,v)else kv)else kvs++[(k,v)]
theorem bV{p:κ×D}{r:List (κ×D)}{k:κ}(e:p.1=k):cX (p::r) k=some p.2:=by simp[cX,Q3,e]
theorem bW{p:κ×D}{r:List (κ×D)}{k:κ}(e:¬ p.1=k):cX (p::r) k=cX r k:=by simp[cX,Q3,e]
theorem k6(k:κ):∀kvs:List (κ×D),(kvs.any fun kv=>decide (kv.1=k))=(cX kvs k).isSome
 |[]=>rfl
 |p::r=>by
  rw[P1]
  by_cases e:p.1=k
  ·simp only[bV e,decide_eq_true e,Bool.true_or,Option.isSome_some]
  ·rw[bW e,decide_eq_false e,Bool.false_or];exact k6 k r
theorem pZ(k j:κ) (y:D):∀kvs:List (κ×D),cX (kvs.map fun kv=>if kv.1=k then(kv.1,y)else kv) j=(cX kvs j).map fun x=>if j=k then y else x
 |[]=>rfl
 |p::r=>by
  have ih:=pZ k j y r;rw[N5]
  by_cases h:p.1=k
  ·rw[if_pos h]
   by_cases e:p.1=j
   ·rw[bV (p:=(p.1,y)) e,bV e,R6,if_pos (e.symm.trans h)]
   ·rw[bW (p:=(p.1,y)) e,bW e,ih]
  ·rw[if_neg h]
   by_cases e:p.1=j
   ·rw[bV (p:=p) e,bV e,R6,if_neg (fun z=>h (e.trans z))]
   ·rw[bW (p:=p) e,bW e,ih]
theorem nv(k j:κ) (y:D):∀kvs:List (κ×D),cX kvs k=none->cX (kvs++[(k,y)]) j=if j=k then some y else cX kvs j
 |[],_=>by
  by_cases e:k=j
  ·rw[if_pos e.symm];exact bV (p:=(k,y)) e
  ·rw[if_neg (fun z=>e z.symm)];exact bW (p:=(k,y)) e
 |p::r,hn=>by
  rw[List.cons_append];have hk:¬ p.1=k:=fun z=>by rw[bV z]at hn;cases hn
  rw[bW hk]at hn;have ih:=nv k j y r hn
  by_cases e:p.1=j
  ·rw[bV e,bV e,if_neg (fun z=>hk (e.trans z))]
  ·rw[bW e,bW e,ih]
theorem pJ(kvs:List (κ×D)) (k j:κ) (y:D):cX (jB kvs k y) j=if j=k then some y else cX kvs j:=by
 unfold jB
 by_cases a:(kvs.any fun kv=>decide (kv.1=k))=true
 ·rw[if_pos a,pZ];rw[k6]at a
  by_cases e:j=k
  ·obtain⟨x,hx⟩:=N9.mp a;rw[if_pos e,e,hx,R6,if_pos rfl]
  ·rw[if_neg e];cases cX kvs j with
   |none=>rfl
   |some x=>rw[R6,if_neg e]
 ·rw[if_neg a];refine nv k j y kvs ?_;rw[k6]at a;cases q:cX kvs k with
  |none=>rfl
  |some x=>rw[q]at a;exact(a rfl).elim
theorem jf(kvs:List (κ×D)) (k:κ) (v:D):(jB kvs k v).length<=kvs.length+1:=by
 unfold jB
 split
 ·rw[Z1];lia
 ·rw[L8,U5,List.length_nil];lia
variable{K:o0}{M:DH}{H:Hp}
theorem KR.val{kvs:List (κ×D)}{ks:List (κ×V)}(h:KR K M H kvs ks) (k:κ):(∀d,cX kvs k=some d->∃v,gB ks k=some v/\Rep K M H d v)/\(gB ks k).isSome=(cX kvs k).isSome:=by
 unfold KR at h
 induction h with
 |nil=>exact⟨fun d e=>(nomatch e),rfl⟩
 |@cons p q ps qs r t ih =>
  by_cases e:p.1=k
  ·rw[bV e,iw (r.1.symm.trans e)];exact⟨fun d z=>(by cases z;exact⟨_,rfl,r.2⟩),rfl⟩
  ·rw[bW e,ic (fun z=>e (r.1.trans z))];exact ih
theorem KR.any{kvs:List (κ×D)}{ks:List (κ×V)}(h:KR K M H kvs ks) (k:κ):(ks.any fun kv=>decide (kv.1=k))=kvs.any fun kv=>decide (kv.1=k):=by
 unfold KR at h
 induction h with
 |nil=>rfl
 |cons r _ ih=>rw[P1,P1,ih,r.1]
theorem KR.length{kvs:List (κ×D)}{ks:List (κ×V)}(h:KR K M H kvs ks):kvs.length=ks.length:=X2 h
theorem KR.put{kvs:List (κ×D)}{ks:List (κ×V)}(h:KR K M H kvs ks) (k:κ) {d:D}{v:V}(r:Rep K M H d v):KR K M H (jB kvs k d) (fb ks k v):=by
 unfold jB fb;rw[h.any k]
 by_cases e:(kvs.any fun kv=>decide (kv.1=k))=true
 ·rw[if_pos e,if_pos e];clear e;unfold KR at h ⊢
  induction h with
  |nil=>exact .nil
  |@cons p q ps qs r1 t ih =>
   rw[N5,N5];refine .cons ?_ ih
   by_cases e:p.1=k
   ·rw[if_pos e,if_pos (r1.1.symm.trans e)];exact⟨r1.1,r⟩
   ·rw[if_neg e,if_neg (fun z=>e (r1.1.trans z))];exact r1
 ·rw[if_neg e,if_neg e];exact P8.snoc h ⟨rfl,r⟩
end
def kD:Key->D
 |.inl i=>.int i
 |.inr x=>.str x
theorem BC{K:o0}{M:DH}{H:Hp}{k:Key}{v:V}(h:Rep K M H (kD k) v):v=kV k:=by
 cases k<;>simpa[kD,Rep,kV]using h
theorem hG{K:o0}{M:DH}{H:Hp}:∀{ks:List Key}{vs:List V},ah K M H (ks.map kD) vs->vs=ks.map kV
 |[],_,h=>by simpa[ah]using h
 |k::ks,_,h=>by
  simp only[N5,ah]at h;obtain⟨v,ws,rfl,h1,h2⟩:=h;rw[BC h1,hG h2];rfl
section
variable{X:Cx}{a b c e o i:J4}{es:List J4}{te to ti ta tb:TEd}{t:TAd}{pos:Pos}
def Au(to:TEd) (t:TAd):TEd:=fun Δ M Q=>to Δ M fun x M1=>t Δ M1 fun ds M2=>∃a kvs ks d,x=.ref a/\M2 a=some (.dT kvs)/\ds=ks.map kD/\ds.length<=F3/\cX kvs ks=some d/\Q d M2
def AA(to:TEd) (t:TAd) (te:TEd):TSd:=fun E Δ M=>te Δ M fun d M1=>to Δ M1 fun x M2=>t Δ M2 fun ds M3=>ds.length<=F3/\∃a kvs ks,x=.ref a/\M3 a=some (.dT kvs)/\ds=ks.map kD/\kvs.length<F3/\E.nx Δ (az M3 a (.dT (jB kvs ks d)))
def ve(to:TEd) (t:TAd) (te:TEd):TEd:=fun Δ M Q=>to Δ M fun x M1=>∃a kvs0,x=.ref a/\M1 a=some (.dT kvs0)/\t Δ M1 fun ds M2=>ds.length<=F3/\te Δ M2 fun z M3=>∃kvs ks,M3 a=some (.dT kvs)/\ds=ks.map kD/\Q ((cX kvs ks).getD z) M3
end
section
variable{X:Cx}{a b c e o:J4}{es:List J4}{te to:TEd}{t:TAd}{pos:Pos}{tg:J4}
noncomputable def FI:List D->Option D
 |[.int i,.int j]=>some (.int (if j<i then j else i))
 |_=>none
noncomputable def eR:List D->Option (List Int)
 |[]=>some []
 |.int i::ds=>(eR ds).map (i::·)
 |_=>none
theorem lI:∀{ns:List Int},eR (ns.map D.int)=some ns
 |[]=>rfl
 |n::ns=>by simp[eR,lI (ns:=ns)]
def xx:D->Option D
 |.lst ds=>(eR ds).map fun ns=>.int ns.sum
 |_=>none
theorem CT{ns:List Int}:xx (.lst (ns.map D.int))=some (.int ns.sum):=by simp[xx,lI]
theorem nk{K:o0}{M:DH}{H:Hp}:∀{ds:List D}{ns:List Int}{vs:List V}{us:List F0},eR ds=some ns->ah K M H ds vs->ao vs us->∃xs:Array (Int×Tok),us.toArray=intItems xs/\xs.toList.map (·.1)=ns
 |[],_,_,_,e,h,r=>by
  simp only[eR,L4.injEq]at e;subst e;simp only[ah]at h;subst h;cases r;exact⟨#[],by simp[intItems],rfl⟩
 |.int i::ds,ns,vs,us,e,h,r=>by
  simp only[eR]at e;cases q:eR ds with
  |none=>rw[q]at e;cases e
  |some ms =>
   rw[q]at e;cases e;simp only[ah]at h;obtain⟨v,ws,rfl,h1,h2⟩:=h;simp only[Rep]at h1;subst h1;cases r with
   |@cons x u xs' us' r1 r2 =>
    obtain⟨t,rfl⟩:=r1;obtain⟨ys,e1,e2⟩:=nk q h2 r2;refine⟨(((i,t)::ys.toList)).toArray,?_,by simp[e2]⟩;have:us'=(intItems ys).toList:=by rw[<-e1]
    rw[this];simp[intItems]
 |.non::_,_,_,_,e,_,_=>by cases e
 |.bl _::_,_,_,_,e,_,_=>by cases e
 |.str _::_,_,_,_,e,_,_=>by cases e
 |.tup _::_,_,_,_,e,_,_=>by cases e
 |.lst _::_,_,_,_,e,_,_=>by cases e
 |.scr _::_,_,_,_,e,_,_=>by cases e
 |.emp::_,_,_,_,e,_,_=>by cases e
 |.box _ _::_,_,_,_,e,_,_=>by cases e
 |.ref _::_,_,_,_,e,_,_=>by cases e
theorem DM(hc:X.calm=true):ck X (.builtin "sum") (pY xx):=by
 intro aa s σ H M xs us ds dz Q I hr rv rp e k;obtain⟨d,rfl,e0⟩:=de e;clear e;have e:=e0;clear e0;obtain⟨v,rfl,r⟩:=m9 rp;obtain⟨u,rfl,ru⟩:=ao.one rv;cases d with
 |lst ds =>
  simp only[xx]at e;cases q:eR ds with
  |none=>rw[q]at e;cases e
  |some ns =>
   rw[q]at e;cases e;obtain⟨l,vs,rfl,sq,rl⟩:=r;cases ru;obtain⟨its,rv,pl,hz⟩:=I.list (SqL.of sq);obtain⟨ys,e1,e2⟩:=nk q rl rv;refine sum_intListG (xs:=ys) (I.ok.hd hc) (by rw[<-e1];exact pl.isList) fun h' tk t' kk=>?_;have I1:Inv X aa σ H { s with heap:=h',toks:=tk }:=I.kept (t':=tk) kk;refine⟨.int _,H,I1,⟨_,rfl⟩,k _ H (Ext.refl _ _) hr ?_⟩;have e3:preSum (numAt ys) ys.size=ns.sum:=by
    rw[preSum_eq,List.take_of_length_le (by simp),e2]
   rw[e3];simp[Rep]
 |_=>cases e
def EN(to:TEd):TEd:=fun Δ M Q=>to Δ M fun o M1=>∃a ds d,o=.ref a/\M1 a=some (.lst (ds++[d]))/\Q d (az M1 a (.lst ds))
def EH(to te:TEd):TEd:=fun Δ M Q=>to Δ M fun o M1=>∃a l,o=.ref a/\M1 a=some (.lst l)/\te Δ M1 fun d M2=>∃ds ys,d=.lst ys/\M2 a=some (.lst ds)/\ds.length+ys.length<=F3/\Q .non (az M2 a (.lst (ds++ys)))
def C8(lo c:Int) (n:Nat):It:=⟨fun i _=>i<n,fun i H x H'=>H'=H/\x=.int (lo+i*c),fun i _=>n<=i⟩
theorem p6{P:K7}{w:P5}{K:o0}{tg:J4}(it:H0) (lo c:Int) (n:Nat):iJ P w K tg (C8 lo c n) [it] it (fun i h=>ab8 h it (lo+(i:Nat)*c) ((n:Int)-(i:Nat)) c) where
 mem:=by simp
 obj:=fun i h st b hb=>by
  have e:b=it:=by simpa using hb
  subst e;exact⟨_,st,fun v z=>by
   have z':Data.fields _=Data.cell v:=z;cases z'⟩
 keep:=fun i h h' st k=>k it (by simp) _ st
 item:=by
  intro X hP hw hK hc i aa s σ H E I hf st hg;subst hP hw hK;obtain⟨f0,f1,f2,f3,f4,f5⟩:=hf it (by simp);have W:=Walks.range (prog:=X.prog) (w:=X.w) (I.ok.hd hc) it lo c n;refine W.item i s _ _ hg st fun v h' tk hv st' kk=>?_;obtain⟨t,rfl⟩:=hv;have I1:Inv X aa σ H { s with heap:=h',toks:=tk }:=I.turned (fun b o hb e=>kk b o (by simpa using hb) e) f0 f1 f3 f4 f5;exact⟨_,rfl,nc (s:={ s with heap:=h',toks:=tk }) (n:="range_iterator") st' rfl rfl (by decide) ⟨.int (lo+i*c),H,I1,⟨t,rfl⟩,⟨rfl,rfl⟩,st',fun b hb=>(hf b hb).1⟩⟩
 done:=by
  intro X hP hw hK hc i aa s σ H E I hf st hg;subst hP hw hK;obtain⟨f0,f1,f2,f3,f4,f5⟩:=hf it (by simp);exact wpAny_pyNext_range_end (I.ok.hd hc) st (by have:n<=i:=hg;omega) fun h' eb=>⟨rfl,I.turned (t':=s.toks) (fun b o hb e=>eb b o hb e) f0 f1 f3 f4 f5⟩
 self:=fun _ _ _ _ _ st h=>wpAny_pyIter_rangeiter st h
def szR(a b c:Int):Nat:=(O0 a b c).toNat
def EG(ta:TA):TI:=fun σ H R=>ta σ H fun vs H1=>∃i j c:Int,vs=[.int i,.int j,.int c]/\c≠0/\(-(2 ^ 20)<=i/\i<2 ^ 20/\-(2 ^ 20)<=j/\j<2 ^ 20/\-(2 ^ 20)<=c/\c<2 ^ 20)/\J8.Range.small i j c=true/\R (C8 i c (szR i j c)) H1
theorem zZ{a b c:Int}(hc:c≠0):0<=O0 a b c:=by
 unfold O0
 split
 ·split
  ·have:=Int.ediv_nonneg (a:=b-a-1) (b:=c) (by omega) (by omega);omega
  ·omega
 ·split
  ·have:=Int.ediv_nonneg (a:=a-b-1) (b:=-c) (by omega) (by omega);omega
  ·omega
theorem ue{ta:TA}{p:Pos}(hg:Gl X "range") (hm:X.mg "range"=none) (ha:PA X [a,b,c] ta) (hs:J5 [a,b,c] X.env=[(false,V7 a X.env),(false,V7 b X.env),(false,V7 c X.env)]:=by rfl)
  (hs2:J5 [b,c] X.env=[(false,V7 b X.env),(false,V7 c X.env)]:=by rfl):PI X tg (.Call (.Name "range" p) [a,b,c] [] pos) (EG ta):=by
 intro aa s σ H R I h;refine Call_ (di I hg hm boot_range (O1 (thn (ha pos aa s σ H _ I h) fun us s1 hup=>hup.el fun vs H1 I1 r1 q1=>?_) (by rw[hs,hs2]) (by rw[hs2];rfl)));obtain⟨i,j,st,e,hc,⟨b1,b2,b3,b4,b5,b6⟩,hsm,q⟩:=q1;subst e;cases r1 with
 |cons r rr =>
  cases rr with
  |cons r' rr =>
   cases rr with
   |cons r'' rr =>
    cases rr;obtain⟨t,rfl⟩:=r;obtain⟨t',rfl⟩:=r';obtain⟨t'',rfl⟩:=r'';refine call_range_3 hc ?_ (Or.inl (PyProof.noPylong_small (by omega)));refine wpAny_pyIter_range (IsRange.new ..) hsm ?_;have I2:Inv X aa σ H1 { s1 with heap:=s1.heap.push { cls:=.type "range",data:=.fields #[.int i t,.int j t',.int st t''] },toks:=s1.toks }:=I1.kept fun b o e=>F2 _ e;refine⟨(s1.heap.push { cls:=.type "range",data:=.fields #[.int i t,.int j t',.int st t''] }).objs.size,[(s1.heap.push { cls:=.type "range",data:=.fields #[.int i t,.int j t',.int st t''] }).objs.size],_,_,H1,rfl,
     I2.kept (t':=s1.toks) fun b o e=>F2 _ e,p6 _ i st (szR i j st),?_,fun b hb=>?_,q⟩
    ·have e1:i+((0:Nat):Int)*st=i:=by simp
     have e2:((szR i j st:Nat):Int)-((0:Nat):Int)=O0 i j st:=by
      unfold szR;have:=zZ (a:=i) (b:=j) hc;omega
     show ab8 _ _ (i+((0:Nat):Int)*st) (((szR i j st:Nat):Int)-((0:Nat):Int)) st;rw[e1,e2];exact F6 _ rfl
    ·have e:b=(s1.heap.push { cls:=.type "range",data:=.fields #[.int i t,.int j t',.int st t''] }).objs.size:=by simpa using hb
     subst e;exact I2.fpOk (F8 _) (I2.hok.fresh (F8 _))
def n4(lo c:Int) (n:Nat):List D:=(W0 n).map fun(k:Nat)=>.int (lo+(k:Int)*c)
theorem oT{lo c:Int}{n i:Nat}{d:D}(h:(n4 lo c n)[i]?=some d):i<n/\d=.int (lo+i*c):=by
 unfold n4 at h;rw[P6]at h
 by_cases hi:i<n
 ·rw[List.getElem?_range hi]at h;cases h;exact⟨hi,rfl⟩
 ·rw[List.getElem?_eq_none (by simp;omega)]at h;cases h
theorem yt{K:o0}{lo c:Int}{n:Nat}{M1:DH}{H1:Hp}:ItD K (C8 lo c n) (n4 lo c n) M1 H1:=fun M2 H2 e2 hr2 i=>⟨fun d hd=>by
  obtain⟨h1,rfl⟩:=oT hd;refine⟨h1,fun x H' ⟨eH,y⟩=>?_⟩;subst eH;subst y;exact⟨Ext.refl _ _,hr2,by simp[Rep]⟩,fun hl=>by
  show n<=i;simpa[n4]using hl⟩
def wa(ta:TAd):TId:=fun Δ M R=>ta Δ M fun ds M1=>∃i j c:Int,ds=[.int i,.int j,.int c]/\(c=2∨c=-1)/\(-(2 ^ 20)<=i/\i<2 ^ 20/\-(2 ^ 20)<=j/\j<2 ^ 20)/\R (n4 i c (szR i j c)) M1
theorem t9{a b c:Int}(hc:c=2∨c=-1) (ha:-(2 ^ 20)<=a) (ha':a<2 ^ 20) (hb:-(2 ^ 20)<=b) (hb':b<2 ^ 20):J8.Range.small a b c=true:=by
 unfold J8.Range.small O0;rcases hc with rfl|rfl
 ·simp only[J8.Range.rangeFitsLong,K0,Bool.or_eq_true,decide_eq_true_eq,beq_iff_eq,show(2:Int) > 0 by decide,if_true]
  split<;>omega
 ·simp only[J8.Range.rangeFitsLong,K0,Bool.or_eq_true,decide_eq_true_eq,beq_iff_eq,show ¬ (-1:Int) > 0 by decide,if_false,show(- (-1:Int))=1 from rfl,Int.ediv_one]
  split<;>omega
theorem ah.three{K:o0}{M:DH}{H:Hp}{d e f:D}{vs:List V}(h:ah K M H [d,e,f] vs):∃v w z,vs=[v,w,z]/\Rep K M H d v/\Rep K M H e w/\Rep K M H f z:=by
 simp only[ah]at h;obtain⟨v,us,rfl,h1,w,ws,rfl,h2,z,zs,rfl,h3,rfl⟩:=h;exact⟨v,w,z,rfl,h1,h2,h3⟩
end
theorem eV{x:Str}{c:H0}:∀{names:List (Str×J7)}{n:Nat}{acc:List (Str×H0)},(O7 n names acc).lookup x=some c->acc.lookup x=some c∨((x,P2)∈names/\n<=c)
 |[],_,_,h=>.inl h
 |(y,k)::r,n,acc,h=>by
  unfold O7 at h
  split at h
  ·rename_i hk;rcases eV h with z|z
   ·rw[J6]at z;cases q:x==y with
    |true =>
     rw[q]at z;have e1:n=c:=J9 z;have e2:x=y:=by simpa using q
     have e3:k=.cell:=by simpa using hk
     subst e1;subst e2;subst e3;exact .inr ⟨N0,F8 _⟩
    |false=>rw[q]at z;exact .inl z
   ·exact .inr ⟨L3 _ z.1,W3 z.2⟩
  ·rcases eV h with z|z
   ·exact .inl z
   ·exact .inr ⟨L3 _ z.1,z.2⟩
theorem qW:∀{names:List (Str×J7)}{n:Nat}{acc:List (Str×H0)},(∀x y c,acc.lookup x=some c->acc.lookup y=some c->x=y)->(∀x c,acc.lookup x=some c->c<n) ->
  ∀x y c,(O7 n names acc).lookup x=some c->(O7 n names acc).lookup y=some c->x=y
 |[],_,_,hi,_=>hi
 |(z,k)::r,n,acc,hi,hl=>by
  unfold O7
  split
  ·refine qW (fun x y c hx hy=>?_) (fun x c hx=>?_)
   ·rw[J6]at hx hy;cases q1:x==z with
    |true =>
     rw[q1]at hx;have e1:n=c:=J9 hx;subst e1;cases q2:y==z with
     |true=>exact(beq_iff_eq.mp q1).trans (beq_iff_eq.mp q2).symm
     |false=>rw[q2]at hy;exact absurd (hl y _ hy) (N8 _)
    |false =>
     rw[q1]at hx;cases q2:y==z with
     |true =>
      rw[q2]at hy;have e1:n=c:=J9 hy;subst e1;exact absurd (hl x _ hx) (N8 _)
     |false=>rw[q2]at hy;exact hi x y c hx hy
   ·rw[J6]at hx;cases q1:x==z with
    |true=>rw[q1]at hx;have e1:n=c:=J9 hx;exact e1▸O5 _
    |false=>rw[q1]at hx;exact K4 (hl x c hx)
  ·exact qW hi hl
theorem ot{x:Str}{c:H0}:∀{names:List (Str×J7)}{h:K2}{acc:List (Str×H0)},(O7 h.objs.size names acc).lookup x=some c->acc.lookup x=some c∨(pushCells h names).IsCell c none
 |[],_,_,e=>.inl e
 |(y,k)::r,h,acc,e=>by
  unfold O7 at e;unfold pushCells
  split at e
  ·rename_i hk;rw[if_pos hk];have e':(O7 (h.push { cls:=.type "cell",data:=.cell none }).objs.size r ((y,h.objs.size)::acc)).lookup x=some c:=by rw[P0];exact e
   rcases ot e' with z|z
   ·rw[J6]at z;cases q:x==y with
    |true =>
     rw[q]at z;have e1:h.objs.size=c:=J9 z;subst e1;exact .inr ⟨_,pushCells_keeps _ _ _ _ (F6 _ rfl),rfl⟩
    |false=>rw[q]at z;exact .inl z
   ·exact .inr z
  ·rename_i hk;rw[if_neg hk];exact ot e
theorem nR{M:Model}{A:M9}{E:F0->F1->Prop}{s:F1}{scope:R0}{globals:H0}{cl:List (Str×H0)}{qual:Str}{outer:Env}{builtins:H0}{Q:Env->F1->Prop}
  (hQ:∀ h',(∀ b o,s.heap.get? b = some o → h'.get? b = some o) → h'.Ns s.heap.objs.size (fun _ => none) →
   (∀x c,(O7 (s.heap.objs.size+1) scope.names cl).lookup x=some c->cl.lookup x=some c∨h'.IsCell c none) ->
   Q (newEnv scope s.heap.objs.size globals (O7 (s.heap.objs.size+1) scope.names cl) qual none .none (some outer) builtins) { s with heap:=h' }) :
  J3 M A (W6 scope globals cl [] qual none .none (some outer) builtins) Q E s:=by
 simp only[W6,Option.isSome_some,if_true];refine u8 (wpAny_alloc ?_);refine u8 (wpAny_layCells _ (fun name kind cells=>by cases hkc:kind==P2<;>simp[hkc]) _ _ _ _ ?_);have hsz:({ s with heap:=s.heap.push { cls:=.type "dict",data:=.dict #[] } }:F1).heap.objs.size=s.heap.objs.size+1:=P0 ..;rw[hsz];refine u8 ?_;rw[List.forIn_nil];refine F7 (F7 ?_);refine hQ _ (fun b o e=>pushCells_keeps _ _ b o (F2 _ e)) ((K2.Ns.new s.heap (.type "dict")).keeps (pushCells_keeps _ _)) fun x c e=>?_;refine ot (h:=s.heap.push { cls:=.type "dict",data:=.dict #[] }) ?_;rw[P0];exact e
def cxC(X:Cx) (scope:R0) (cl:List (Str×H0)) (N:List Str) (C:H0) (s:F1) (H:Hp) (ex:List H0):Cx :=
 { au X scope (O7 (C+1) scope.names cl) N C s H ex with fn:=fun x=>scope.names.lookup x==some .cell }
theorem dE{env:Env}{x:Str}:∀{names:List (Str×J7)},(names.map fun(n,k)=>if(k==K5&&env.scope.kind==.function&&env.kindOf n==some .cell)then(n,P2)else(n,k)).lookup x =
  (names.lookup x).map fun k=>if(k==K5&&env.scope.kind==.function&&env.kindOf x==some .cell)=true then P2 else k
 |[]=>rfl
 |(n,k0)::r=>by
  have ih:=@dE env x r;show ac2 x ((if(k0==K5&&env.scope.kind==.function&&env.kindOf n==some .cell)=true then(n,P2)else(n,k0))::_)=_;cases hx:x==n with
  |true =>
   have e:x=n:=by simpa using hx
   subst e
   by_cases hq:(k0==K5&&env.scope.kind==.function&&env.kindOf x==some .cell)=true
   ·rw[if_pos hq];simp only[J6,hx,R6,hq,if_true]
   ·rw[if_neg hq];simp only[J6,hx,R6,hq,if_false,O4]
  |false =>
   by_cases hq:(k0==K5&&env.scope.kind==.function&&env.kindOf n==some .cell)=true
   ·rw[if_pos hq];simp only[J6,hx];exact ih
   ·rw[if_neg hq];simp only[J6,hx];exact ih
structure bY(X:Cx) (scope:R0) (cl:List (Str×H0)) (ms:List Bool) (ag:List Str):Prop where
 kind:scope.kind=.function
 names:∀y∈scope.names,y.2=.local->scope.names.lookup y.1=some .local
 cellN:∀y∈scope.names,y.2=.cell->scope.names.lookup y.1=some .cell
 clos:closureFor scope X.env=W4 cl
 sub:∀x c,cl.lookup x=some c->X.env.cells.lookup x=some c
 fre:∀x c,cl.lookup x=some c->scope.names.lookup x=some .free
 has:∀x,scope.names.lookup x=some .free->∃c,cl.lookup x=some c
 fr:∀x,scope.names.lookup x=some .free->X.env.scope.names.lookup x=some .cell∨X.env.scope.names.lookup x=some .free
 mask:∀(i:Nat) (x:Str),ms[i]?=some true->X.N[i]?=some x->scope.names.lookup x=some .free
 mlen:ms.length<=X.N.length
theorem ze{X:Cx}{scope:R0}{cl:List (Str×H0)}{ms:List Bool}{ag:List Str}(S:bY X scope cl ms ag) {n:Nat}{x:Str}{c:H0}(hf:scope.names.lookup x=some .free) (hc:cl.lookup x=some c):(O7 n scope.names cl).lookup x=some c:=by
 have h:=N7 (x:=x) scope.names n cl (.inr (by rw[hc];rfl));obtain⟨c',e⟩:=N9.mp h;rcases eV e with z|z
 ·rw[hc]at z;cases z;exact e
 ·have:=S.cellN _ z.1 rfl;rw[hf]at this;cases this
section
variable{X:Cx}{aa:List (H0×Obj)}{σ:St}{H H2:Hp}{s s2:F1}{scope:R0}{cl:List (Str×H0)}{ms:List Bool}{ag:List Str}
theorem oE(I:Inv X aa σ H s) (S:bY X scope cl ms ag) {fp:List H0}(hfp:∀b∈fp,cH X aa H b) (hlt:∀b∈fp,b<s.heap.objs.size) {C:H0}(hC:s.heap.objs.size<=C) :
  (cxC X scope cl (X.N++ag) C s H fp).Ok where
 mod:=I.ok.mod
 kind:=S.kind
 glob:=I.ok.glob
 blt:=I.ok.blt
 above:=hC
 inj:=qW (fun x y c h1 h2=>I.ok.inj x y c (S.sub x c h1) (S.sub y c h2)) fun x c h=>by
  obtain⟨v,o,ho,_⟩:=I.cell x c (S.sub x c h);exact K4 (F9 (F4 ho) hC)
 has:=fun x hx=>by
  have hx':(Z5 scope X.env).names.lookup x=some .cell∨(Z5 scope X.env).names.lookup x=some .free:=hx;have e:(Z5 scope X.env).names.lookup x=_:=dE (env:=X.env) (x:=x) (names:=scope.names);rw[e]at hx';refine N9.mp (N7 _ _ _ ?_);cases q:scope.names.lookup x with
  |none=>rw[q]at hx';simp at hx'
  |some k =>
   rw[q]at hx';cases k with
   |cell=>exact .inl rfl
   |free=>obtain⟨c,hc⟩:=S.has x q;exact .inr (by rw[hc];rfl)
   |_=>simp at hx'
 cab:=fun x c h e=>by
  have hq:scope.names.lookup x=some .cell:=by simpa[cxC]using h
  rcases eV e with z|z
  ·rw[S.fre x c z]at hq;cases hq
  ·exact L6 hC (W3 z.2)
 hd:=I.ok.hd
 frames:=I.ok.frames
 stk:=.inl rfl
 exf:=fun b hb=>⟨I0 (F9 (hlt b hb) hC),fun x c e=>by
  rcases eV e with z|z
  ·exact(hfp b hb).2.2.2.2.1 x c (S.sub x c z)
  ·exact T6 (F9 (F9 (hlt b hb) hC) (W3 z.2))⟩
 bs:=I.bs
 bsz:=L6 I.ok.bsz I.sz
 noex:=fun b o e hb=>by
  rcases(hfp b hb).2.2.2.1 with z|z
  ·exact I.ok.noex b o e z
  ·exact absurd (F9 (F4 e) (L6 I.ok.bsz z)) (N8 _)
 exfs:=fun b hb z=>by
  rcases N4.mp (I.stkSub b z)with e|e
  ·exact(hfp b hb).2.1 e
  ·exact(hfp b hb).2.2.1 e
 funs:=I.stack
 frf:=I.stkFree
theorem wt(I:Inv X aa σ H s) (S:bY X scope cl ms ag) {fp:List H0}(hfp:∀b∈fp,cH X aa H b) (hlt:∀b∈fp,b<s.heap.objs.size) {C:H0}(hC:s.heap.objs.size<=C)
  (os:s2.os=s.os) (bare:aa9 s2.gens) (keep:∀b o,s.heap.get? b=some o->s2.heap.get? b=some o) {m:Str->Option F0} (hn:s2.heap.Ns C m)
  (hce:∀x c,(O7 (C+1) scope.names cl).lookup x=some c->cl.lookup x=some c∨s2.heap.IsCell c none) :
  Inv (cxC X scope cl (X.N++ag) C s H fp) [] (cW ms ag.length σ) H s2 where
 ok:=oE I S hfp hlt hC
 os:=os
 bare:=bare
 base:=Un.kept keep
 loc:=⟨m,hn,fun i x v h1 h2 h3=>by
  obtain⟨hi,hm,hv⟩:=mS h2;have hiN:i<X.N.length:=by rw[<-I.len];exact hi
  have hx:X.N[i]?=some x:=by
   have h1':(X.N++ag)[i]?=some x:=h1
   rwa [L9 hiN]at h1'
  have hf:=S.mask i x hm hx;obtain⟨m0,hn0,hl⟩:=I.loc;obtain⟨u,r,l⟩:=hl i x v hx hv (by rcases S.fr x hf with z|z<;>simp[Vis,z]);refine⟨u,r,.inr ⟨?_,?_⟩⟩
  ·exact eU (env:=X.env) hf
  ·obtain⟨c,hc⟩:=S.has x hf;have hc':=S.sub x c hc;rcases l with⟨k,_⟩|⟨_,c',e,z⟩
   ·rcases S.fr x hf with z|z<;>(have k':X.env.scope.names.lookup x=some .local:=k;rw[z]at k';cases k')
   ·rw[hc']at e;cases e;obtain⟨o,ho,hd⟩:=z;exact⟨c,ze S hf hc,o,keep _ _ ho,hd⟩⟩
 cell:=fun x c e=>by
  rcases hce x c e with z|z
  ·obtain⟨v,o,ho,hd⟩:=I.cell x c (S.sub x c z);exact⟨v,o,keep _ _ ho,hd⟩
  ·exact⟨none,z⟩
 free:=I.hok.fresh hC
 freeC:=fun x c e=>by
  rcases eV e with z|z
  ·exact I.freeC x c (S.sub x c z)
  ·exact I.hok.fresh (L6 hC (W3 z.2))
 pin:=fun p hp=>absurd (show p∈([]:List (H0×Obj))from hp) (by simp)
 hok:=I.hok.kept keep
 len:=by
  unfold cW;rw[L8,bj,List.length_replicate,I.len];show _=(X.N++ag).length;rw[L8]
end
section
variable{X:Cx}{aa:List (H0×Obj)}{σ σ':St}{H2 H':Hp}{s2 s':F1}{scope:R0}{cl:List (Str×H0)}{ms:List Bool}{ag:List Str}{tg iter elt:J4}{ifs:List J4}{g:TG}{tc:TT}{te:TE}{pos:Pos}
theorem qK(S:bY X scope cl ms ag) (bg:X.calm=true)
  (hg:∀C s H ex,PG (cxC X scope cl (X.N++ag) C s H ex) tg g) (hif:∀C s H ex,PIf (cxC X scope cl (X.N++ag) C s H ex) ifs tc) (he:∀C s H ex,PE (cxC X scope cl (X.N++ag) C s H ex) elt te)
  (I2:Inv X aa σ H2 s2) {it:H0} {fp:List H0} {tn:Nat->K2->Prop} {J:It} (T:iJ X.prog X.w X.K tg J fp it tn) (st2:tn 0 s2.heap) (f2:∀b∈fp,cH X aa H2 b)
  {W:Nat->Nat->List V->St->Hp->Prop} {Z:List V->St->Hp->Prop} {m0:Nat} (w0:W 0 m0 [] (cW ms ag.length σ) H2) (turn:gX J g tc (jd te) W Z)
  {RR:F0->H0->ad7->F1->Prop} {E:F0->F1->Prop}
  (hRR:∀ (s':F1) (ys:List V) (its:List F0) (n:Nat) (σ':St) (H':Hp),Inv (cxC X scope cl (X.N ++ ag) (s2.heap.objs.size + 1) s2 H2 fp) [(s2.heap.objs.size,cV its n)] σ' H' s' → ao ys its → ys.length ≤ F3 → Z ys σ' H' →
   RR (.ref s2.heap.objs.size) (s2.heap.objs.size+1) (.ok .next) s') :
  J3 (K1 X.prog X.w) X.A (newList []) (fun acc s₃=>J3 (K1 X.prog X.w) X.A (W6 scope X.env.globals cl [] X.env.qual none .none (some X.env)) (fun cenv s₄ =>
   V3 (K1 X.prog X.w) X.A (.compStart (.ListComp elt [⟨tg,iter,ifs,0⟩] scope pos) 0 (.ref it) acc { cenv with scope:=Z5 scope X.env }) (RR acc cenv.locals) s₄) E s₃) E s2:=by
 refine L5 (nR fun h₁ kp₁ hns₁ hce₁=>?_);dsimp only at hns₁ kp₁ hce₁ ⊢;have hsz:(s2.heap.push { cls:=.type "list",dict:=none,data:=.seq ([]:List F0).toArray }).objs.size=s2.heap.objs.size+1:=by rw[P0]
 rw[hsz]at hns₁ hce₁ ⊢;have hlt:∀b∈fp,b<s2.heap.objs.size:=fun b hb=>by
  obtain⟨o,e,_⟩:=T.obj _ _ st2 b hb;exact F4 e
 have old:∀b o,s2.heap.get? b=some o->h₁.get? b=some o:=fun b o e=>kp₁ b o (F2 _ e);have hacc:h₁.get? s2.heap.objs.size=some (cV [] 0):=kp₁ _ _ (F6 _ rfl);have hDn:H2 s2.heap.objs.size=none:=I2.hok.fresh (F8 _);have hDfs:∀b,s2.heap.objs.size<=b->b∉(cxC X scope cl (X.N++ag) (s2.heap.objs.size+1) s2 H2 fp).fs:=fun b hb z=>by
  rcases N4.mp (I2.stkSub b z)with e|e
  ·subst e;exact absurd (F9 I2.lt hb) (N8 _)
  ·exact I2.nofs hb e
 have loop:∀s₃:F1,s₃={ s2 with heap:=h₁ } ->
   V3 (K1 X.prog X.w) X.A (.compLoop (.ListComp elt [⟨tg,iter,ifs,0⟩] scope pos) 0 (.ref it) (.ref s2.heap.objs.size) (ad3 scope (O7 (s2.heap.objs.size+1+1) scope.names cl) (s2.heap.objs.size+1) X.env)) (RR (.ref s2.heap.objs.size) (s2.heap.objs.size+1)) s₃:=by
  rintro s₃ rfl;have I3:Inv (cxC X scope cl (X.N++ag) (s2.heap.objs.size+1) s2 H2 fp) [] (cW ms ag.length σ) H2 { s2 with heap:=h₁ } :=
   wt I2 S f2 hlt (aa6 _) rfl I2.bare old hns₁ hce₁
  have hne:∀x c,(cxC X scope cl (X.N++ag) (s2.heap.objs.size+1) s2 H2 fp).env.cells.lookup x=some c->c≠s2.heap.objs.size:=fun x c e=>by
   rcases eV e with z|z
   ·obtain⟨v,o,ho,_⟩:=I2.cell x c (S.sub x c z);exact I0 (F4 ho)
   ·exact T6 (F9 (K4 (O5 _)) z.2)
  have c:ji (cxC X scope cl (X.N++ag) (s2.heap.objs.size+1) s2 H2 fp) s2.heap.objs.size:=⟨rfl,bg,rfl,.inr (F8 _),hne⟩;refine iK c (nH c (he _ _ _ _) fun _ _ _=>rfl) (hg _ _ _ _) (hif _ _ _ _) (P:=[]) (p:=iter.pos) (fun p hp=>nomatch hp) (its0:=[]) (nn0:=0) (I3.pins_of fun p hp=>?_) .nil T (T.keep _ _ _ st2 fun b _ o e=>old b o e) (fun b hb=>?_) w0 turn ?_
  ·have e:p=(s2.heap.objs.size,cV [] 0):=N1.mp hp;subst e;exact⟨hacc,hDn,I0 (O5 _),hDfs _ (F8 _),fun v z=>by cases z⟩
  ·exact⟨(f2 b hb).1,I0 (K4 (hlt b hb)),(oE I2 S f2 hlt (aa6 _)).exfs b hb,.inl hb,fun x c e=>(oE I2 S f2 hlt (aa6 _)).exf b hb |>.2 x c e,fun p hp=>by
    have:p=(s2.heap.objs.size,_):=N1.mp (show p∈[(s2.heap.objs.size,_)]from hp);subst this;exact T6 (hlt b hb)⟩
  ·exact fun s' ys its n σ' H' I' rv hz hZ=>hRR s' ys its n σ' H' I' rv hz hZ
 exact codeAny_compStart_list (loop _ rfl) (T.self _ 0 _ _ _ (T.keep _ _ _ st2 fun b _ o e=>old b o e) (loop _ rfl))
theorem qJ(I2:Inv X aa σ H2 s2) {fp:List H0}(f2:∀b∈fp,cH X aa H2 b) {its:List F0}{n:Nat}{ys:List V}
  (I':Inv (cxC X scope cl (X.N++ag) (s2.heap.objs.size+1) s2 H2 fp) [(s2.heap.objs.size,cV its n)] σ' H' s') (rv:ao ys its) (hz:ys.length<=F3) {h':K2} (hs:N6 (s2.heap.objs.size+1) s'.heap h') :
  Inv X aa σ (upd H' s2.heap.objs.size (.lst ys)) { s' with heap:=h' }/\H' s2.heap.objs.size=none:=by
 have pacc:=I'.pin (s2.heap.objs.size,cV its n) (J0 _ N0);have hC:H' (s2.heap.objs.size+1)=none:=I'.free;have hD:H' s2.heap.objs.size=none:=pacc.2.1;have up:∀b o,b≠s2.heap.objs.size+1->s'.heap.get? b=some o->h'.get? b=some o:=fun b o hb e=>(hs.2 b hb).trans e;have nD:∀b u,H' b=some u->b≠s2.heap.objs.size:=fun b u e z=>by rw[z,hD]at e;cases e
 have nC:∀b u,H' b=some u->b≠s2.heap.objs.size+1:=fun b u e z=>by rw[z,hC]at e;cases e
 have hacc:h'.get? s2.heap.objs.size=some (cV its n):=up _ _ (I0 (O5 _)) pacc.1;have hok:HOk X.prog X.w (upd H' s2.heap.objs.size (.lst ys)) h':=fun b u e=>by
  by_cases hb:b=s2.heap.objs.size
  ·subst hb;rw[aA]at e;cases e;exact⟨hz,its,n,rv,hacc⟩
  ·rw[aq hb]at e;refine(I'.hok b u e).stay (fun c v hc q=>up c v ?_ q) (fun c q=>by rw[aq (nD c _ q)];exact q) fun c xs q=>by rw[aq (nD c _ q)];exact q
   rcases hc with rfl|hc
   ·exact nC _ _ e
   ·exact nC _ _ hc
 have un:Un (frs X.stack) fp H2 (upd H' s2.heap.objs.size (.lst ys)) s2.heap h':=by
  have U:=I'.base;have ltD:∀b o,s2.heap.get? b=some o->b≠s2.heap.objs.size:=fun b o e=>I0 (F4 e);have ltC:∀b o,s2.heap.get? b=some o->b≠s2.heap.objs.size+1:=fun b o e=>I0 (K4 (F4 e));refine⟨fun b o e nb hb hx=>up b o (ltC b o e) (U.keep b o e nb hb hx),fun b o e nb hb hx=>?_,fun b o e nb hx=>by rw[aq (ltD b o e)];exact U.free b o e nb hx,fun b o e hx=>?_,
   fun b xs e=>by have q:=U.tups b xs e;rw[aq (nD b _ q)];exact q,fun b o u e=>by have q:=U.frzs b o u e;rw[aq (nD b _ q)];exact q,fun b ps e=>?_⟩
  ·obtain⟨sl,q⟩:=U.slot b o e nb hb hx;exact⟨sl,up b _ (ltC b o e) q⟩
  ·obtain⟨o',q⟩:=U.there b o e hx;exact⟨o',up b _ (ltC b o e) q⟩
  ·obtain⟨more,q⟩:=U.tbls b ps e;exact⟨more,by rw[aq (nD b _ q)];exact q⟩
 exact⟨I2.call' (s':={ s' with heap:=h' }) (ch:=fp) I'.os un hok I'.bare fun b hb=>⟨(f2 b hb).2.2.2.1,(f2 b hb).2.1,(f2 b hb).2.2.2.2.1,(f2 b hb).2.2.2.2.2⟩,hD⟩
theorem A4(S:bY X scope cl ms ag) (bg:X.calm=true) {wi:TI}(hi:PI X tg iter wi)
  (hg:∀C s H ex,PG (cxC X scope cl (X.N++ag) C s H ex) tg g) (hif:∀C s H ex,PIf (cxC X scope cl (X.N++ag) C s H ex) ifs tc) (he:∀C s H ex,PE (cxC X scope cl (X.N++ag) C s H ex) elt te)
  (hs:∀x,M0 iter X.env x=W4 x:=by intro _;rfl):PE X (.ListComp elt [⟨tg,iter,ifs,0⟩] scope pos) (tLc ms ag.length wi g tc te):=by
 intro aa s σ H Q I h;rw[eval_ListComp];refine S1 (use:=none) rfl hs S.clos S.kind S.names (thn (hi aa s σ H _ I h) fun v s1 h1=>thn h1 fun itv s2 h2=>?_);obtain⟨it,fp,tn,J,H2,e,I2,T,st2,f2,W,Z,⟨m0,w0⟩,turn,q⟩:=h2;subst e;refine qK S bg hg hif he I2 T st2 f2 w0 turn (RR:=fun acc C=>compPost (K1 X.prog X.w) X.A X.xe none (EP X aa σ Q) acc C) ?_;intro s' ys its n σ' H' I' rv hz hZ;obtain⟨m,hm,_⟩:=I'.loc;refine⟨m,hm,fun h' hs'=>?_⟩;obtain⟨I3,hD⟩:=qJ I2 f2 I' rv hz hs';exact⟨.ref s2.heap.objs.size,_,I3,rfl,q ys _ H' _ hZ hD⟩
end
section
variable{X:Cx}{tg iter elt:J4}{pos:Pos}{scope:R0}{cl:List (Str×H0)}{ms:List Bool}{ag:List Str}{ifs:List J4}
def Ez(X:Cx) (scope:R0) (cl:List (Str×H0)) (ag:List Str) (tg:J4) (g:GD):Prop:=∃gv:TG,(∀C s H ex,PG (cxC X scope cl (X.N++ag) C s H ex) tg gv)/\∀(d:D) (v:V) (σ:St) (Δ Δ':DE) (M:DH) (H:Hp) (Q:St->Hp->Prop),SR X.K M H σ Δ->HR X.K M H->Rep X.K M H d v->g d Δ=some Δ'->(∀ σ',SR X.K M H σ' Δ'->Q σ' H)->gv v σ H Q
theorem xF{i:Nat}{x:Str}{pos:Pos}(hN:(X.N++ag).Nodup) (hi:(X.N++ag)[i]?=some x) (hx:(Z5 scope X.env).names.lookup x=some .cell) (hf:(scope.names.lookup x==some .cell)=true):Ez X scope cl ag (.Name x pos) (dW i) :=
 ⟨j5 i,fun C s H ex=>oo hN hi (.inr hx) (.inl hf),fun d v σ Δ Δ' M H Q sr hr rv e k=>by cases e;exact k _ (sr.set i rv)⟩
def lH(scope fs:R0):R0:={ scope with names:=scope.names.map fun(n,k)=>if(k==.free&&fs.kind==.function&&fs.names.lookup n==some .cell)then(n,.cell)else(n,k) }
theorem uz{env:Env}:Z5 scope env=lH scope env.scope:=rfl
noncomputable def fZ(fs:R0) (N:List Str) (scope:R0) (ms:List Bool):Bool :=
 scope.kind==.function&&scope.names.all (fun y=>y.2 != .cell || scope.names.lookup y.1==some .cell)&&scope.names.all (fun y=>y.2 != .local || scope.names.lookup y.1==some .local) &&
 scope.names.all (fun y=>y.2 != .free || fs.names.lookup y.1==some .cell)&&(ms.zip N).all (fun y=>!y.1 || scope.names.lookup y.2==some .free)&&decide (ms.length<=N.length)&&scope.names.all (fun y=>y.2 != .free || scope.names.lookup y.1==some .free)
theorem vO{cells:List (Str×H0)}{names:List (Str×J7)}{x:Str}{c:H0}(h:(bD names cells).lookup x=some c):(x,K5)∈names:=by
 have hm:=K3 h;unfold bD at hm;rw[List.mem_reverse,P3]at hm;obtain⟨y,hy,e⟩:=hm
 split at e
 ·rename_i hk;cases q:cells.lookup y.1 with
  |none=>rw[q]at e;cases e
  |some c' =>
   rw[q]at e;have e1:y.1=x:=(Prod.mk.inj (J9 e)).1;have e2:y.2=.free:=by simpa using hk
   obtain⟨a,b⟩:=y;simp only at e1 e2;subst e1;subst e2;exact hy
 ·cases e
theorem qO(cs:∀x,(x,K5)∈scope.names->(X.env.cells.lookup x).isSome=true) (c:fZ X.env.scope X.N scope ms=true):bY X scope (bD scope.names X.env.cells) ms ag:=by
 unfold fZ at c;simp only[K0,Q9,decide_eq_true_eq]at c;obtain⟨⟨⟨⟨⟨⟨c1,c2⟩,c3⟩,c4⟩,c5⟩,c6⟩,c7⟩:=c;have fr:∀x,(x,K5)∈scope.names->X.env.scope.names.lookup x=some .cell:=fun x hx=>by
  have:=c4 _ hx;simpa using this
 refine⟨by simpa using c1,fun y hy e=>?_,fun y hy e=>?_,oq fun y hy e=>?_,fun x c h=>ko h,fun x c h=>?_,fun x h=>lu h (cs x (K3 h)),fun x h=>.inl (fr x (K3 h)),fun i x h1 h2=>?_,c6⟩
 ·have:=c3 y hy;simpa[e]using this
 ·have:=c2 y hy;simpa[e]using this
 ·obtain⟨a,b⟩:=y;cases e;exact cs a hy
 ·have:=c7 _ (vO h);simpa using this
 ·have:=c5 (true,x) (by
   rw[List.mem_iff_getElem?];exact⟨i,by rw[List.getElem?_zip_eq_some];exact⟨h1,h2⟩⟩)
  simpa using this
theorem qz{n0:Nat}(hX:X.env.cells=O7 n0 X.env.scope.names []) (c:fZ X.env.scope X.N scope ms=true):bY X scope (bD scope.names X.env.cells) ms ag:=by
 refine qO (fun x hx=>?_) c;unfold fZ at c;simp only[K0,Q9]at c;have:=c.1.1.1.2 _ hx;rw[hX];exact N7 _ _ _ (.inl (by simpa using this))
theorem tZ{C:H0}{s:F1}{H:Hp}{ex:List H0}{N:List Str}(S:bY X scope cl ms ag) {x:Str}(h:(Z5 scope X.env).names.lookup x=some .cell):((cxC X scope cl N C s H ex).env.cells.lookup x).isSome=true:=by
 have e:(Z5 scope X.env).names.lookup x=_:=dE (env:=X.env) (x:=x) (names:=scope.names);rw[e]at h;refine N7 _ _ _ ?_;cases q:scope.names.lookup x with
 |none=>rw[q]at h;simp at h
 |some k =>
  rw[q]at h;cases k with
  |cell=>exact .inl rfl
  |free=>obtain⟨c,hc⟩:=S.has x q;exact .inr (by rw[hc];rfl)
  |_=>simp at h
theorem tY{C:H0}{s:F1}{H:Hp}{ex:List H0}{N:List Str}{scope2:R0}{ms2:List Bool}{extra2:List Str}(S:bY X scope cl ms ag) (c:aE (lH scope X.env.scope) N scope2 ms2=true) :
  cA (cxC X scope cl N C s H ex) scope2 (bD scope2.names (cxC X scope cl N C s H ex).env.cells) ms2 extra2:=by
 unfold aE at c;simp only[K0,Q9,decide_eq_true_eq]at c;obtain⟨⟨⟨⟨⟨c1,c2⟩,c3⟩,c4⟩,c5⟩,c6⟩:=c;have fr:∀x,(x,K5)∈scope2.names->(Z5 scope X.env).names.lookup x=some .cell:=fun x hx=>by
  have:=c4 _ hx;rw[uz];simpa using this
 have cs:∀x,(x,K5)∈scope2.names->((cxC X scope cl N C s H ex).env.cells.lookup x).isSome=true:=fun x hx=>tZ S (fr x hx);refine⟨by simpa using c1,fun y hy e=>?_,fun y hy e=>?_,oq fun y hy e=>?_,fun x c h=>ko h,fun x h=>lu h (cs x (K3 h)),fun x h=>.inl (fr x (K3 h)),fun i x h1 h2=>?_,c6⟩
 ·have:=c2 y hy;rw[e]at this;simp at this
 ·have:=c3 y hy;simpa[e]using this
 ·obtain⟨a,b⟩:=y;cases e;exact cs a hy
 ·have:=c5 (true,x) (by
   rw[List.mem_iff_getElem?];exact⟨i,by rw[List.getElem?_zip_eq_some];exact⟨h1,h2⟩⟩)
  simpa using this
end
theorem fD{prog:K7}{w:P5}{A:M9}{R:ad7->F1->Prop}{s:F1}{kx vx target iter:J4}{scope:R0}{pos:Pos}{it:F0}{D:H0}{env:Env}(I:Nat->F1->Prop)
  (turn:∀ n s,I n s → J3 (K1 prog w) A (ad1 it) (fun r s₁ => match r with
   |none=>R (.ok .next) s₁
   | some v => J3 (K1 prog w) A (T7 target it v) (fun _ s₁ => J3 (K1 prog w) A (X1 target env v) (fun _ s₂ =>
     J3 (K1 prog w) A (V7 kx env) (fun kv s₄=>J3 (K1 prog w) A (V7 vx env) (fun vv s₅ =>
       J3 (K1 prog w) A (dictSet D kv vv) (fun _ s₆=>∃m,m<n/\I m s₆) (fun _ _=>False) s₅) (fun _ _=>False) s₄) (fun _ _=>False) s₂) (fun _ _=>False) s₁) (fun _ _=>False) s₁) (fun _ _=>False) s)
  (n:Nat) (h:I n s) :
  V3 (K1 prog w) A (.compLoop (.DictComp kx vx [⟨target,iter,[],0⟩] scope pos) 0 it (.ref D) env) R s:=by
 refine codeAny_loop rfl I (fun n s hI=>?_) n h;show J3 _ A ((compTurn (.DictComp kx vx [⟨target,iter,[],0⟩] scope pos) 0 it (.ref D) env).onRaise (fun x=>do noteFrame x env;theTreesLotGoes x)) _ _ s;refine wpAny_noted ?_;rw[compTurn_dict];refine u8 (U3 (u8 (K8 (turn n s hI) (fun r s₁ h₁=>?_) fun _ _ h'=>h'.elim)));cases r with
 |none=>exact F7 h₁
 |some v =>
  refine u8 (K8 h₁ (fun _ s1 h₁=>?_) fun _ _ h'=>h'.elim);refine u8 (K8 h₁ (fun _ s₂ h₂=>u8 (wpAny_tests_nil ?_)) fun _ _ h'=>h'.elim);exact u8 (u8 (K8 h₂ (fun kv s₄ h₄=>u8 (X5 (K8 h₄ (fun vv s₅ h₅=>u8 (U3 (X5 (K8 h₅ (fun _ s₆ h₆=>F7 ⟨rfl,h₆⟩) fun _ _ h'=>h'.elim)))) fun _ _ h'=>h'.elim))) fun _ _ h'=>h'.elim))
section
variable{X:Cx}{aa:List (H0×Obj)}{σ σ':St}{H2 H':Hp}{s2 s':F1}{scope:R0}{cl:List (Str×H0)}{ms:List Bool}{ag:List Str}{tg iter kx vx:J4}{g:TG}{tk tv:TE}{pos:Pos}
def pT(D:H0) (J:It) (g:TG) (tk tv:TE) (W:Nat->Nat->St->Hp->Prop) (Z:Hp->Prop):Prop :=
 ∀i m σ H,W i m σ H->(J.stop i H/\Z H) ∨
  (J.go i H/\∀x H',J.yld i H x H'->g x σ H' fun σ2 H2=>tk σ2 H2 fun y H3=>tv σ2 H3 fun v H4=>∃H5,(∃kvs k b,H4 D=some (.dT kvs)/\y=.ref b/\H4 b=some (.tup (k.map kV))/\kvs.length<F3/\H5=upd H4 D (.dT (fb kvs k v)))/\∃m',m'<m/\W (i+1) m' σ2 H5)
theorem vM{E:F0->F1->Prop}{X:Cx}{A:M9}{aa:List (H0×Obj)}{σ:St}{H:Hp}{s:F1}{D b:H0}{kvs:List (List Key×V)}{k:List Key}{v:V}{r:F0}{Q:Unit->F1->Prop}(hu:A.units<aa7) (I:Inv X aa σ H s) (e:H D=some (.dT kvs)) (eb:H b=some (.tup (k.map kV))) (l:kvs.length<F3)
  (rv:aD v r) (h:∀s',Inv X aa σ (upd H D (.dT (fb kvs k v))) s'->Q () s'):J3 (K1 X.prog X.w) A (dictSet D (.ref b) r) Q E s:=by
 obtain⟨z,hd,xs,rel,dd⟩:=Aw I.hok e;have hz:xs.length<=F3:=by rw[<-X2 rel];exact z
 have hl:(fb kvs k v).length<=F3:=by have:=fK kvs k v;lia
 refine wpAny_dictSet_heap (hsz:=hz) hu (lE I.hok eb) dd fun h' dd' hs=>h _ ?_;obtain⟨q,es,ep,hq,h2,h3,h4,_,h5⟩:=dd';refine kC I (by rw[e];exact aa2) hs ⟨q,hq⟩ ⟨hl,hd,_,(rel.put k eb rv).keeps fun c ys ec=>?_,q,es,ep,hq,h2,h3,h4,h5⟩;rw[aq (AG ec e (fun z=>nomatch z))];exact ec
theorem qS(hu:X.A.units<aa7) (S:cA X scope cl ms ag) (bg:X.calm=true)
  (hg:∀C s H ex,PG (au X scope cl (X.N++ag) C s H ex) tg g) (hk:∀C s H ex,PE (au X scope cl (X.N++ag) C s H ex) kx tk) (hv:∀C s H ex,PE (au X scope cl (X.N++ag) C s H ex) vx tv)
  (I2:Inv X aa σ H2 s2) {it:H0} {fp:List H0} {tn:Nat->K2->Prop} {J:It} (T:iJ X.prog X.w X.K tg J fp it tn) (st2:tn 0 s2.heap) (f2:∀b∈fp,cH X aa H2 b)
  {D:H0} {W:Nat->Nat->St->Hp->Prop} {Z:Hp->Prop} {m0:Nat} (w0:W 0 m0 (cW ms ag.length σ) H2) (turn:pT D J g tk tv W Z)
  {RR:H0->ad7->F1->Prop} {E:F0->F1->Prop}
  (hRR:∀(s':F1) (σ':St) (H':Hp),Inv (au X scope cl (X.N++ag) s2.heap.objs.size s2 H2 fp) [] σ' H' s'->Z H'->RR s2.heap.objs.size (.ok .next) s') :
  J3 (K1 X.prog X.w) X.A (W6 scope X.env.globals cl [] X.env.qual none .none (some X.env)) (fun cenv s₄ =>
   V3 (K1 X.prog X.w) X.A (.compStart (.DictComp kx vx [⟨tg,iter,[],0⟩] scope pos) 0 (.ref it) (.ref D) { cenv with scope:=Z5 scope X.env }) (RR cenv.locals) s₄) E s2:=by
 refine wpAny_newFunctionEnv S.ncell (by intro y hy;simp at hy) (fun h₁ hns₁ hsb₁=>?_) S.kind
 try dsimp only at hns₁ hsb₁ ⊢
 have hlt:∀b∈fp,b<s2.heap.objs.size:=fun b hb=>by
  obtain⟨o,e,_⟩:=T.obj _ _ st2 b hb;exact F4 e
 have old:∀b o,s2.heap.get? b=some o->h₁.get? b=some o:=fun b o e=>hsb₁.extBut b o (I0 (F4 e)) (F2 _ e);have loop:∀s₃:F1,s₃={ s2 with heap:=h₁,toks:=s2.toks+([]:List (Str×F0)).length } ->
   V3 (K1 X.prog X.w) X.A (.compLoop (.DictComp kx vx [⟨tg,iter,[],0⟩] scope pos) 0 (.ref it) (.ref D) (ad3 scope cl s2.heap.objs.size X.env)) (RR s2.heap.objs.size) s₃:=by
  rintro s₃ rfl;have I3:Inv (au X scope cl (X.N++ag) s2.heap.objs.size s2 H2 fp) [] (cW ms ag.length σ) H2 { s2 with heap:=h₁,toks:=s2.toks+([]:List (Str×F0)).length } :=
   su I2 S f2 hlt (F8 _) rfl I2.bare old hns₁
  have fpc:∀{H:Hp},(∀b∈fp,H b=none)->∀b∈fp,cH (au X scope cl (X.N++ag) s2.heap.objs.size s2 H2 fp) [] H b:=fun hn b hb =>
   ⟨hn b hb,I0 (hlt b hb),(rh I2 S f2 hlt (F8 _)).exfs b hb,.inl hb,fun x c e=>(f2 b hb).2.2.2.2.1 x c (S.sub x c e),fun p hp=>absurd (show p∈([]:List (H0×Obj))from hp) (by simp)⟩
  refine fD (env:=ad3 scope cl s2.heap.objs.size X.env)
   (fun n s'=>∃i σ' H',Inv (au X scope cl (X.N++ag) s2.heap.objs.size s2 H2 fp) [] σ' H' s'/\tn i s'.heap/\(∀b∈fp,H' b=none)/\W i n σ' H') ?_ m0
   ⟨0,_,H2,I3,T.keep _ _ _ st2 fun b _ o e=>old b o e,fun b hb=>(f2 b hb).1,w0⟩
  rintro n s' ⟨i,σ',H',I4,st4,fr4,w4⟩;rcases turn i n σ' H' w4 with⟨stop,hZ⟩|⟨go,step⟩
  ·refine thn (T.done (au X scope cl (X.N++ag) s2.heap.objs.size s2 H2 fp) rfl rfl rfl bg i _ s' _ H' (fun _ _=>False) I4 (fpc fr4) st4 stop) fun r s4 ⟨hr,I5⟩=>?_;subst hr;exact hRR s4 σ' H' I5 hZ
  ·refine thn (T.item (au X scope cl (X.N++ag) s2.heap.objs.size s2 H2 fp) rfl rfl rfl bg i _ s' _ H' (fun _ _=>False) I4 (fpc fr4) st4 go) fun r s5 ⟨u,hr,h5⟩=>?_;subst hr;refine thn h5 fun _ s6 ⟨x,H6,I6,r6,y6,st6,fr6⟩=>?_;have I6':=I6.pinned (fpc fr6) (T.obj _ _ st6);refine thn (hg _ _ _ _ _ s6 _ H6 x u _ I6' r6 (step x H6 y6)) fun _ s7 ⟨σ7,H7,I7,q7⟩=>?_;refine thn (hk _ _ _ _ _ s7 σ7 H7 _ I7 q7) fun kv s8 hup=>hup.el fun y H8 I8 r8 q8=>?_;refine thn (hv _ _ _ _ _ s8 σ7 H8 _ I8 q8) fun vv s9 hup=>hup.el fun v H9 I9 r9 q9=>?_;obtain⟨H10,⟨kvs,k,b,eD,ey,eb,hl,eH⟩,m',hm,w9⟩:=q9;subst ey;cases(show kv=P7 b from r8);refine vM (A:=X.A) (X:=au X scope cl (X.N++ag) s2.heap.objs.size s2 H2 fp) hu I9 eD eb hl r9 fun s10 I10=>?_;rw[<-eH]at I10;have keepfp:tn (i+1) s10.heap/\∀b∈fp,H10 b=none :=
    ⟨T.keep _ _ _ st6 fun b hb o e=>(I10.pin (b,o) (J0 _ (J0 _ (cP hb e)))).1,fun b hb=>by
     obtain⟨o,e,d⟩:=T.obj _ _ st6 b hb;exact(I10.pin (b,o) (J0 _ (J0 _ (cP hb e)))).2.1⟩
   exact⟨m',hm,i+1,σ7,H10,I10.unpinned,keepfp.1,keepfp.2,w9⟩
 exact codeAny_compStart_dict (loop _ rfl) (T.self _ 0 _ _ _ (T.keep _ _ _ st2 fun b _ o e=>old b o e) (loop _ rfl))
theorem rS(I2:Inv X aa σ H2 s2) {fp:List H0}(f2:∀b∈fp,cH X aa H2 b)
  (I':Inv (au X scope cl (X.N++ag) s2.heap.objs.size s2 H2 fp) [] σ' H' s') {h':K2} (hs:N6 s2.heap.objs.size s'.heap h') :
  Inv X aa σ H' { s' with heap:=h' }:=by
 have hC:H' s2.heap.objs.size=none:=I'.free;have up:∀b o,b≠s2.heap.objs.size->s'.heap.get? b=some o->h'.get? b=some o:=fun b o hb e=>(hs.2 b hb).trans e;have nC:∀b u,H' b=some u->b≠s2.heap.objs.size:=fun b u e z=>by rw[z,hC]at e;cases e
 have hok:HOk X.prog X.w H' h':=fun b u e=>(I'.hok b u e).stay (fun c v hc q=>up c v (by
   rcases hc with rfl|hc
   ·exact nC _ _ e
   ·exact nC _ _ hc) q) (fun c q=>q) fun c xs q=>q
 have un:Un (frs X.stack) fp H2 H' s2.heap h':=by
  have U:=I'.base;have ltC:∀b o,s2.heap.get? b=some o->b≠s2.heap.objs.size:=fun b o e=>I0 (F4 e);refine⟨fun b o e nb hb hx=>up b o (ltC b o e) (U.keep b o e nb hb hx),fun b o e nb hb hx=>?_,U.free,fun b o e hx=>?_,U.tups,U.frzs,U.tbls⟩
  ·obtain⟨sl,q⟩:=U.slot b o e nb hb hx;exact⟨sl,up b _ (ltC b o e) q⟩
  ·obtain⟨o',q⟩:=U.there b o e hx;exact⟨o',up b _ (ltC b o e) q⟩
 exact I2.call' (s':={ s' with heap:=h' }) (ch:=fp) I'.os un hok I'.bare fun b hb=>⟨(f2 b hb).2.2.2.1,(f2 b hb).2.1,(f2 b hb).2.2.2.2.1,(f2 b hb).2.2.2.2.2⟩
def tDc(ms:List Bool) (k:Nat) (wi:TI) (g:TG) (tk tv:TE):TE:=fun σ H Q=>wi σ H fun J H1=>∀p,H1 p=none->∃(W:Nat->Nat->St->Hp->Prop) (Z:Hp->Prop),(∃m,W 0 m (cW ms k σ) (upd H1 p (.dT [])))/\pT p J g tk tv W Z/\∀H,Z H->Q (.ref p) H
theorem vq{i:Nat}{x:Str}{spos pos':Pos}(hu:X.A.units<aa7) (hN:X.N.Nodup) (hix:X.N[i]?=some x) (hx:X.env.scope.names.lookup x=some .local)
  (hsw:W9 (.DictComp kx vx [⟨tg,iter,[],0⟩] scope pos) (some (.Name x pos')) spos.line X.env=W4 true)
  (S:cA X scope cl ms ag) (bg:X.calm=true) {wi:TI} (hi:PI X tg iter wi)
  (hg:∀C s H ex,PG (au X scope cl (X.N++ag) C s H ex) tg g) (hk:∀C s H ex,PE (au X scope cl (X.N++ag) C s H ex) kx tk) (hv:∀C s H ex,PE (au X scope cl (X.N++ag) C s H ex) vx tv)
  (hs:∀x,M0 iter X.env x=W4 x:=by intro _;rfl):PS X (.Assign [.Name x pos'] (.DictComp kx vx [⟨tg,iter,[],0⟩] scope pos) spos) (yf (tDc ms ag.length wi g tk tv) (j5 i)):=by
 intro aa s σ H D I h;rw[exec_Assign_Name_used _ _ _ _ hsw];refine u8 (U3 (u8 ?_));show J3 _ _ (do let _ <-comprehension (.DictComp kx vx [⟨tg,iter,[],0⟩] scope pos) scope X.env _ newDict false (V7 iter X.env) (some (X1 (.Name x pos') X.env))) _ _ s;refine u8 (K8 (S1 (use:=some (X1 (.Name x pos') X.env)) (Q:=fun _ s'=>SP X aa D .next s') rfl hs S.clos S.kind S.names
  (thn (hi aa s σ H _ I h) fun v s1 h1=>thn h1 fun itv s2 h2=>?_)) (fun _ s' hq=>F7 (F7 hq)) fun _ _ e=>e)
 obtain⟨it,fp,tn,J,H2,e,I2,T,st2,f2,q⟩:=h2;subst e;have hp:=I2.hok.fresh (F8 s2.heap.objs.size);obtain⟨W,Z,⟨m0,w0⟩,turn,q⟩:=q _ hp;refine L5 ?_;have I3:=I2.laid (a:=s2.heap.objs.size) (o:=.dT []) (h':=s2.heap.push { cls:=.type "dict",data:=.dict #[] }) (t':=s2.toks) (fun _ _ q=>F2 _ q) (F8 _) (wZ s2.heap I2.big);have f3:∀b∈fp,cH X aa (upd H2 s2.heap.objs.size (.dT [])) b:=fun b hb=>by
  obtain⟨o,e,_⟩:=T.obj _ _ st2 b hb;have hne:b≠s2.heap.objs.size:=I0 (F4 e);obtain⟨a1,a2⟩:=f2 b hb;exact⟨by rw[aq hne];exact a1,a2⟩
 refine qS (s2:={ s2 with heap:=s2.heap.push { cls:=.type "dict",data:=.dict #[] } }) hu S bg hg hk hv I3 T (T.keep _ _ _ st2 fun b _ o e=>F2 _ e) f3 w0 turn
  (RR:=fun C=>compPost (K1 X.prog X.w) X.A X.xe (some (X1 (.Name x pos') X.env)) (fun _ s'=>SP X aa D .next s') (.ref s2.heap.objs.size) C) ?_
 intro s' σ' H' I' hZ;obtain⟨m,hm,_⟩:=I'.loc;have I4:=rS I3 f3 I' (N6.refl _ s'.heap);have hq:=q H' hZ;show J3 _ _ (X1 (.Name x pos') X.env (.ref s2.heap.objs.size)) _ _ _;refine wpAny_assign_Name (i8 I4 hN hix (.inl hx) (v:=.ref s2.heap.objs.size) rfl (fun s4 I5 hsame=>?_) (.inr hx));obtain⟨a,hsb,ha⟩:=hsame;have hsz:(s2.heap.push { cls:=.type "dict",data:=.dict #[] }).objs.size=s2.heap.objs.size+1:=P0 ..;have hLC:(s2.heap.push { cls:=.type "dict",data:=.dict #[] }).objs.size≠X.env.locals:=by rw[hsz];exact T6 (K4 I2.lt)
 have haC:(s2.heap.push { cls:=.type "dict",data:=.dict #[] }).objs.size≠a:=by
  rcases ha with rfl|ha
  ·exact hLC
  ·intro z;obtain⟨v,o,ho,_⟩:=I2.cell x a ha;rw[hsz]at z;exact absurd (K4 (F4 ho)) (by rw[<-z];exact N8 _)
 refine⟨m,hm.sameBut hsb haC,fun h' hs'=>?_⟩;refine⟨_,_,?_,hq⟩;exact Inv.turned (t':=s4.toks) (h':=h') (it:=(s2.heap.push { cls:=.type "dict",data:=.dict #[] }).objs.size) I5 (fun b o hb e=>(hs'.2 b hb).trans e) I'.free hLC (.inr (by rw[hsz];exact Nat.le_succ_of_le I2.sz)) (fun y c e=>by
  obtain⟨v,o,ho,_⟩:=I2.cell y c e;rw[hsz];exact I0 (K4 (F4 ho))) (fun p hp=>by
  rw[hsz];exact I0 (K4 (F4 (I2.pin p hp).1)))
end
section
variable{X:Cx}{tg iter vx:J4}{es:List J4}{pos:Pos}{scope:R0}{cl:List (Str×H0)}{ms:List Bool}{ag:List Str}
def kF(g:GD) (ta:TAd) (tv:TEd) (p:H0):List D->DE->DH->(DH->Prop)->Prop
 |[],_,M,Q=>Q M
 |d::ds,Δ,M,Q=>∃ Δ',g d Δ=some Δ'/\ta Δ' M fun kds M1=>kds.length<=F3/\tv Δ' M1 fun v M2=>∃kvs ks,M2 p=some (.dT kvs)/\kds=ks.map kD/\kvs.length<F3/\kF g ta tv p ds Δ' (az M2 p (.dT (jB kvs ks v))) Q
def dDc(ms:List Bool) (k:Nat) (wi:TId) (g:GD) (ta:TAd) (tv:TEd):TEd:=fun Δ M Q=>wi Δ M fun ds M1=>∀p,M1 p=none->kF g ta tv p ds (lW ms k Δ) (az M1 p (.dT [])) fun M2=>Q (.ref p) M2
theorem xV{K:o0}{wi:TId}{g:GD}{ta:TAd}{tv:TEd}{gv:TG}{ms:List Bool}{kk:Nat}
  (kg:∀(d:D) (v:V) (σ:St) (Δ Δ':DE) (M:DH) (H:Hp) (Q:St->Hp->Prop),SR K M H σ Δ->HR K M H->Rep K M H d v->g d Δ=some Δ'->(∀ σ',SR K M H σ' Δ'->Q σ' H)->gv v σ H Q) :
  ∀ σ H Q,up K (dDc ms kk wi g ta tv) σ H Q->tDc ms kk (upI K wi) gv (C2 (upA K ta)) (up K tv) σ H Q:=by
 rintro σ H Q ⟨Δ,M,R,sr,hr,q,k⟩;refine⟨Δ,M,_,sr,hr,q,fun ds M1 J H1 q1 e1 hr1 it=>fun p hp=>?_⟩;have e0:Ext M1 H1 (az M1 p (.dT [])) (upd H1 p (.dT [])):=Ext.own hp;refine⟨fun i m σ' H'=>∃ Δ' M',m=ds.length-i/\i<=ds.length/\Ext M1 H1 M' H'/\HR K M' H'/\SR K M' H' σ' Δ'/\kF g ta tv p (ds.drop i) Δ' M' fun M2=>R (.ref p) M2,
  fun H'=>∃M',Ext M1 H1 M' H'/\HR K M' H'/\R (.ref p) M',⟨ds.length,_,_,by simp,P9 _,e0,hr1.put e0 ⟨[],aA,.nil⟩,((sr.ext e1).ext e0).comp ms kk,q1 p (hr1.fresh hp)⟩,?_,?_⟩
 ·rintro i m σ2 H2 ⟨Δ2,M2,rfl,hi2,e2,hr2,sr2,f2⟩;obtain⟨go,stop⟩:=it M2 H2 e2 hr2 i
  by_cases hlt:i<ds.length
  ·have hd:ds[i]?=some ds[i]:=by simp[hlt]
   obtain⟨g1,y1⟩:=go _ hd;rw[List.drop_eq_getElem_cons hlt]at f2;simp only[kF]at f2;obtain⟨Δ3,eg,f3⟩:=f2;refine .inr ⟨g1,fun x H' hy=>?_⟩;obtain⟨e3,hr3,rx⟩:=y1 x H' hy;refine kg _ x σ2 Δ2 Δ3 M2 H' _ (sr2.ext e3) hr3 rx eg fun σ3 sr3=>?_;refine⟨Δ3,M2,_,sr3,hr3,f3,fun kds M4 kvs' H4 ⟨hz,q4⟩ e4 hr4 rk=>⟨by rw[<-rk.length];exact hz,fun b hb=>?_⟩⟩;have e5:Ext M4 H4 M4 (upd H4 b (.tup kvs')):=Ext.new hr4 hb;refine⟨Δ3,M4,_,(sr3.ext e4).ext e5,hr4.new hb,q4,fun v M6 v6 H6 ⟨kvs,ks,em,ek,hl,q6⟩ e6 hr6 rv6=>?_⟩;subst ek;obtain⟨vs,h6,kr⟩:=hr6 p _ em;have eb:=(e6 b _ aA (hr4.fresh hb)).1;rw[hG rk]at eb;have ew:Ext M6 H6 (az M6 p (.dT (jB kvs ks v))) (upd H6 p (.dT (fb vs ks v6))):=Ext.write em;exact⟨_,⟨vs,ks,b,h6,rfl,eb,by rw[<-kr.length];exact hl,rfl⟩,ds.length-(i+1),by omega,Δ3,_,rfl,hlt,((((e2.trans e3).trans e4).trans e5).trans e6).trans ew,hr6.put ew ⟨_,aA,(kr.put ks rv6).ext ew⟩,(((sr3.ext e4).ext e5).ext e6).ext ew,q6⟩
  ·rw[List.drop_eq_nil_of_le (by omega)]at f2;exact .inl ⟨stop (by omega),M2,e2,hr2,f2⟩
 ·rintro H' ⟨M',e',hr',q'⟩;exact k _ M' _ _ q' (e1.trans e') hr' (by simp only[Rep])
end
end L2
namespace L2
open PySem PySem.W PyProof.Rows
section
variable{α β:Type}
variable{O:KeyOrd}{key:Nat->O.α}{n:Nat}
noncomputable def kp(O:KeyOrd) (key:Nat->O.α) (p:Array Nat) (i:Nat):O.α:=key (p.getD i 0)
end
end L2
namespace L2
open PySem PySem.W PySem.Calls PyProof.Rows
section
variable{prog:Program}{w:World}{A:Around}{E:Value->Shared->Prop}{O:KeyOrd}
def sU(x:Addr) (s t:Shared):Prop:=∀b o,b≠x->s.heap.get? b=some o->t.heap.get? b=some o
end
def pD(p:Int×Int):D:=.tup [.int p.1,.int p.2]
end L2
namespace L2
open PySem PySem.Spec PyProof.Rows
theorem tT{X:Cx}{o:Expr}{es:List Expr}{to:TEd}{t:TAd}{pos:Pos}{x1}{p:Pos}(hu:X.A.units+1<cLine) (ho:QEd X o to) (ht:QAd X es t) (hs:Bp (.Tuple es x1 p)):QEd X (.Subscript o (.Tuple es x1 p) pos) (Au to t):=by
 simp only[QEd.eq,QAd.eq]at *
 exact PE.conv (yB hu ho (kB ht) hs) fun σ H Q hup=>hup.el fun Δ M R sr hr q k=>⟨Δ,M,_,sr,hr,q,fun x M1 v H1 q1 e1 hr1 rv=>⟨Δ,M1,_,sr.ext e1,hr1,q1,fun ds M2 us H2 ⟨a,kvs,ky,d,ex,em,ey,ez,ed,q2⟩ e2 hr2 ru=>by
   subst ex;subst ey;simp only[Rep]at rv;subst rv;refine⟨by rw[<-ru.length];exact ez,fun p hp=>?_⟩;obtain⟨ks,h2,kr⟩:=hr2 a _ em;obtain⟨w,hw,rw_⟩:=(kr.val ky).1 d ed;have hap:a≠p:=aL h2 hp;refine⟨a,w,rfl,?_,k d M2 w _ q2 ((e1.trans e2).trans (Ext.new hr2 hp)) (hr2.new hp) (rw_.ext (Ext.new hr2 hp))⟩;rw[<-hw];refine lX.t (by rw[aq hap];exact h2) ?_;rw[aA,hG ru]⟩⟩
theorem De{X:Cx}{e:Expr}{o:Expr}{es:List Expr}{te:TEd}{to:TEd}{t:TAd}{pos:Pos}{x1}{p p2:Pos}(hu:X.A.units+1<cLine) (ho:QEd X o to) (ht:QAd X es t) (he:QEd X e te) (hs:swapsWith e (some (.Subscript o (.Tuple es x1 p2) p)) pos.line X.env=pure false:=by rfl):QSd X (.Assign [.Subscript o (.Tuple es x1 p2) p] e pos) (AA to t te):=by
 simp only[QEd.eq,QAd.eq,QSd.eq]at *
 exact PS.conv (xU hu ho (kB ht) he hs) fun D σ H hup=>hup.el fun Δ M E sr hr q k=>⟨Δ,M,_,sr,hr,q,fun d M1 v H1 q1 e1 hr1 rv=>⟨Δ,M1,_,sr.ext e1,hr1,q1,fun x M2 u H2 q2 e2 hr2 ru=>⟨Δ,M2,_,(sr.ext e1).ext e2,hr2,q2,fun ds M3 ws H3 ⟨hl,a,kvs,ky,ex,em,ey,hz,q3⟩ e3 hr3 rw_=>by
   subst ex;subst ey;simp only[Rep]at ru;subst ru;refine⟨by rw[<-rw_.length];exact hl,fun p hp=>?_⟩;obtain⟨ks,h3,kr⟩:=hr3 a _ em;have hap:a≠p:=aL h3 hp;have e4:Ext M3 H3 M3 (upd H3 p (.tup ws)):=Ext.new hr3 hp;have hr4:=hr3.new (o:=.tup ws) hp;have ew:Ext M3 (upd H3 p (.tup ws)) (az M3 a (.dT (jB kvs ky d))) (upd (upd H3 p (.tup ws)) a (.dT (fb ks ky v))):=Ext.write em;have h4:upd H3 p (.tup ws) a=some (.dT ks):=by rw[aq hap];exact h3
   refine⟨a,_,rfl,rM.t h4 (by rw[aA,hG rw_]) (by rw[<-kr.length];exact hz),?_⟩;exact k.nx Δ _ σ _ q3 ((((e1.trans e2).trans e3).trans e4).trans ew) (hr4.put ew ⟨_,aA,((kr.ext e4).put ky (((rv.ext e2).ext e3).ext e4)).ext ew⟩) (((((sr.ext e1).ext e2).ext e3).ext e4).ext ew)⟩⟩⟩
theorem zd{X:Cx}{e:Expr}{o:Expr}{es:List Expr}{te:TEd}{to:TEd}{t:TAd}{x1}{p cM bf:Pos}(hu:X.A.units+1<cLine) (ho:QEd X o to) (ht:QAd X es t) (he:QEd X e te) (m:M2 X o "get" cM (.Tuple es x1 p) e bf):QEd X (.Call (.Attribute o "get" cM) [.Tuple es x1 p,e] [] bf) (ve to t te):=by
 simp only[QEd.eq,QAd.eq]at *
 exact PE.conv (wR hu ho (kB ht) he m) fun σ H Q hup=>hup.el fun Δ M R sr hr q k=>⟨Δ,M,_,sr,hr,q,fun x M1 v H1 ⟨a,kvs0,ex,em,q1⟩ e1 hr1 rv=>by
   subst ex;simp only[Rep]at rv;subst rv;obtain⟨ks0,h1,kr0⟩:=hr1 a _ em;refine⟨a,rfl,.inr ⟨ks0,.inl h1⟩,Δ,M1,_,sr.ext e1,hr1,q1,fun ds M2 us H2 ⟨hl,q2⟩ e2 hr2 ru=>⟨by rw[<-ru.length];exact hl,fun p hp=>?_⟩⟩;have e3:Ext M2 H2 M2 (upd H2 p (.tup us)):=Ext.new hr2 hp;refine⟨Δ,M2,_,((sr.ext e1).ext e2).ext e3,hr2.new hp,q2,fun z M3 w H3 ⟨kvs,ky,em3,ey,q3⟩ e4 hr4 rw_=>?_⟩;subst ey;obtain⟨ks,h3,kr⟩:=hr4 a _ em3;have eb:=(e4 p _ aA (hr2.fresh hp)).1;rw[hG ru]at eb;refine⟨gB ks ky,lX.t h3 eb,?_⟩;cases ed:cX kvs ky with
   |some d =>
    obtain⟨w',hw,rw'⟩:=(kr.val ky).1 d ed;rw[hw];rw[ed]at q3;exact k _ M3 _ H3 q3 (((e1.trans e2).trans e3).trans e4) hr4 rw'
   |none =>
    have:=(kr.val ky).2;rw[ed]at this q3;have hn:gB ks ky=none:=by simpa using this
    rw[hn];exact k _ M3 _ H3 q3 (((e1.trans e2).trans e3).trans e4) hr4 rw_⟩
theorem Er{X:Cx}{o:Expr}{to:TEd}{cM bf:Pos}(ho:QEd X o to) (fS:attributeBase o "pop" X.env (eval o X.env)=eval o X.env:=by rfl) (fR:(cM.endLine==bf.line)=true:=by rfl):QEd X (.Call (.Attribute o "pop" cM) [] [] bf) (EN to):=by
 simp only[QEd.eq]at *
 exact(BV PySem.F.plainAttrs_list PySem.F.slot_list_pop PySem.F.type_list_pop (show MtR X "list.pop" DN from Cq) ho fS fR).conv fun σ H Q hup=>hup.el fun Δ M R sr hr q k=>⟨Δ,M,_,sr,hr,q,fun o M1 ov H1 ⟨a,ds,d,eo,em,q1⟩ e1 hr1 ro=>by
   subst eo;simp only[Rep]at ro;subst ro;obtain⟨vs,hv,rl⟩:=hr1 a _ em;have hl:=rl.length;rw[List.length_append,List.length_cons,List.length_nil]at hl;obtain⟨v,gv,rv⟩:=rl.get (i:=ds.length) (d:=d) (by simp);have hl2:vs.length-1=ds.length:=by lia
   refine⟨.inl ⟨rfl,vs,SqL.of hv⟩,a,vs,v,rfl,rfl,hv,by rw[hl2];exact gv,?_⟩;have ew:Ext M1 H1 (az M1 a (.lst ds)) (upd H1 a (.lst vs.dropLast)):=Ext.write em;refine k _ _ _ _ q1 (e1.trans ew) (hr1.write em ?_) (rv.ext ew);have:=ah.take ds.length rl;rw[List.take_left]at this;rw[List.dropLast_eq_take,hl2];exact this⟩
theorem xc{X:Cx}{e:Expr}{o:Expr}{te:TEd}{to:TEd}{cM bf:Pos}(ho:QEd X o to) (he:QEd X e te) (fS:attributeBase o "extend" X.env (eval o X.env)=eval o X.env:=by rfl)
  (hse:starEach [e] X.env=(false,eval e X.env)::starEach [] X.env:=by rfl)
  (oK:((backTo bf (starEach [e] X.env)).all (fun x => !x.1) && (backToKw bf (keywordEach [] X.env)).all (fun x => x.1.isSome)
  &&decide ([e].length+([]:List Keyword).length+(if([]:List Keyword).isEmpty then 0 else 1)<30))=true:=by rfl)
  (fR:(cM.endLine==bf.line)=true:=by rfl) (gM:(backTo bf (starEach [] X.env)).any (·.1)=false:=by rfl):QEd X (.Call (.Attribute o "extend" cM) [e] [] bf) (EH to te):=by
 simp only[QEd.eq]at *
 exact(vB PySem.F.plainAttrs_list PySem.F.slot_list_extend PySem.F.type_list_extend (show MtR X "list.extend" sk from ut) ho (j0 he oh hse) fS oK fR hse gM).conv fun σ H Q hup=>hup.el fun Δ M R sr hr q k=>⟨Δ,M,_,sr,hr,q,fun o M1 ov H1 ⟨a,l,eo,em,q1⟩ e1 hr1 ro=>by
   subst eo;simp only[Rep]at ro;subst ro;obtain⟨vs,hv,rl⟩:=hr1 a _ em;refine⟨.inl ⟨rfl,vs,SqL.of hv⟩,Δ,M1,_,sr.ext e1,hr1,q1,fun d M2 v H2 ⟨ds,ys,ed,em2,hz,q2⟩ e2 hr2 rv=>?_⟩;subst ed;simp only[Rep]at rv;obtain⟨b,zs,rfl,hb,rz⟩:=rv;obtain⟨ws,hw,rl2⟩:=hr2 a _ em2;refine⟨a,b,ws,zs,rfl,rfl,hw,hb.1,by rw[<-rl2.length,<-rz.length];exact hz,k _ _ _ _ q2 ((e1.trans e2).trans (Ext.write em2)) (hr2.write em2 (rl2.append rz)) (by simp[Rep])⟩⟩
theorem sj{X:Cx}{a:Expr}{b:Expr}{c:Expr}{pos:Pos}{tg:Expr}{ta:TAd}{p:Pos}(hg:Gl X "range") (hm:X.mg "range"=none) (ha:QAd X [a,b,c] ta) (hs:starEach [a,b,c] X.env=[(false,eval a X.env),(false,eval b X.env),(false,eval c X.env)]:=by rfl)
  (hs2:starEach [b,c] X.env=[(false,eval b X.env),(false,eval c X.env)]:=by rfl):QId X tg (.Call (.Name "range" p) [a,b,c] [] pos) (wa ta):=by
 simp only[QAd.eq,QId.eq]at *
 exact(ue hg hm ha hs hs2).conv fun σ H R hup=>hup.el fun Δ M R' sr hr q k=>⟨Δ,M,_,sr,hr,q,fun ds M1 vs H1 ⟨i,j,st,ed,h1,h2,q1⟩ e1 hr1 rv=>by
   subst ed;obtain⟨v,w,z,ev,rv1,rv2,rv3⟩:=rv.three;have ev1:v=.int i:=by simpa only[Rep]using rv1
   have ev2:w=.int j:=by simpa only[Rep]using rv2
   have ev3:z=.int st:=by simpa only[Rep]using rv3
   subst ev1;subst ev2;subst ev3;subst ev;exact⟨i,j,st,rfl,by lia,⟨h2.1,h2.2.1,h2.2.2.1,h2.2.2.2,by lia,by lia⟩,t9 h1 h2.1 h2.2.1 h2.2.2.1 h2.2.2.2,k _ M1 _ H1 q1 e1 hr1 yt⟩⟩
theorem DT{X:Cx}{tg:Expr}{iter:Expr}{elt:Expr}{pos:Pos}{scope:Scope}{cl:List (Str×Addr)}{ms:List Bool}{ag:List Str}{ifs:List Expr}{wi:TId}{g:GD}{tc:TTd}{te:TEd}(S:bY X scope cl ms ag) (bg:X.calm=true) (hi:QId X tg iter wi) (hg:Ez X scope cl ag tg g)
  (hif:bY X scope cl ms ag->∀C s H ex,QIf (cxC X scope cl (X.N++ag) C s H ex) ifs tc) (he:bY X scope cl ms ag->∀C s H ex,QEd (cxC X scope cl (X.N++ag) C s H ex) elt te)
  (hs:∀x,foldedSetIterable iter X.env x=pure x:=by intro _;rfl):QEd X (.ListComp elt [⟨tg,iter,ifs,0⟩] scope pos) (dLc ms ag.length wi g tc te):=by
 simp only[QEd.eq,QId.eq,QIf.eq]at *
 obtain⟨gv,pg,kg⟩:=hg;exact(A4 (tc:=upT X.K tc) (te:=up X.K te) S bg hi pg (hif S) (he S) hs).conv (nP kg)
theorem Af{X:Cx}{tg:Expr}{iter:Expr}{vx:Expr}{es:List Expr}{pos:Pos}{scope:Scope}{cl:List (Str×Addr)}{ms:List Bool}{ag:List Str}{i:Nat}{x:Str}{spos pos' p2:Pos}{x1}{wi:TId}{g:GD}{ta:TAd}{tv:TEd}(hu:X.A.units<cLine) (hN:X.N.Nodup) (hix:X.N[i]?=some x) (hx:X.env.scope.names.lookup x=some .local)
  (hsw:swapsWith (.DictComp (.Tuple es x1 p2) vx [⟨tg,iter,[],0⟩] scope pos) (some (.Name x pos')) spos.line X.env=pure true) (S:cA X scope cl ms ag) (bg:X.calm=true) (hi:QId X tg iter wi) (hg:PGa X scope cl ag tg g)
  (hk:∀C s H ex,QAd (au X scope cl (X.N++ag) C s H ex) es ta) (hv:∀C s H ex,QEd (au X scope cl (X.N++ag) C s H ex) vx tv)
  (hs:∀x,foldedSetIterable iter X.env x=pure x:=by intro _;rfl):QSd X (.Assign [.Name x pos'] (.DictComp (.Tuple es x1 p2) vx [⟨tg,iter,[],0⟩] scope pos) spos) (xf i (dDc ms ag.length wi g ta tv)):=by
 simp only[QEd.eq,QAd.eq,QSd.eq,QId.eq]at *
 obtain⟨gv,pg,kg⟩:=hg;refine(vq (tk:=C2 (upA X.K ta)) (tv:=up X.K tv) hu hN hix hx hsw S bg hi pg (fun C s H ex=>kB (hk C s H ex)) hv hs).conv fun D σ H hh=>?_;obtain⟨Δ,M,E,sr,hr,q,k⟩:=hh;exact xV kg σ H _ ⟨Δ,M,_,sr,hr,q,fun d M1 v H1 q1 e1 hr1 rv=>k.nx _ M1 _ H1 q1 e1 hr1 ((sr.ext e1).set i rv)⟩
theorem cI.units1{k:Nat}{A:Around}(r:cI k A):A.units+1<cLine:=by have:=r.un;lia
theorem DR{i:Int}{P:Key->Prop}:(∃k,D.int i=kD k/\P k)↔P (.inl i) :=
 ⟨fun⟨k,e,h⟩=>match k,e with|.inl _,rfl=>h,fun h=>⟨_,rfl,h⟩⟩
theorem Dt{x:Str}{P:Key->Prop}:(∃k,D.str x=kD k/\P k)↔P (.inr x) :=
 ⟨fun⟨k,e,h⟩=>match k,e with|.inr _,rfl=>h,fun h=>⟨_,rfl,h⟩⟩
theorem Cd:∀{a b:Key},kD a=kD b->a=b
 |.inl _,.inl _,h=>by cases h;rfl
 |.inr _,.inr _,h=>by cases h;rfl
 |.inl _,.inr _,h=>by cases h
 |.inr _,.inl _,h=>by cases h
theorem tJ:∀{a b:List Key},a.map kD=b.map kD->a=b
 |[],[],_=>rfl
 |[],_::_,h=>by cases h
 |_::_,[],h=>by cases h
 |x::xs,y::ys,h=>by
  simp only[List.map_cons,List.cons.injEq]at h;rw[Cd h.1,tJ h.2]
theorem Al{a b:Key}{P:List Key->Prop}:(∃ks:List Key,[kD a,kD b]=ks.map kD/\P ks)↔P [a,b] :=
 ⟨fun⟨ks,e,h⟩=>by rw[tJ (a:=[a,b]) (b:=ks) (by simpa using e)];exact h,fun h=>⟨_,rfl,h⟩⟩
theorem By{i j:Int}{P:List Key->Prop}:(∃ks:List Key,[D.int i,D.int j]=ks.map kD/\P ks)↔P [.inl i,.inl j]:=Al (a:=.inl i) (b:=.inl j)
theorem Cw{i j:Str}{P:List Key->Prop}:(∃ks:List Key,[D.str i,D.str j]=ks.map kD/\P ks)↔P [.inr i,.inr j]:=Al (a:=.inr i) (b:=.inr j)
theorem z7{i j:Int}:FI [.int i,.int j]=some (.int (if j<i then j else i)):=rfl
abbrev BKd:=DE->DH->List D->(List D->DE->DH->Prop)->Prop
def gd(g:GD) (tc:TTd) (B:BKd):List D->DE->DH->List D->(List D->DE->DH->Prop)->Prop
 |[],Δ,M,acc,Q=>Q acc Δ M
 |d::ds,Δ,M,acc,Q=>∃ Δ',g d Δ=some Δ'/\tc Δ' M fun b M1=>if b=true then B Δ' M1 acc fun acc' Δ'' M2=>acc'.length<=sizeLine/\gd g tc B ds Δ'' M2 acc' Q else gd g tc B ds Δ' M1 acc Q
def rQ(te:TEd):BKd:=fun Δ M acc Q=>te Δ M fun y M2=>Q (acc++[y]) Δ M2
def rg(wi:TId) (g:GD) (tc:TTd) (B:BKd):BKd:=fun Δ M acc Q=>wi Δ M fun es M2=>gd g tc B es Δ M2 acc Q
def upB(K:PySem.W.Frag) (b:BKd):BK:=fun ys σ H Z=>∃(Δ:DE) (M:DH) (acc:List D) (R:List D->DE->DH->Prop),SR K M H σ Δ/\HR K M H/\ah K M H acc ys/\acc.length<=sizeLine/\b Δ M acc R /\
 ∀acc' Δ' M' ys' σ' H',R acc' Δ' M'->Ext M H M' H'->HR K M' H'->SR K M' H' σ' Δ'->ah K M' H' acc' ys'->Z ys' σ' H'
section
variable{K:PySem.W.Frag}{g:GD}{gv:TG}{tc:TTd}{te:TEd}{wi:TId}{Bd:BKd}{B:BK}
theorem zF{ys:List V}{σ:St}{H:Hp}{Z:List V->St->Hp->Prop}(h:upB K (rQ te) ys σ H Z):jd (up K te) ys σ H Z:=by
 obtain⟨Δ,M,acc,R,sr,hr,ra,_,q,k⟩:=h;exact⟨Δ,M,_,sr,hr,q,fun d M' v H' q1 e1 hr1 rv=>k _ _ _ _ _ _ q1 e1 hr1 (sr.ext e1) ((ra.ext e1).append (ah.cons rv ah.nil))⟩
theorem tQ(kg:kX K g gv) (hB:∀{ys σ H Z},upB K Bd ys σ H Z->B ys σ H Z) {J:It}{es:List D}{M5:DH}{H5:Hp}(it5:ItD K J es M5 H5) (hr5:HR K M5 H5) {Δ:DE}{acc:List D}{R:List D->DE->DH->Prop}{ys:List V}{σ:St}{Z:List V->St->Hp->Prop}
  (sr:SR K M5 H5 σ Δ) (ra:ah K M5 H5 acc ys) (la:acc.length<=sizeLine) (q:gd g tc Bd es Δ M5 acc R)
  (k:∀acc' Δ' M' ys' σ' H',R acc' Δ' M'->Ext M5 H5 M' H'->HR K M' H'->SR K M' H' σ' Δ'->ah K M' H' acc' ys'->Z ys' σ' H') :
  ∃W:Nat->Nat->List V->St->Hp->Prop,(∃m,W 0 m ys σ H5)/\gX J gv (upT K tc) B W Z:=by
 refine⟨fun j m ys' σ' H'=>∃ Δ' M' acc',m=es.length-j/\j<=es.length/\Ext M5 H5 M' H'/\HR K M' H'/\SR K M' H' σ' Δ'/\ah K M' H' acc' ys'/\acc'.length<=sizeLine/\gd g tc Bd (es.drop j) Δ' M' acc' R,
  ⟨es.length,Δ,M5,acc,by simp,Nat.zero_le _,Ext.refl _ _,hr5,sr,ra,la,q⟩,?_⟩
 rintro j m ys' σ6 H6 ⟨Δ6,M6,acc6,rfl,hj,e6,hr6,sr6,ra6,la6,f6⟩;refine⟨by rw[<-ra6.length];exact la6,?_⟩;obtain⟨go2,stop2⟩:=it5 M6 H6 e6 hr6 j
 by_cases hlt2:j<es.length
 ·have hd2:es[j]?=some es[j]:=by simp[hlt2]
  obtain⟨g2,y2⟩:=go2 _ hd2;rw[List.drop_eq_getElem_cons hlt2]at f6;simp only[gd]at f6;obtain⟨Δ7,eg7,f7⟩:=f6;refine .inr ⟨g2,fun x7 H7 hy7=>?_⟩;obtain⟨e7,hr7,rx7⟩:=y2 x7 H7 hy7;refine kg _ x7 σ6 Δ6 Δ7 M6 H7 _ (sr6.ext e7) hr7 rx7 eg7 fun σ7 sr7=>?_;refine⟨Δ7,M6,_,sr7,hr7,f7,fun b M8 H8 q8 e8 hr8=>?_⟩;cases b with
  |true =>
   simp only[if_true]at q8 ⊢;refine hB ⟨Δ7,M8,acc6,_,sr7.ext e8,hr8,(ra6.ext e7).ext e8,la6,q8,?_⟩;rintro acc' Δ' M' ys9 σ' H' ⟨hz9,q9⟩ e9 hr9 sr9 ra9;exact⟨es.length-(j+1),by lia,Δ',M',acc',rfl,hlt2,((e6.trans e7).trans e8).trans e9,hr9,sr9,ra9,hz9,q9⟩
  |false =>
   simp only[Bool.false_eq_true,if_false]at q8 ⊢;exact⟨es.length-(j+1),by lia,Δ7,M8,acc6,rfl,hlt2,(e6.trans e7).trans e8,hr8,sr7.ext e8,(ra6.ext e7).ext e8,la6,q8⟩
 ·rw[List.drop_eq_nil_of_le (by lia)]at f6;simp only[gd]at f6;exact .inl ⟨stop2 (by lia),k _ _ _ _ _ _ f6 e6 hr6 sr6 ra6⟩
theorem zz(kg:kX K g gv) (hB:∀{ys σ H Z},upB K Bd ys σ H Z->B ys σ H Z) {ys:List V}{σ:St}{H:Hp}{Z:List V->St->Hp->Prop}(h:upB K (rg wi g tc Bd) ys σ H Z):wQ (upI K wi) gv (upT K tc) B ys σ H Z:=by
 obtain⟨Δ,M,acc,R,sr,hr,ra,la,q,k⟩:=h;exact⟨Δ,M,_,sr,hr,q,fun es M2 J H2 q2 e2 hr2 it2=>tQ kg hB it2 hr2 (sr.ext e2) (ra.ext e2) la q2 fun a1 a2 a3 a4 a5 a6 b1 b2=>k a1 a2 a3 a4 a5 a6 b1 (e2.trans b2)⟩
end
def Bt(ms:List Bool) (k:Nat) (w0:TId) (g0:GD) (tc0:TTd) (B:BKd):TEd:=fun Δ M Q=>w0 Δ M fun ds M1=>gd g0 tc0 B ds (lW ms k Δ) M1 [] fun ys _ M2=>Q (.lst ys) M2
theorem wO{K:PySem.W.Frag}{w0:TId}{g0:GD}{tc0:TTd}{gv0:TG}{Bd:BKd}{B:BK}{ms:List Bool}{kk:Nat}(kg:kX K g0 gv0) (hB:∀{ys σ H Z},upB K Bd ys σ H Z->B ys σ H Z):∀ σ H Q,up K (Bt ms kk w0 g0 tc0 Bd) σ H Q->yj ms kk (upI K w0) gv0 (upT K tc0) B σ H Q:=by
 rintro σ H Q ⟨Δ,M,R,sr,hr,q,k⟩;refine⟨Δ,M,_,sr,hr,q,fun ds M1 J H1 q1 e1 hr1 it=>?_⟩;obtain⟨W,hW,hC⟩:=tQ (Z:=fun ys' _ H'=>∃M' acc,Ext M1 H1 M' H'/\HR K M' H'/\ah K M' H' acc ys'/\R (.lst acc) M') kg hB it hr1 ((sr.ext e1).comp ms kk) ah.nil (Nat.zero_le _) q1
  (fun acc' Δ' M' ys' σ' H' q' e' hr' _ ra'=>⟨M',acc',e',hr',ra',q'⟩)
 refine⟨W,_,hW,hC,?_⟩;rintro ys σ' H' p ⟨M',acc,e',hr',ra,q'⟩ hp;refine k _ M' _ _ q' ((e1.trans e').trans (Ext.new hr' hp)) (hr'.new hp) ?_;simp only[Rep];exact⟨p,ys,rfl,⟨aA,hr'.fresh hp⟩,ra.ext (Ext.new hr' hp)⟩
abbrev FZ(elt t0 i0 t1 i1:Expr) (f0 f1:List Expr) (scope:Scope) (pos:Pos):Expr:=.ListComp elt [⟨t0,i0,f0,0⟩,⟨t1,i1,f1,0⟩] scope pos
def EL(ms:List Bool) (k:Nat) (w0:TId) (g0:GD) (tc0:TTd) (wi:TId) (g:GD) (tc:TTd) (te:TEd):TEd:=Bt ms k w0 g0 tc0 (rg wi g tc (rQ te))
section
variable{X:Cx}{scope:Scope}{cl:List (Str×Addr)}{ms:List Bool}{ag:List Str}{elt t0 i0 t1 i1:Expr}{f0 f1:List Expr}{pos:Pos}
theorem Bg{w1:TI}{g1:TG}{tc1:TT}{te:TE}(hi1:∀C s H ex,PI (au X scope cl (X.N++ag) C s H ex) t1 i1 w1) (hg1:∀C s H ex,PG (au X scope cl (X.N++ag) C s H ex) t1 g1) (hif1:∀C s H ex,PIf (au X scope cl (X.N++ag) C s H ex) f1 tc1) (he:∀C s H ex,PE (au X scope cl (X.N++ag) C s H ex) elt te)
  (hs1:∀C x,foldedSetIterable i1 (compEnvC scope cl C X.env) x=pure x):LvC X scope cl ag (lcE elt [⟨t0,i0,f0,0⟩,⟨t1,i1,f1,0⟩] scope pos) i0.pos t0 f0 (wQ w1 g1 tc1 (jd te)):=fun _ _ _ _ _ c =>
 Ai c (nH (k:=1) (p:=i1.pos) c (he _ _ _ _) fun _ _ _=>rfl) (fun _ _ _=>rfl) (hs1 _) (hi1 _ _ _ _) (hg1 _ _ _ _) (hif1 _ _ _ _) fun _ _ _=>rfl
end
theorem DV{X:Cx}{scope:Scope}{cl:List (Str×Addr)}{ms:List Bool}{ag:List Str}{elt t0 i0 t1 i1:Expr}{f0 f1:List Expr}{pos:Pos}{w0 wi:TId}{g0 g:GD}{tc0 tc:TTd}{te:TEd}(S:cA X scope cl ms ag) (bg:X.calm=true) (hi:QId X t0 i0 w0) (hg0:PGa X scope cl ag t0 g0)
  (hif0:∀C s H ex,QIf (au X scope cl (X.N++ag) C s H ex) f0 tc0) (hi1:∀C s H ex,QId (au X scope cl (X.N++ag) C s H ex) t1 i1 wi) (hg:PGa X scope cl ag t1 g) (hif:∀C s H ex,QIf (au X scope cl (X.N++ag) C s H ex) f1 tc) (he:∀C s H ex,QEd (au X scope cl (X.N++ag) C s H ex) elt te)
  (hs:∀x,foldedSetIterable i0 X.env x=pure x:=by intro _;rfl) (hs1:∀C x,foldedSetIterable i1 (compEnvC scope cl C X.env) x=pure x:=by intro _ _;rfl):QEd X (.ListComp elt [⟨t0,i0,f0,0⟩,⟨t1,i1,f1,0⟩] scope pos) (EL ms ag.length w0 g0 tc0 wi g tc te):=by
 simp only[QEd.eq,QId.eq,QIf.eq]at *
 obtain⟨gv0,pg0,kg0⟩:=hg0;obtain⟨gv,pg,kg⟩:=hg;exact(u6 (tc:=upT X.K tc0) S bg hi pg0 hif0 (Bg (w1:=upI X.K wi) (tc1:=upT X.K tc) (te:=up X.K te) hi1 pg hif he hs1) hs).conv (wO kg0 fun h=>zz kg zF h)
@[irreducible] def zr(t:TSd):TSd:=t
theorem tH{t:TSd}:zr t=t:=by unfold zr;rfl
theorem aM{t:TSd}{E:fu}{Δ:DE}{M:DH}(h:t E Δ M):zr t E Δ M:=by rw[tH];exact h
theorem bJ{X:Cx}{st:List Stmt}{t:TSd}(h:QSs X st t):QSs X st (zr t):=by rw[tH];exact h
theorem xq{K:Params->PySem.W.Frag}{as:List Addr}{n t:Nat}{q:Program}{loose:List Str}{XP:(Str->Option Value)->Heap->Prop}{r:PySem.W.RowW}{d:DefRec}{kwd:List (Str×Expr)}{run:Value->List Value->Sem Value}(hk:∀P,as=(K P).map (·.1))
  (h:PySem.W.WalkO q loose XP (fun w h=>(K w.params).In h) r d kwd run):PySem.W.WalkX q loose XP (PySem.W.X.obsZ as) (PySem.W.X.valZ K n t) r d kwd run:=by
 intro w s₀ s₁ mg mb G y a o pm cd doc dV kV ho hd hcd hD hmg hg args vals as' L hpre hlay hrd hwl hlo;refine h w s₀ s₁ mg mb G (fun b u hu=>L.keeps b u ?_) a o pm cd doc dV kV ho hd hcd hD hmg hg args vals as' hpre hlay hrd hwl hlo;have y1:as.map s₀.heap.get?=(K w.params).map fun p=>some p.2:=congrArg (·.1) y;rw[hk w.params,List.map_map]at y1;have key:∀(l:PySem.W.Frag),(l.map fun p=>s₀.heap.get? p.1)=l.map (fun p=>some p.2)->List.lookup b l=some u->s₀.heap.get? b=some u:=by
  intro l
  induction l with
  |nil=>intro _ z;cases z
  |cons p l ih =>
   intro e z;rw[List.map_cons,List.map_cons,List.cons.injEq]at e;rw[List.lookup_cons]at z
   by_cases c:b=p.1
   ·subst c;rw[beq_self_eq_true]at z;cases z;exact e.1
   ·rw[beq_eq_false_iff_ne.mpr c]at z;exact ih e.2 z
 exact key _ y1 hu
end L2
namespace L2
open PySem PySem.W PySem.Calls PyProof.Rows
end L2
namespace L2
open PySem PySem.Spec PyProof.Rows
def tLR(ta:TA):TE:=fun σ H Q=>ta σ H fun vs H1=>∃j:Int,vs=[.int j]/\0<=j/\j<=1000000/\∀l,H1 l=none->Q (.ref l) (upd H1 l (.lst ((List.range j.toNat).map fun(k:Nat)=>V.int (0+(k:Int)))))
theorem l8:∀{n m:Nat}{us:List Value},us.length=n->(∀(j:Nat) (v:Value),us[j]?=some v->∃t,v=.int (((m+j:Nat):Int)) t)->ao ((List.range' m n).map fun(k:Nat)=>V.int (0+(k:Int))) us
 |0,m,us,h,_=>by
  have:us=[]:=List.eq_nil_of_length_eq_zero h;subst this;exact .nil
 |n+1,m,[],h,_=>by cases h
 |n+1,m,u::us,h,hh=>by
  rw[List.range'_succ,List.map_cons];obtain⟨t,e⟩:=hh 0 u rfl;subst e;refine .cons ⟨t,by rw[Int.zero_add];rfl⟩ (l8 (by simpa using h) fun j v hv=>?_);obtain⟨t,e⟩:=hh (j+1) v (by simpa using hv);exact⟨t,by rw[e,show m+(j+1)=m+1+j by lia]⟩
section
variable{X:Cx}{a:Expr}{ta:TA}{p p2 pos pos2:Pos}
theorem om(bg:X.calm=true) (hg:Gl X "list") (hm:X.mg "list"=none) (hg2:Gl X "range") (hm2:X.mg "range"=none) (ha:PA X [a] ta) (hs:starEach [a] X.env=[(false,eval a X.env)]:=by rfl)
  (hs2:starEach [.Call (.Name "range" p2) [a] [] pos2] X.env=[(false,eval (.Call (.Name "range" p2) [a] [] pos2) X.env)]:=by rfl):PE X (.Call (.Name "list" p) [.Call (.Name "range" p2) [a] [] pos2] [] pos) (tLR ta):=by
 intro aa s σ H Q I h;refine wpAny_Call_Name_kw (di I hg hm boot_list ?_);refine PyProof.Rows.callWith_type1 ?_ hs2 rfl;rw[hs2];show wpAny _ _ (spliced [(false,eval (.Call (.Name "range" p2) [a] [] pos2) X.env)]) _ _ s;refine Calls.spliced_cons (Call_ (di I hg2 hm2 boot_range (PyProof.Rows.callWith_type1 (thn (ha pos2 aa s σ H _ I h) fun us s1 hup=>hup.el fun vs H1 I1 r1 q1=>?_) hs rfl)));obtain⟨j,e,q1,q2,q⟩:=q1;subst e;cases r1 with
 |cons r rr =>
  cases rr;obtain⟨t,rfl⟩:=r;refine call_range_1 (Calls.spliced_nil ?_);refine call_list_range (I.ok.hd bg) (IsRange.new ..) (small_one (by lia) (by lia) (by lia) (by lia)) (n:=j.toNat) (by rw[rangeSize_one];split<;>lia) (by lia) fun h' tk acc' c' kp e items=>?_;have I2:Inv X aa σ H1 { s1 with heap:=s1.heap.push { cls:=.type "range",data:=.fields #[.int 0 s1.toks,.int j t,.int 1 (s1.toks+1)] },toks:=s1.toks+1+1 }:=I1.kept fun b o e=>Heap.get?_push_of_some _ e;have hv:ao ((List.range j.toNat).map fun(k:Nat)=>V.int (0+(k:Int))) acc'.toList:=by
   rw[List.range_eq_range'];refine l8 (by simpa using items.1) fun i v hv=>?_;obtain⟨t,e⟩:=items.2 i v (by simpa using hv);exact⟨t,by rw[e];congr 1;lia⟩
  refine⟨.ref _,_,I2.laid (t':=tk) kp (Nat.le_refl _) (show bh X.prog X.w _ h' _ (.lst _)from⟨?_,acc'.toList,c',hv,e⟩),rfl,q _ (I2.hok.fresh (Nat.le_refl _))⟩;rw[List.length_map,List.length_range,sizeLine_eq];lia
theorem o4{K:PySem.W.Frag}{M:DH}{H:Hp}:∀(l:List Nat),ah K M H (l.map fun(k:Nat)=>D.int (0+(k:Int))) (l.map fun(k:Nat)=>V.int (0+(k:Int)))
 |[]=>rfl
 |k::l=>by simp only[List.map_cons,ah];exact⟨_,_,rfl,by simp[Rep],o4 l⟩
end
section
variable{X:Cx}
end
section
variable{X:Cx}
def inF(x y:D):Option D:=match y with
 |.lst ds=>if dLe x 59=true/\bR ds 59=true then some (.bl (ds.any fun d=>eqD d x))else none
 |_=>none
theorem AX{x:D}{ds:List D}:inF x (.lst ds)=if dLe x 59=true/\bR ds 59=true then some (.bl (ds.any fun d=>eqD d x))else none:=rfl
open Classical in
theorem AU(hu:X.A.units+64<cLine):bC X (compareOp .In) inF:=by
 intro aa s σ H M x y v u dx dy dz Q I hr rx ry r1 r2 e k;cases dy with
 |lst ds =>
  simp only[inF]at e
  by_cases hc:dLe dx 59=true/\bR ds 59=true
  ·rw[if_pos hc]at e;cases e;obtain⟨l,vs,rfl,sq,rl⟩:=r2;cases ry;obtain⟨its,r,pl,hz⟩:=I.list (SqL.of sq);have hl:ds.length=its.length:=rl.length.trans r.length;have at_:∀j (h:j<ds.length) (h':j<its.length),PySem.SeqAt.EqAt X.A.in1 s its[j] v (eqD ds[j] dx):=fun j h h'=>by
    obtain⟨v1,g1,p1⟩:=rl.get (i:=j) (d:=ds[j]) (by simp[h]);obtain⟨u1,k1,m1⟩:=r.get g1;have e1:its[j]=u1:=by simpa[List.getElem?_eq_getElem h']using k1
    rw[e1];exact(iP I 59 (by show X.A.units+1+59<cLine;omega) (dG hc.2 (i:=j) (by simp[h])) hc.1 p1.r r1 m1 rx).1
   refine SeqAt.in_listAt (fun w=>decide (∃j,∃h:j<ds.length,∃h':j<its.length,its[j]=w/\eqD ds[j] dx=true)) pl.isList (fun w hw=>?_) ⟨.bl _,H,I,rfl,?_⟩
   ·obtain⟨i,hi,rfl⟩:=List.mem_iff_getElem.mp (show w∈its by simpa using hw)
    by_cases q:∃j,∃h:j<ds.length,∃h':j<its.length,its[j]=its[i]/\eqD ds[j] dx=true
    ·rw[decide_eq_true q];obtain⟨j,h,h',q1,q2⟩:=q;rw[<-q1,<-q2];exact at_ j h h'
    ·rw[decide_eq_false q];have:=at_ i (by omega) hi
     rwa [show eqD ds[i] dx=false from Bool.eq_false_iff.mpr fun z=>q ⟨i,by omega,hi,rfl,z⟩]at this
   ·have ea:its.toArray.any (fun w=>decide (∃j,∃h:j<ds.length,∃h':j<its.length,its[j]=w/\eqD ds[j] dx=true))=ds.any fun d=>eqD d dx:=by
     rw[Bool.eq_iff_iff,List.any_toArray,List.any_eq_true,List.any_eq_true];constructor
     ·rintro⟨w,_,h⟩;obtain⟨j,h1,_,_,h2⟩:=of_decide_eq_true h;exact⟨ds[j],List.getElem_mem _,h2⟩
     ·rintro⟨d,hd,h⟩;obtain⟨j,hj,rfl⟩:=List.mem_iff_getElem.mp hd;exact⟨its[j],List.getElem_mem _,decide_eq_true ⟨j,hj,by omega,rfl,h⟩⟩
    rw[ea];exact k _ H (Ext.refl _ _) hr (by simp[Rep])
  ·rw[if_neg hc]at e;cases e
 |_=>cases e
end
section
variable{X:Cx}{a b e:Expr}{ta tb te:TEd}{pos:Pos}
def rK(ds:List D) (x:D):Option Nat:=if dLe x 59=true/\bR ds 59=true/\ds.length<2 ^ 62 then ds.findIdx? (fun d=>eqD d x)else none
theorem wC{ds:List D}{x:D}{j:Nat}(h:rK ds x=some j):dLe x 59=true/\bR ds 59=true/\ds.length<2 ^ 62/\∃hj:j<ds.length,eqD ds[j] x=true/\∀m (hm:m<ds.length),m<j->eqD ds[m] x=false:=by
 unfold rK at h
 by_cases hc:dLe x 59=true/\bR ds 59=true/\ds.length<2 ^ 62
 ·rw[if_pos hc]at h;obtain⟨hj,h1,h2⟩:=List.findIdx?_eq_some_iff_getElem.mp h;exact⟨hc.1,hc.2.1,hc.2.2,hj,h1,fun m hm hl=>by have:=h2 m hl;simpa using this⟩
 ·rw[if_neg hc]at h;cases h
section
open PySem.SeqAt PySem.MeetsSeq AutoSeq1
theorem o9(l:Addr) (xs:Array Value) (n:Nat) (od:Option Addr) (os:Array (Option Value)) (y:Value) (hit:Nat->Bool) (top:Int) (j:Nat) (lj:j<xs.size) (ltop:(j:Int)<top) (yes:hit j=true) :
  ∀(k i:Nat),j-i=k->i<=j->(∀m,i<=m->m<j->hit m=false)->Meets (Builtin.«list.index.loop» ⟨[.ref l,y,rawInt i,rawInt top],[]⟩)
   (fun B R t=>t.heap.get? l=some { cls:=.type "list",dict:=od,data:=.seq xs n,slots:=os }/\(∀m (h:m<xs.size),EqAt B.in1 t xs[m] y (hit m))/\R (.ok (.ret (.int j t.toks))) { t with toks:=t.toks+1 })
 |0,i,ek,hi,no,prog,w,B,R,t,q=>by
  obtain⟨th,tg,td,tt,to⟩:=t;obtain⟨ql,qe,qr⟩:=q;obtain rfl:i=j:=by lia
  wp_walk using wpAny_loadPart' ql
  rw[show(if(i:Int)<top then xs[((i:Nat):Int).toNat]? else none)=some xs[i]by simp[ltop,lj]];refine wpAny_bind (qe i lj prog w _ _ ?_);rw[yes]
  wp_walk
  exact qr
 |k+1,i,ek,hi,no,prog,w,B,R,t,q=>by
  obtain⟨th,tg,td,tt,to⟩:=t;obtain⟨ql,qe,qr⟩:=q;have li:i<xs.size:=by lia
  have lt:(i:Int)<top:=by lia
  wp_walk using wpAny_loadPart' ql
  rw[show(if(i:Int)<top then xs[((i:Nat):Int).toNat]? else none)=some xs[i]by simp[lt,li]];refine wpAny_bind (qe i li prog w _ _ ?_);rw[no i (Nat.le_refl _) (by lia)]
  wp_walk
  rw[show((i:Int)+1)=((i+1:Nat):Int)by lia];refine⟨plainId_quiet plain_index_loop _,codeAny_builtin entry_index_loop ?_⟩;rw[Around.under_plainId plain_index_loop _];exact o9 l xs n od os y hit top j lj ltop yes k (i+1) (by lia) (by lia) (fun m a b=>no m (by lia) b) prog w B R _ ⟨ql,qe,qr⟩
theorem we(l:Addr) (xs:Array Value) (n:Nat) (od:Option Addr) (os:Array (Option Value)) (y:Value) (hit:Nat->Bool) (j:Nat) (lj:j<xs.size) (ls:(j:Int)<2 ^ 63-1) (yes:hit j=true) (no:∀m,m<j->hit m=false) :
  Meets (Builtin.«list.index» ⟨[.ref l,y],[]⟩)
   (fun B R t=>t.heap.get? l=some { cls:=.type "list",dict:=od,data:=.seq xs n,slots:=os }/\(∀m (h:m<xs.size),EqAt B.in1 t xs[m] y (hit m))/\R (.ok (.ret (.int j t.toks))) { t with toks:=t.toks+1 }):=by
 intro prog w B R t q;obtain⟨th,tg,td,tt,to⟩:=t;obtain⟨ql,qe,qr⟩:=q
 wp_walk using wpAny_loadPart' ql
 rw[show((fun i:Int=>if i<0 then max 0 (i+(xs.size:Int))else i) ((none:Option Int).getD 0))=((0:Nat):Int)by simp,show((fun i:Int=>if i<0 then max 0 (i+(xs.size:Int))else i) ((none:Option Int).getD (2 ^ 63-1)))=2 ^ 63-1 by simp];refine⟨plainId_quiet plain_index_loop _,codeAny_builtin entry_index_loop ?_⟩;rw[Around.under_plainId plain_index_loop _];exact o9 l xs n od os y hit (2 ^ 63-1) j lj ls yes _ 0 rfl (Nat.zero_le _) (fun m _ b=>no m b) prog w B R _ ⟨ql,qe,qr⟩
end
end
section
variable{X:Cx}{o e:Expr}{to te:TEd}{cM bf:Pos}
def pK(ds:List D) (d:D) (m:Nat):Bool:=match ds[m]? with|some x=>eqD x d|none=>false
theorem zt{aa:List (Addr×Obj)}{σ:St}{H:Hp}{s:Shared}{M:DH}{ds:List D}{d:D}{vs:List V}{its:List Value}{y:V}{u:Value}(I:Inv X aa σ H s) (hu:X.A.units+64<cLine) (rl:ah X.K M H ds vs) (r:ao vs its) (r1:aJ X.K M H d y) (ry:aD y u) (h1:dLe d 59=true) (h2:bR ds 59=true) :
  ∀m (h:m<its.toArray.size),PySem.SeqAt.EqAt X.A.in1 s its.toArray[m] u (pK ds d m):=fun m h=>by
 have hl:ds.length=its.length:=rl.length.trans r.length;have h':m<its.length:=by simpa using h
 have h3:m<ds.length:=by lia
 obtain⟨v1,g1,p1⟩:=rl.get (i:=m) (d:=ds[m]) (by simp[h3]);obtain⟨u1,k1,m1⟩:=r.get g1;have e1:its.toArray[m]=u1:=by simpa[List.getElem?_eq_getElem h']using k1
 rw[e1,show pK ds d m=eqD ds[m] d by simp[pK,h3]];exact(iP I 59 (by show X.A.units+1+59<cLine;lia) (dG h2 (i:=m) (by simp[h3])) h1 p1.r r1 m1 ry).1
theorem va{ds:List D}{x:D}{j:Nat}(h:rK ds x=some j):dLe x 59=true/\bR ds 59=true/\(j:Int)<2 ^ 63-1/\j<ds.length/\pK ds x j=true/\∀m,m<j->pK ds x m=false:=by
 obtain⟨h1,h2,h3,lj,yes,no⟩:=wC h;refine⟨h1,h2,by lia,lj,by simp[pK,lj,yes],fun m hm=>?_⟩;have hm':m<ds.length:=by lia
 simp[pK,hm',no m hm' hm]
theorem ye(hu:X.A.units+64<cLine):MtR X "list.index" (fun x xs H Q=>∃M ds d y j,xs=[y]/\aJ X.K M H (.lst ds) x/\aJ X.K M H d y/\rK ds d=some j/\Q (.int j) H):=by
 intro aa s σ H x xs v us Q I rx rv h;obtain⟨M,ds,d,y,j,rfl,r2,r1,hj,q⟩:=h;obtain⟨u,rfl,ry⟩:=ao.one rv;obtain⟨l,vs,rfl,sq,rl⟩:=r2;cases rx;obtain⟨its,r,pl,hz⟩:=I.list (SqL.of sq);obtain⟨h1,h2,h3,lj,yes,no⟩:=va hj;have hl:ds.length=its.length:=rl.length.trans r.length;obtain⟨⟨c,dd,dt,sl⟩,n,ho,hc,hdd,hdt⟩:=pl;obtain rfl:c=.type "list":=hc;obtain rfl:dt=.seq its.toArray n:=hdt;exact call_meets F.slot_list_index ⟨_,ho,rfl⟩ F.entry_list_index (F.args_list_index_2 _ _) (we l its.toArray n dd sl u (pK ds d) j (by simp;lia) h3 yes no) ⟨ho,zt I hu rl r r1 ry h1 h2,⟨.int _,H,I.tok _,⟨_,rfl⟩,q⟩⟩
def Aj(to te:TEd):TEd:=fun Δ M Q=>to Δ M fun o M1=>(∃ds,rdM M1 o=.lst ds)/\te Δ M1 fun x M2=>∃ds j,rdM M2 o=.lst ds/\rK ds (rdM M2 x)=some j/\Q (.int j) M2
theorem Cg(hu:X.A.units+64<cLine) (ho:QEd X o to) (he:QEd X e te) (fS:attributeBase o "index" X.env (eval o X.env)=eval o X.env:=by rfl)
  (hse:starEach [e] X.env=(false,eval e X.env)::starEach [] X.env:=by rfl)
  (oK:((backTo bf (starEach [e] X.env)).all (fun x => !x.1) && (backToKw bf (keywordEach [] X.env)).all (fun x => x.1.isSome)
  &&decide ([e].length+([]:List Keyword).length+(if([]:List Keyword).isEmpty then 0 else 1)<30))=true:=by rfl)
  (fR:(cM.endLine==bf.line)=true:=by rfl) (gM:(backTo bf (starEach [] X.env)).any (·.1)=false:=by rfl):QEd X (.Call (.Attribute o "index" cM) [e] [] bf) (Aj to te):=by
 rw[QEd.eq]at *
 refine(vB PySem.F.plainAttrs_list PySem.F.slot_list_index PySem.F.type_list_index (ye hu) ho (j0 he oh hse) fS oK fR hse gM).conv fun σ H Q hh=>?_;obtain⟨Δ,M,R,sr,hr,q,k⟩:=hh;refine⟨Δ,M,_,sr,hr,q,fun o M1 ov H1 ⟨⟨ds0,e0⟩,q1⟩ e1 hr1 ro=>?_⟩;have r0:=ro.rd hr1;rw[e0]at r0;obtain⟨l0,vs0,rfl,hl0,_⟩:=r0;refine⟨.inl ⟨rfl,vs0,SqL.of hl0⟩,Δ,M1,_,sr.ext e1,hr1,q1,fun d M2 v H2 ⟨ds,j,ed,hj,q2⟩ e2 hr2 rv=>?_⟩;have r2:=(ro.ext e2).rd hr2;rw[ed]at r2;exact⟨M2,ds,_,v,j,rfl,r2,rv.rd hr2,hj,k _ M2 _ H2 q2 (e1.trans e2) hr2 (by simp[Rep])⟩
end
section
variable{X:Cx}{scope:Scope}{cl:List (Str×Addr)}{ag:List Str}{tg:Expr}{pos:Pos}
end
section
variable{X:Cx}{e:Expr}{te:TEd}
def Ft(kvs:List (Key×D)):D:=.box (.dk (kvs.map (·.1))) (kvs.map (·.2))
end
section
variable{X:Cx}{a b c e o i:Expr}{es:List Expr}{te ta tb to ti:TEd}{t:TAd}{pos:Pos}{tg iter:Expr}
end
def EF:D->Option D
 |.box (.dk ks) _=>some (.lst (ks.map kD))
 |_=>none
theorem zR{kvs:List (Key×D)}:EF (Ft kvs)=some (.lst (kvs.map fun p=>kD p.1)):=by
 show some (D.lst ((kvs.map (·.1)).map kD))=_;rw[List.map_map];rfl
noncomputable def FM:D->Option D
 |.int i=>some (.int i)
 |.bl k=>some (.int (if k then 1 else 0))
 |_=>none
theorem B9{k:Bool}:FM (.bl k)=some (.int (if k then 1 else 0)):=rfl
noncomputable def ltS(a b:Str):Bool:=decide (a.cps.toList<b.cps.toList)
theorem uY{a b:Str}(h:a.cps.toList=b.cps.toList):a=b:=by
 cases a;cases b;simp only[Str.mk.injEq];exact Array.toList_inj.mp h
theorem xX(a:Str):ltS a a=false:=decide_eq_false (List.lt_irrefl _)
theorem uO{a b c:Str}(h1:ltS a b=true) (h2:ltS b c=true):ltS a c=true:=decide_eq_true (List.lt_trans (of_decide_eq_true h1) (of_decide_eq_true h2))
theorem zk{a b:Str}(h1:ltS a b=false) (h2:ltS b a=false):a=b :=
 uY (List.le_antisymm (List.not_lt.mp (of_decide_eq_false h2)) (List.not_lt.mp (of_decide_eq_false h1)))
section
variable{X:Cx}
def k8(x y:D):Option D:=match y with
 |.lst ds=>if dLe x 59=true/\bR ds 59=true then some (.bl (!(ds.any fun d=>eqD d x)))else none
 |.tup ds=>if dLe x 59=true/\bR ds 59=true then some (.bl (!(ds.any fun d=>eqD d x)))else none
 |_=>none
theorem v7{x:D}{ds:List D}:k8 x (.lst ds)=if dLe x 59=true/\bR ds 59=true then some (.bl (!(ds.any fun d=>eqD d x)))else none:=rfl
theorem rE{h:Heap}{a:Addr}{xs:Array Value}(p:IsTup h a xs):h.IsTuple a xs:=by
 obtain⟨o,h1,h2,n,h3⟩:=p;exact⟨o,h1,h2,n,h3⟩
open Classical in
theorem wd(hu:X.A.units+64<cLine):bC X (compareOp .NotIn) k8:=by
 intro aa s σ H M x y v u dx dy dz Q I hr rx ry r1 r2 e k;cases dy with
 |lst ds =>
  simp only[k8]at e
  by_cases hc:dLe dx 59=true/\bR ds 59=true
  ·rw[if_pos hc]at e;cases e;obtain⟨l,vs,rfl,sq,rl⟩:=r2;cases ry;obtain⟨its,r,pl,hz⟩:=I.list (SqL.of sq);have hl:ds.length=its.length:=rl.length.trans r.length;have at_:∀j (h:j<ds.length) (h':j<its.length),PySem.SeqAt.EqAt X.A.in1 s its[j] v (eqD ds[j] dx):=fun j h h'=>by
    obtain⟨v1,g1,p1⟩:=rl.get (i:=j) (d:=ds[j]) (by simp[h]);obtain⟨u1,k1,m1⟩:=r.get g1;have e1:its[j]=u1:=by simpa[List.getElem?_eq_getElem h']using k1
    rw[e1];exact(iP I 59 (by show X.A.units+1+59<cLine;omega) (dG hc.2 (i:=j) (by simp[h])) hc.1 p1.r r1 m1 rx).1
   refine SeqAt.notIn_listAt (fun w=>decide (∃j,∃h:j<ds.length,∃h':j<its.length,its[j]=w/\eqD ds[j] dx=true)) pl.isList (fun w hw=>?_) ⟨.bl _,H,I,rfl,?_⟩
   ·obtain⟨i,hi,rfl⟩:=List.mem_iff_getElem.mp (show w∈its by simpa using hw)
    by_cases q:∃j,∃h:j<ds.length,∃h':j<its.length,its[j]=its[i]/\eqD ds[j] dx=true
    ·rw[decide_eq_true q];obtain⟨j,h,h',q1,q2⟩:=q;rw[<-q1,<-q2];exact at_ j h h'
    ·rw[decide_eq_false q];have:=at_ i (by omega) hi
     rwa [show eqD ds[i] dx=false from Bool.eq_false_iff.mpr fun z=>q ⟨i,by omega,hi,rfl,z⟩]at this
   ·have ea:its.toArray.any (fun w=>decide (∃j,∃h:j<ds.length,∃h':j<its.length,its[j]=w/\eqD ds[j] dx=true))=ds.any fun d=>eqD d dx:=by
     rw[Bool.eq_iff_iff,List.any_toArray,List.any_eq_true,List.any_eq_true];constructor
     ·rintro⟨w,_,h⟩;obtain⟨j,h1,_,_,h2⟩:=of_decide_eq_true h;exact⟨ds[j],List.getElem_mem _,h2⟩
     ·rintro⟨d,hd,h⟩;obtain⟨j,hj,rfl⟩:=List.mem_iff_getElem.mp hd;exact⟨its[j],List.getElem_mem _,decide_eq_true ⟨j,hj,by omega,rfl,h⟩⟩
    rw[ea];exact k _ H (Ext.refl _ _) hr (by simp[Rep])
  ·rw[if_neg hc]at e;cases e
 |tup ds =>
  simp only[k8]at e
  by_cases hc:dLe dx 59=true/\bR ds 59=true
  ·rw[if_pos hc]at e;cases e;obtain⟨l,vs,rfl,sq,rl⟩:=r2;cases ry;obtain⟨its,r,pl,hz⟩:=I.tuple sq;have hl:ds.length=its.length:=rl.length.trans r.length;have at_:∀j (h:j<ds.length) (h':j<its.length),PySem.SeqAt.EqAt X.A.in1 s its[j] v (eqD ds[j] dx):=fun j h h'=>by
    obtain⟨v1,g1,p1⟩:=rl.get (i:=j) (d:=ds[j]) (by simp[h]);obtain⟨u1,k1,m1⟩:=r.get g1;have e1:its[j]=u1:=by simpa[List.getElem?_eq_getElem h']using k1
    rw[e1];exact(iP I 59 (by show X.A.units+1+59<cLine;omega) (dG hc.2 (i:=j) (by simp[h])) hc.1 p1.r r1 m1 rx).1
   refine SeqAt.notIn_tupleAt (fun w=>decide (∃j,∃h:j<ds.length,∃h':j<its.length,its[j]=w/\eqD ds[j] dx=true)) (rE pl) (fun w hw=>?_) ⟨.bl _,H,I,rfl,?_⟩
   ·obtain⟨i,hi,rfl⟩:=List.mem_iff_getElem.mp (show w∈its by simpa using hw)
    by_cases q:∃j,∃h:j<ds.length,∃h':j<its.length,its[j]=its[i]/\eqD ds[j] dx=true
    ·rw[decide_eq_true q];obtain⟨j,h,h',q1,q2⟩:=q;rw[<-q1,<-q2];exact at_ j h h'
    ·rw[decide_eq_false q];have:=at_ i (by omega) hi
     rwa [show eqD ds[i] dx=false from Bool.eq_false_iff.mpr fun z=>q ⟨i,by omega,hi,rfl,z⟩]at this
   ·have ea:its.toArray.any (fun w=>decide (∃j,∃h:j<ds.length,∃h':j<its.length,its[j]=w/\eqD ds[j] dx=true))=ds.any fun d=>eqD d dx:=by
     rw[Bool.eq_iff_iff,List.any_toArray,List.any_eq_true,List.any_eq_true];constructor
     ·rintro⟨w,_,h⟩;obtain⟨j,h1,_,_,h2⟩:=of_decide_eq_true h;exact⟨ds[j],List.getElem_mem _,h2⟩
     ·rintro⟨d,hd,h⟩;obtain⟨j,hj,rfl⟩:=List.mem_iff_getElem.mp hd;exact⟨its[j],List.getElem_mem _,decide_eq_true ⟨j,hj,by omega,rfl,h⟩⟩
    rw[ea];exact k _ H (Ext.refl _ _) hr (by simp[Rep])
  ·rw[if_neg hc]at e;cases e
 |_=>cases e
end
section
variable{X:Cx}{e:Expr}{t:TEd}
def AL(t:TEd):TEd:=fun Δ M Q=>t (Δ.map (Option.map (rdM M))) noM fun d M2=>noL d=true/\M2=noM/\Q d M
theorem SR.lend{K:PySem.W.Frag}{M:DH}{H:Hp}{σ:St}{Δ:DE}(sr:SR K M H σ Δ) (hr:HR K M H):SR K noM H σ (Δ.map (Option.map (rdM M))):=by
 refine⟨by rw[List.length_map];exact sr.1,fun i d hd=>?_⟩;rw[List.getElem?_map]at hd;cases hx:Δ[i]? with
 |none=>rw[hx]at hd;cases hd
 |some o =>
  rw[hx]at hd;cases o with
  |none=>cases hd
  |some d0 =>
   have e0:rdM M d0=d:=by simpa using hd
   subst e0;obtain⟨v,ev,rv⟩:=sr.2 i d0 hx;refine⟨v,ev,?_⟩;have:=pF hr LeM.no (qf (ds:=[d0])) (ah.cons rv ah.nil);simp only[List.map_cons,List.map_nil,ah]at this;obtain⟨w,ws,q,h1,_⟩:=this;cases q;exact h1
theorem A2(h:QEd X e t):QEd X e (AL t):=by
 simp only[QEd.eq]at *
 exact PE.conv h fun σ H Q hup=>hup.el fun Δ M R sr hr q k=>⟨_,noM,_,sr.lend hr,HR.nil,q,fun d M2 v H' ⟨hn,hM,q'⟩ e' hr' rv'=>by
  subst hM;have:=k d (gH M noM noM) v H' (by rw[wV];exact q') (Ext.back LeM.no e') (hr.back LeM.no e' hr' (fun a l z=>nomatch z)) (Rep.hard hn rv' (cj hr LeM.no e' hr'));exact this⟩
end
section
variable{P:Program}{w:World}{K:PySem.W.Frag}{h base:Heap}{mg:Str->Option Value}{x qual:Str}{st:Stmt}{f:Addr}{fd:FuncData}{k:Nat}{S:SpD}
structure cb(K:PySem.W.Frag) (x:Str) (st:Stmt) (f:Addr) (fd:FuncData):Prop where
 a:PySem.W.nsIn K mainGlobals x=some (some (.ref f))
 F:Fun K x x st f fd
theorem EX{oc:Value}{od an:Option Addr}{osl:Array (Option Value)}{kV doc pm cdv ct:Value}(a:PySem.W.nsIn K mainGlobals x=some (some (.ref f))) (l:K.lookup f=some ⟨oc,od,.func (PySem.W.fnOf x x (eQ st) (cD st) (ai st) .none kV doc pm an cdv ct),osl⟩)
  (c:PySem.W.codeIn K cdv x=true) (k:PySem.W.keepIn K (.ref f)=true):cb K x st f (PySem.W.fnOf x x (eQ st) (cD st) (ai st) .none kV doc pm an cdv ct):=⟨a,wN l c k⟩
theorem usS{p:List Value->Prop}{n:Nat}(h:∀a us,us.length=n->p (a::us)):∀us:List Value,us.length=n+1->p us:=by
 intro us e;cases us with
 |nil=>cases e
 |cons a us=>exact h a us (Nat.succ.inj e)
theorem us0{p:List Value->Prop}(h:p []):∀us:List Value,us.length=0->p us:=by
 intro us e;cases us with
 |nil=>exact h
 |cons a us=>cases e
def Bd(x qual:Str) (st:Stmt) (ps:List Str) (us:List Value):Prop:=∀(kV doc pm:Value) (an:Option Addr) (cdv ct:Value),bindArgs (PySem.W.fnOf x qual (eQ st) (cD st) (ai st) .none kV doc pm an cdv ct) ⟨us,[]⟩=pure (ps.zip us)
theorem tI{ps:List Str}(F:Fun K x qual st f fd) (b:∀us:List Value,us.length=ps.length->Bd x qual st ps us):ef K fd ps []:=F.binds fun kV doc pm an cdv ct us hl=>b us hl kV doc pm an cdv ct
variable{p1 p2 p3 p4 p5:Str}
theorem bd1(F:Fun K x qual st f fd) (b:∀a,Bd x qual st [p1] [a]):ef K fd [p1] []:=tI F (usS fun a=>us0 (b a))
theorem bd2(F:Fun K x qual st f fd) (b:∀a c,Bd x qual st [p1,p2] [a,c]):ef K fd [p1,p2] []:=tI F (usS fun a=>usS fun c=>us0 (b a c))
theorem bd3(F:Fun K x qual st f fd) (b:∀a c d,Bd x qual st [p1,p2,p3] [a,c,d]):ef K fd [p1,p2,p3] []:=tI F (usS fun a=>usS fun c=>usS fun d=>us0 (b a c d))
theorem bd4(F:Fun K x qual st f fd) (b:∀a c d e,Bd x qual st [p1,p2,p3,p4] [a,c,d,e]):ef K fd [p1,p2,p3,p4] []:=tI F (usS fun a=>usS fun c=>usS fun d=>usS fun e=>us0 (b a c d e))
theorem fg{ps:List Str}{n:Nat}(X:K.In h) (G:h.Ns mainGlobals mg) (i:cb K x st f fd) (o:bq P w K mg base CX0 k f fd ps (spD K n S)) (b:ef K fd ps []):FnD P w K mg base x k n S:=⟨_,_,_,o,PySem.W.mg_of X G i.a,i.F.kp,b⟩
end
theorem nbh{op:CmpOp}{b:Expr}(h:op≠.In:=by decide) (h2:op≠.NotIn:=by decide):behindInMarks op b=false:=vh b h h2
theorem fsc{N P:List Str}{sc:Scope}(a:sc.kind=.function:=by exact rfl) (b:sc.isCoroutine=false:=by exact rfl) (c:sc.isGenerator=false:=by exact rfl) (d:N.Nodup:=by decide +kernel) (e:N.take P.length=P:=by exact rfl)
  (f:∀x∈P,sc.names.lookup x=some .local∨sc.names.lookup x=some .cell:=by decide +kernel) (g:∀y∈sc.names,y.2≠.free:=by decide +kernel):aB N P sc:=⟨a,b,c,d,e,f,g⟩
section
variable{X:Cx}{e:Expr}{es:List Expr}{t:TAd}{pos p:Pos}{x:Str}{j k n:Nat}{S:SpD}
theorem qd(F:FnD X.prog X.w X.K X.mg X.base x j n S) (hr:cI k X.A) (ha:QAd X (e::es) t) (h:j<=k:=by decide) (hg:Gl X x:=by exact rfl) (hdb:(x==("__debug__":Str))=false:=by decide) (he:starEach (e::es) X.env=(false,eval e X.env)::starEach es X.env:=by rfl) (hpl:(backTo pos (starEach es X.env)).any (·.1)=false:=by rfl) :
  QEd X (.Call (.Name x p) (e::es) [] pos) (pI n S t):=qc F (hr.mono h) hg ha hdb he hpl
end
section
variable{prog:Program}{w:World}{A:Around}{E:Value->Shared->Prop}{s:Shared}
noncomputable def byT(w:World):Bool:=w.params.followText "set-order"
end
section
variable{prog:Program}{w:World}{A:Around}{E:Value->Shared->Prop}{s:Shared}
abbrev mC(w:World):Obj:={ cls:=.type "set",dict:=none,data:=.set #[] 0 (.fresh 0 0 (!byT w)) }
theorem vC(a:Value) {Q₁:Value->Shared->Prop}(h:Q₁ (.ref s.heap.objs.size) { s with heap:=s.heap.push (mC w) }) :
  codeAny (model prog w) A (.call (.builtin "set.__new__") ⟨[.type "set",a],[]⟩) (wants Q₁ E) s:=by
 refine codeAny_of_tree ?_;show wpAny _ A.in1 (do checkBuiltinCall "set.__new__" ⟨[.type "set",a],[]⟩;again (.builtin "set.__new__" ⟨[.type "set",a],[]⟩)) _ _ s;refine wpAny_bind (wpAny_of_eq (PySem.F.newCall_set_1 a) (wpAny_pure ⟨plainId_quiet PySem.F.plain_set_new _,codeAny_builtin PySem.F.entry_set_new ?_⟩));rw[Around.under_plainId PySem.F.plain_set_new _];unfold Builtin.«set.__new__» Builtin.Frozenset.newClass;have hsub:=sub_set_self;obtain⟨hp,g,d,tk,os⟩:=s;dsimp only
 wp_walk
 refine wpAny_askSetting (wpAny_pure ?_);dsimp only;simp only[newObj];refine wpAny_bind (wpAny_alloc (wpAny_pure ?_));exact wpAny_pure h
end
theorem jc{α:Type}(f:Nat->Nat):∀(n k:Nat) (l:List α) (out:Array α),l.length=n->(pickOrder.go f n k l out).toList.Perm (out.toList++l)
 |0,k,l,out,h=>by
  have:l=[]:=List.length_eq_zero_iff.mp h;subst this;simp[pickOrder.go]
 |n+1,k,l,out,h=>by
  have hl:f k % l.length<l.length:=Nat.mod_lt _ (by lia);simp only[pickOrder.go,List.getElem?_eq_getElem hl];refine(jc f n (k+1) _ _ (by rw[List.length_eraseIdx_of_lt hl];lia)).trans ?_;rw[Array.toList_push,List.append_assoc];refine List.Perm.append_left _ ?_;have z:l=l.take (f k % l.length)++l[f k % l.length]::l.drop (f k % l.length+1):=by rw[List.getElem_cons_drop];simp
  have e:l.eraseIdx (f k % l.length)=l.take (f k % l.length)++l.drop (f k % l.length+1):=List.eraseIdx_eq_take_drop_succ l _;rw[e];generalize l[f k % l.length]=x at z ⊢
  conv=>rhs;rw[z]
  rw[List.singleton_append];exact List.perm_middle.symm
theorem iR{α:Type}(f:Nat->Nat) (xs:Array α):(pickOrder f xs).toList.Perm xs.toList:=by
 have:=jc f xs.size 0 xs.toList #[] (by simp);simpa[pickOrder]using this
section
variable{prog:Program}{w:World}{A:Around}{E:Value->Shared->Prop}{s:Shared}
theorem jT{Q:Bool->Shared->Prop}(h:Q (byT w) s):wpAny (model prog w) A setsByText Q E s:=by
 unfold setsByText;exact wpAny_bind (wpAny_askSetting (wpAny_pure h))
end
end L2
namespace L2
open PySem
def f51(x:Nat):Nat:=5*x+1
def jx:Nat->Nat->Nat
 |0,x=>x
 |n+1,x=>jx n (f51 x)
theorem kQ(m n x:Nat):jx (m+n) x=jx n (jx m x):=by
 induction m generalizing x with
 |zero=>simp[jx]
 |succ m ih=>rw[Nat.succ_add];simp only[jx];exact ih _
theorem xQ(k:Nat):∃a c,∀z,jx (2 ^ k) z=z+2 ^ (k+2)*a*z+2 ^ k+2 ^ (k+1)*c:=by
 induction k with
 |zero=>exact⟨1,0,fun z=>by simp[jx,f51];lia⟩
 |succ k ih =>
  obtain⟨a,c,h⟩:=ih;generalize hp:2 ^ k=p at *
  have e1:2 ^ (k+1)=2*p:=by rw[Nat.pow_succ,hp,Nat.mul_comm]
  have e2:2 ^ (k+2)=4*p:=by rw[Nat.pow_add,hp];lia
  have e3:2 ^ (k+1+2)=8*p:=by rw[show k+1+2=k+3 by lia,Nat.pow_add,hp];lia
  have e4:2 ^ (k+1+1)=4*p:=e2;rw[e1,e3,e4];rw[e1,e2]at h;refine⟨a+2*p*a*a,c+p*a+2*p*a*c,fun z=>?_⟩;rw[show 2*p=p+p by lia,kQ,h,h]
  grind
theorem w6(k:Nat):∀x j,j<2 ^ k->∃n,n<2 ^ k/\jx n x % 2 ^ k=j:=by
 induction k with
 |zero=>intro x j h;exact⟨0,by simp,by simp at h;simp[h,Nat.mod_one]⟩
 |succ k ih =>
  intro x j hj;obtain⟨a,c,hs⟩:=xQ k;have pos:0<2 ^ k:=Nat.two_pow_pos k;have e1:2 ^ (k+1)=2*2 ^ k:=by rw[Nat.pow_succ,Nat.mul_comm]
  have e2:2 ^ (k+2)=2*(2*2 ^ k):=by rw[Nat.pow_add];lia
  obtain⟨n,hn,he⟩:=ih x (j % 2 ^ k) (Nat.mod_lt _ pos);generalize hy:jx n x=y at he;generalize hp:2 ^ k=p at *
  have hm:y % (2*p)=j∨(y+p) % (2*p)=j:=by
   rw[e1]at hj;have d1:=Nat.div_add_mod y (2*p);have d3:=Nat.mod_lt y (show 0<2*p by lia);have:y % (2*p) % p=y % p:=Nat.mod_mul_left_mod y 2 p;rw[he]at this;generalize y % (2*p)=r at *
   have q1:r=p*(r / p)+r % p:=(Nat.div_add_mod r p).symm;have q2:j=p*(j / p)+j % p:=(Nat.div_add_mod j p).symm;have r2:r / p<2:=Nat.div_lt_of_lt_mul (by lia);have j2:j / p<2:=Nat.div_lt_of_lt_mul (by lia);rw[this]at q1;have hy':(y+p) % (2*p)=(r+p) % (2*p):=by
    rw[<-d1,Nat.add_assoc,Nat.mul_add_mod]
   rw[hy'];have jl:j % p<p:=Nat.mod_lt _ pos;generalize j % p=u at *
   have two:∀q,q<2->q=0∨q=1:=fun q h=>by lia
   have c1:=two _ r2;have c2:=two _ j2;rcases c1 with c1|c1<;>rcases c2 with c2|c2<;>rw[c1]at q1<;>rw[c2]at q2<;>simp only[Nat.mul_zero,Nat.mul_one,Nat.zero_add]at q1 q2
   ·left;lia
   ·right;rw[Nat.mod_eq_of_lt (by lia)];lia
   ·right;rw[show r+p=u+1*(2*p)by lia,Nat.add_mul_mod_self_right,Nat.mod_eq_of_lt (by lia)];lia
   ·left;lia
  rcases hm with hm|hm
  ·exact⟨n,by lia,by rw[e1,hy];exact hm⟩
  ·refine⟨n+p,by lia,?_⟩;rw[kQ,hy,hs y,e1,e2];have:y+2*(2*p)*a*y+p+2*p*c=(y+p)+(2*a*y+c)*(2*p):=by grind
   rw[this,Nat.add_mul_mod_self_right];exact hm
end L2
namespace L2
open PySem PySem.SetTable
def pS(mask:Nat) (h:Int):Probe:={ j:=bits h % (mask+1),more:=runEnd mask (bits h % (mask+1))-bits h % (mask+1),i:=bits h % (mask+1),perturb:=bits h,dummy:=none }
def pA(mask:Nat) (p:Probe):Probe :=
 if p.more > 0 then { p with j:=p.j+1,more:=p.more-1 }
 else { p with j:=(leap mask p.i p.perturb).1,more:=runEnd mask (leap mask p.i p.perturb).1-(leap mask p.i p.perturb).1,i:=(leap mask p.i p.perturb).1,perturb:=(leap mask p.i p.perturb).2 }
def pth(mask:Nat) (h:Int):Nat->Probe
 |0=>pS mask h
 |n+1=>pA mask (pth mask h n)
def rs(mask:Nat) (h:Int):Nat->Nat×Nat
 |0=>(bits h % (mask+1),bits h)
 |n+1=>leap mask (rs mask h n).1 (rs mask h n).2
def atR(mask:Nat) (r:Nat×Nat):Probe:={ j:=r.1,more:=runEnd mask r.1-r.1,i:=r.1,perturb:=r.2,dummy:=none }
variable{mask:Nat}{h:Int}
theorem Dd(i:Nat):runEnd mask i-i<=9:=by unfold runEnd;split<;>lia
theorem nV{n:Nat}{r:Nat×Nat}(e:pth mask h n=atR mask r):∀q,q<=runEnd mask r.1-r.1->pth mask h (n+q)={ atR mask r with j:=r.1+q,more:=runEnd mask r.1-r.1-q }
 |0,_=>by rw[Nat.add_zero,e];rfl
 |q+1,hq=>by
  rw[<-Nat.add_assoc];show pA mask (pth mask h (n+q))=_;rw[nV e q (by lia)];unfold pA;rw[if_pos (show runEnd mask r.1-r.1-q > 0 by lia)];rfl
theorem vR:∀m,∃n,n<=10*m/\pth mask h n=atR mask (rs mask h m)
 |0=>⟨0,by lia,rfl⟩
 |m+1=>by
  obtain⟨n,hn,e⟩:=vR m;have hl:=Dd (mask:=mask) (rs mask h m).1;refine⟨n+(runEnd mask (rs mask h m).1-(rs mask h m).1)+1,by lia,?_⟩;show pA mask (pth mask h (n+_))=_;rw[nV e _ (Nat.le_refl _)];unfold pA;rw[if_neg (by simp)];rfl
theorem Ae:bits h<2 ^ 64:=by
 unfold bits;have:=Int.emod_lt_of_pos h (show(0:Int)<2 ^ 64 by decide);have:=Int.emod_nonneg h (show(2 ^ 64:Int)≠0 by decide)
 lia
theorem u5:∀m,(rs mask h m).2=bits h / 32 ^ m
 |0=>by simp[rs]
 |m+1=>by
  show(rs mask h m).2 / 32=_;rw[u5 m,Nat.div_div_eq_div_mul,Nat.pow_succ]
theorem Fl(m:Nat):(rs mask h (13+m)).2=0:=by
 rw[u5];refine Nat.div_eq_of_lt (Nat.lt_of_lt_of_le Ae ?_);rw[Nat.pow_add];exact Nat.le_trans (by decide) (Nat.le_mul_of_pos_right (32 ^ 13) (Nat.pow_pos (by decide)))
theorem Am:∀m,(rs mask h (13+m)).1 % (mask+1)=jx m (rs mask h 13).1 % (mask+1)
 |0=>rfl
 |m+1=>by
  show(leap mask (rs mask h (13+m)).1 (rs mask h (13+m)).2).1 % _=_;unfold leap;rw[Fl,kQ m 1];show((rs mask h (13+m)).1*5+1+0 / 32) % (mask+1) % (mask+1)=(5*jx m (rs mask h 13).1+1) % (mask+1);rw[Nat.mod_mod,Nat.zero_div,Nat.add_zero,Nat.add_mod,Nat.mul_mod,Am m,<-Nat.mul_mod,<-Nat.add_mod,Nat.mul_comm]
theorem Av(m:Nat):(rs mask h m).1<mask+1:=by
 cases m with
 |zero=>exact Nat.mod_lt _ (Nat.succ_pos _)
 |succ m=>exact Nat.mod_lt _ (Nat.succ_pos _)
theorem sI{k:Nat}(hk:mask+1=2 ^ k) {j:Nat}(hj:j<=mask):∃m n,m<=mask+13/\n<=10*m/\(rs mask h m).1=j/\(pth mask h n).j=j:=by
 obtain⟨m,hm,e⟩:=w6 k (rs mask h 13).1 j (by lia);rw[<-hk]at hm e;have e2:=Am (mask:=mask) (h:=h) m;rw[e,Nat.mod_eq_of_lt (Av _)]at e2;obtain⟨n,hn,en⟩:=vR (mask:=mask) (h:=h) (13+m);exact⟨13+m,n,by lia,hn,e2,by rw[en];exact e2⟩
theorem rG(n:Nat):(pth mask h n).j<=mask:=by
 have key:∀n,(pth mask h n).j+(pth mask h n).more<=mask/\(pth mask h n).dummy=none:=fun n=>by
  have st:∀i,i<mask+1->i+(runEnd mask i-i)<=mask:=fun i hi=>by unfold runEnd;split<;>lia
  induction n with
  |zero=>exact⟨st _ (Nat.mod_lt _ (Nat.succ_pos _)),rfl⟩
  |succ n ih =>
   show(pA mask (pth mask h n)).j+(pA mask (pth mask h n)).more<=mask/\(pA mask (pth mask h n)).dummy=none;unfold pA
   split
   ·exact⟨by have:=ih.1;dsimp only;lia,ih.2⟩
   ·exact⟨st _ (Nat.mod_lt _ (Nat.succ_pos _)),ih.2⟩
 have:=(key n).1
 lia
theorem Bo(n:Nat):(pth mask h n).dummy=none:=by
 induction n with
 |zero=>rfl
 |succ n ih =>
  show(pA mask (pth mask h n)).dummy=none;unfold pA
  split<;>exact ih
theorem DJ{P:Nat->Prop}{n:Nat}(h:P n):∃m,m<=n/\P m/\∀l,l<m->¬ P l:=by
 induction n using Nat.strongRecOn with
 |_ n ih =>
  by_cases c:∃l,l<n/\P l
  ·obtain⟨l,hl,pl⟩:=c;obtain⟨m,hm,a,b⟩:=ih l hl pl;exact⟨m,by lia,a,b⟩
  ·exact⟨n,Nat.le_refl _,h,fun l hl pl=>c ⟨l,hl,pl⟩⟩
def Ri(xs:Array Nat):Prop:=∀i j,i<j->j<xs.size->xs.getD i 0<xs.getD j 0
theorem vt{xs:Array Nat}{i:Nat}(h:i<xs.size) (a b:Nat):xs.getD i a=xs.getD i b:=by simp[Array.getD,h]
theorem j8{xs:Array Nat}(up:Ri xs) (j:Nat):∀f lo hi,hi-lo<=f->lo<=hi->hi<=xs.size->(∀i,i<lo->xs.getD i 0<j)->(∀i,hi<=i->i<xs.size->j<=xs.getD i 0) ->
  below.go xs j f lo hi<=xs.size/\(∀i,i<below.go xs j f lo hi->xs.getD i 0<j)/\∀i,below.go xs j f lo hi<=i->i<xs.size->j<=xs.getD i 0
 |0,lo,hi,h1,h2,h3,a,b=>by
  obtain rfl:lo=hi:=by lia
  exact⟨h3,a,b⟩
 |f+1,lo,hi,h1,h2,h3,a,b=>by
  unfold below.go
  by_cases c:lo<hi
  ·rw[if_pos c];dsimp only
   by_cases d:xs.getD ((lo+hi) / 2) j<j
   ·rw[if_pos d];rw[vt (by lia) j 0]at d;refine j8 up j f _ _ (by lia) (by lia) h3 (fun i hi'=>?_) b;rcases Nat.lt_or_ge i ((lo+hi) / 2)with q|q
    ·exact Nat.lt_trans (up i _ q (by lia)) d
    ·obtain rfl:i=(lo+hi) / 2:=by lia
     exact d
   ·rw[if_neg d];rw[vt (by lia) j 0]at d;refine j8 up j f _ _ (by lia) (by lia) (by lia) a (fun i h4 h5=>?_);rcases Nat.lt_or_ge ((lo+hi) / 2) i with q|q
    ·have:=up _ i q h5;lia
    ·obtain rfl:i=(lo+hi) / 2:=by lia
     lia
  ·rw[if_neg c];obtain rfl:lo=hi:=by lia
   exact⟨h3,a,b⟩
theorem lC{xs:Array Nat}(up:Ri xs) (j:Nat):below xs j<=xs.size/\(∀i,i<below xs j->xs.getD i 0<j)/\∀i,below xs j<=i->i<xs.size->j<=xs.getD i 0 :=
 j8 up j _ _ _ (by lia) (Nat.zero_le _) (Nat.le_refl _) (fun i h=>by lia) (fun i h1 h2=>by lia)
def Occ(xs:Array Nat) (j:Nat):Prop:=∃i,i<xs.size/\xs.getD i 0=j
theorem m6{t:SetTable}(up:Ri t.place) {i j:Nat}(hi:i<t.place.size) (e:t.place.getD i 0=j):t.slot j=.live i:=by
 obtain⟨h1,h2,h3⟩:=lC up j;have:below t.place j=i:=by
  rcases Nat.lt_trichotomy (below t.place j) i with q|q|q
  ·have a:=h3 _ (Nat.le_refl _) (by lia);have b:=up _ i q hi
   lia
  ·exact q
  ·have:=h2 i q;lia
 unfold slot;rw[this];have g:t.place[i]?=some j:=by rw[Array.getElem?_eq_getElem hi,<-e];simp[Array.getD,hi]
 simp[g]
theorem ri{t:SetTable}(dm:t.dummies=#[]) {j:Nat}(n:¬ Occ t.place j):t.slot j=.empty:=by
 unfold slot;have g:(t.place[below t.place j]?==some j)=false:=by
  cases q:t.place[below t.place j]? with
  |none=>rfl
  |some x =>
   obtain⟨hi,e⟩:=Array.getElem?_eq_some_iff.mp q;simp only[beq_eq_false_iff_ne,ne_eq,Option.some.injEq];intro z;exact n ⟨_,hi,by simp[Array.getD,hi,e,z]⟩
 rw[if_neg (by rw[g];decide),dm];rfl
theorem uL{xs:Array Nat}(up:Ri xs) {mask:Nat}(few:xs.size<=mask):∃j,j<=mask/\¬ Occ xs j:=by
 refine Classical.byContradiction fun c=>?_;have all:∀j,j<=mask->Occ xs j:=fun j hj=>Classical.byContradiction fun d=>c ⟨j,hj,d⟩;have key:∀j,j<=mask+1->j<=xs.size/\∀i,i<j->xs.getD i 0=i:=fun j=>by
  induction j with
  |zero=>exact fun _=>⟨Nat.zero_le _,fun i h=>by lia⟩
  |succ j ih =>
   intro hj;obtain⟨h1,h2⟩:=ih (by lia);obtain⟨i,hi,e⟩:=all j (by lia);have a:¬ i<j:=fun q=>by have:=h2 i q;lia
   have b:i=j:=by
    rcases Nat.lt_or_ge j i with q|q
    ·have b1:=up j i q hi;rw[e]at b1;cases j with
     |zero=>lia
     |succ j =>
      have b2:=up j (j+1) (by lia) (by lia);have b3:=h2 j (by lia)
      lia
    ·lia
   subst b;refine⟨hi,fun l hl=>?_⟩;rcases Nat.lt_or_ge l i with q|q
   ·exact h2 l q
   ·obtain rfl:l=i:=by lia
    exact e
 have:=(key (mask+1) (Nat.le_refl _)).1
 lia
structure TB(t:SetTable) (hs:List Int):Prop where
 sz:t.place.size=hs.length
 up:Ri t.place
 le:∀i,i<t.place.size->t.place.getD i 0<=t.mask
 dm:t.dummies=#[]
 pw:∃k,3<=k/\t.mask+1=2 ^ k
 few:t.place.size<=t.mask
 pr:∀i h,hs[i]?=some h->∃n,(pth t.mask h n).j=t.place.getD i 0/\∀m,m<n->Occ t.place (pth t.mask h m).j
theorem TB.free{t:SetTable}{hs:List Int}(T:TB t hs) (h:Int):∃n,n<=10*(t.mask+13)/\¬ Occ t.place (pth t.mask h n).j/\∀m,m<n->Occ t.place (pth t.mask h m).j:=by
 obtain⟨j,hj,nj⟩:=uL T.up T.few;obtain⟨k,_,hk⟩:=T.pw;obtain⟨m,n,hm,hn,_,e⟩:=sI (mask:=t.mask) (h:=h) hk hj;obtain⟨n0,h1,h2,h3⟩:=DJ (P:=fun n=>¬ Occ t.place (pth t.mask h n).j) (n:=n) (by rw[e];exact nj);exact⟨n0,by lia,h2,fun m hm=>Classical.byContradiction fun d=>h3 m hm d⟩
theorem pP{t:SetTable}{hs:List Int}(T:TB t hs) {h:Int}{n0:Nat}(f0:¬ Occ t.place (pth t.mask h n0).j) (f1:∀m,m<n0->Occ t.place (pth t.mask h m).j) {ha:Nat->Int}:∀F n,n<=n0->n0-n<F ->
    ∃ m,n ≤ m ∧ m ≤ n0 ∧ (∀ l,n ≤ l → l < m → ∃ i,i < t.place.size ∧ t.place.getD i 0 = (pth t.mask h l).j ∧ ha i ≠ h) ∧
      ((m = n0 ∧ probe.go t ha h F (pth t.mask h n) = some (.empty (pth t.mask h n0).j none)) ∨
       (m<n0/\∃i,i<t.place.size/\t.place.getD i 0=(pth t.mask h m).j/\ha i=h/\probe.go t ha h F (pth t.mask h n)=some (.candidate (pth t.mask h m).j i (pth t.mask h (m+1)))))
  |0,n,h1,h2=>by lia
  | F + 1,n,h1,h2 => by
    rcases Nat.lt_or_ge n n0 with q|q
    · obtain ⟨i,hi,e⟩:=f1 n q;have es:=m6 T.up hi e
      by_cases c:ha i=h
      · refine ⟨n,Nat.le_refl _,h1,fun l a b => by lia,.inr ⟨q,i,hi,e,c,?_⟩⟩;unfold probe.go;rw[es];dsimp only;rw[if_pos (by simpa using c)];rfl
      · obtain ⟨m,m1,m2,m3,m4⟩:=pP T f0 f1 (ha:=ha) F (n + 1) (by lia) (by lia);have eq:probe.go t ha h (F+1) (pth t.mask h n)=probe.go t ha h F (pth t.mask h (n+1)):=by
          rw[probe.go,es];dsimp only;rw[if_neg (by simpa using c)];rfl
        rw[eq];refine⟨m,by lia,m2,fun l a b=>?_,m4⟩;rcases Nat.lt_or_ge n l with d|d
        · exact m3 l d b
        · obtain rfl:l = n:=by lia
          exact⟨i,hi,e,c⟩
    · obtain rfl:n = n0:=by lia
      refine⟨n,Nat.le_refl _,Nat.le_refl _,fun l a b=>by lia,.inl ⟨rfl,?_⟩⟩;unfold probe.go;rw[ri T.dm f0];dsimp only;rw[Bo]
end L2
namespace L2
open PySem PySem.Spec PyProof.Rows
theorem aG:Slot "set_iterator" "__next__" "set_iterator.__next__" :=
 .of (owner:="set_iterator") (n:="__next__") (by rw[typeLookup_type,builtinLookup_eq_fast];kernel_rfl) (by decide +kernel) (by decide +kernel) (by decide +kernel)
  (by first|exact .inl (by decide +kernel)|exact .inr (by decide +kernel)) (by rw[isSubtype_type];kernel_rfl)
theorem cF:entryFor table "set_iterator.__next__"=some Builtin.«set_iterator.__next__»:=entryFor_of_tree (by kernel_rfl)
theorem cR(a:Value):argsOk "set_iterator.__next__" ⟨[a],[]⟩:=by unfold argsOk;kernel_rfl
noncomputable abbrev il(f:Value) (i:Nat) (a:Addr) (n ep:Nat):Obj:={ cls:=.type "set_iterator",data:=.fields #[f,rawInt i,.ref a,rawInt n,rawInt ep] }
structure dj(w:World) (h:Heap) (a:Addr) (o:Obj) (es:Array (Int×Value)) (ep:Nat) (t:SetTable):Prop where
 get:h.get? a=some o
 ex:o.ExactSet
 data:o.data=.set es ep t
 room:es.size<scanBound
 fit:t.fits es.size=true
 led:t.led=!byT w
 go:(es.size≠0->t.plain=false)∨Ri t.place
theorem dj.kept{w:World}{h h':Heap}{a:Addr}{o:Obj}{es:Array (Int×Value)}{ep:Nat}{t:SetTable}(p:dj w h a o es ep t) (k:h'.get? a=some o):dj w h' a o es ep t:=⟨k,p.ex,p.data,p.room,p.fit,p.led,p.go⟩
theorem dj.typeIs{w:World}{s:Shared}{a:Addr}{o:Obj}{es:Array (Int×Value)}{ep:Nat}{t:SetTable}(p:dj w s.heap a o es ep t):s.TypeIs (.ref a) "set":=⟨o,p.get,p.ex.1⟩
section
variable{prog:Program}{w:World}{A:Around}{E:Value->Shared->Prop}{s:Shared}
theorem dj.state{a:Addr}{o:Obj}{es:Array (Int×Value)}{ep:Nat}{t:SetTable}{Q:Array (Int×Value)×Nat×SetTable->Shared->Prop}(p:dj w s.heap a o es ep t) (h:Q (es,ep,t) s):wpAny (model prog w) A (setState a) Q E s:=wpAny_setState_of p.get p.data p.fit h
theorem wB{a:Addr}{o:Obj}{es:Array (Int×Value)}{ep:Nat}{t:SetTable}{Q:Nat->Shared->Prop}(p:dj w s.heap a o es ep t) (h:Q ep s):wpAny (model prog w) A (setEpoch a) Q E s :=
 wpAny_setEpoch_of p.get p.data p.fit h
theorem AR{I a:Addr}{k i n:Nat}{o:Obj}{es:Array (Int×Value)}{ep:Nat}{t:SetTable}{x:Value}{nx:Nat}{Q:Option Value->Shared->Prop}(hI:s.heap.get? I=some (il (rawInt k) i a n ep)) (p:dj w s.heap a o es ep t) (hn:es.size=n)
  (hx:∀(Q':Option (Value×Nat)->Shared->Prop) E',Q' (some (x,nx)) s->wpAny (model prog w) A.in1 (setNext a k i ep) Q' E' s)
  (h:∀h',h'.get? I=some (il (rawInt nx) (i+1) a n ep)->Heap.SameBut I s.heap h'->Q (some x) { s with heap:=h' }):wpAny (model prog w) A (pyNext (.ref I)) Q E s:=by
 have hT:s.TypeIs (.ref I) "set_iterator":=⟨_,hI,rfl⟩;unfold pyNext;refine wpAny_bind (wpAny_attempt (wpAny_callSpecial?_slot (name:=Str.ofString "__next__") hT aG
  (wpAny_call_entry aG hT cF ?_ (cR _))))
 unfold Builtin.«set_iterator.__next__»;refine wpAny_bind (m:=slotArgs "__next__" 0 ⟨[.ref I],[]⟩) (wpAny_pure ?_);refine wpAny_bind (wpAny_fieldsOf hI rfl ?_);dsimp only;simp only[rawInt,Int.toNat_natCast];refine wpAny_bind (wpAny_setEntries_of p.get p.data p.fit ?_);rw[if_neg (by rw[hn];simp)];refine wpAny_bind (hx _ _ ?_);dsimp only;refine wpAny_bind (wpAny_setField hI rfl (by simp) ?_);have h1:(s.heap.update I (Obj.mapFields (·.setIfInBounds 0 (rawInt nx)))).get? I=some (il (rawInt nx) i a n ep):=Heap.get?_update_self _ hI rfl;refine wpAny_bind (wpAny_setField h1 rfl (by simp) ?_);have h2:((s.heap.update I (Obj.mapFields (·.setIfInBounds 0 (rawInt nx)))).update I (Obj.mapFields (·.setIfInBounds 1 (rawInt ((i:Int)+1))))).get? I=some (il (rawInt nx) (i+1) a n ep):=Heap.get?_update_self _ h1 rfl;exact wpAny_pure ⟨_,rfl,wpAny_pure (h _ h2 ((Heap.SameBut.update ..).trans (Heap.SameBut.update ..)))⟩
theorem EZ{I a:Addr}{k i n:Nat}{o:Obj}{es:Array (Int×Value)}{ep:Nat}{t:SetTable}{Q:Option Value->Shared->Prop}(hh:A.handled=none) (hI:s.heap.get? I=some (il (rawInt k) i a n ep)) (p:dj w s.heap a o es ep t) (hn:es.size=n)
  (hx:∀(Q':Option (Value×Nat)->Shared->Prop) E',Q' none s->wpAny (model prog w) A.in1 (setNext a k i ep) Q' E' s)
  (h:∀h',Heap.ExtBut I s.heap h'->Q none { s with heap:=h' }):wpAny (model prog w) A (pyNext (.ref I)) Q E s:=by
 have hT:s.TypeIs (.ref I) "set_iterator":=⟨_,hI,rfl⟩;unfold pyNext;refine wpAny_bind (wpAny_attempt (wpAny_callSpecial?_slot (name:=Str.ofString "__next__") hT aG
  (wpAny_call_entry aG hT cF ?_ (cR _))))
 unfold Builtin.«set_iterator.__next__»;refine wpAny_bind (m:=slotArgs "__next__" 0 ⟨[.ref I],[]⟩) (wpAny_pure ?_);refine wpAny_bind (wpAny_fieldsOf hI rfl ?_);dsimp only;simp only[rawInt,Int.toNat_natCast];refine wpAny_bind (wpAny_setEntries_of p.get p.data p.fit ?_);rw[if_neg (by rw[hn];simp)];refine wpAny_bind (hx _ _ ?_);dsimp only;refine wpAny_bind (wpAny_setField hI rfl (by simp) ?_);refine wpAny_bind ?_;simp only[newExc,newTuple];refine wpAny_bind (wpAny_newObj_type ?_ (by size_fits));refine wpAny_bind (m:=firstArgMember _ _) (wpAny_of_eq (a:=Value.none) (by first|rfl|(simp only[firstArgMember];rfl)) ?_);refine wpAny_newObj_type ?_ (by size_fits);simp only[raiseNew];refine wpAny_bind (wpAny_handled ?_);rw[show A.in1.handled=none from hh];refine wpAny_bind (wpAny_pure (wpAny_throw ?_));refine wpAny_bind (wpAny_isInstance (T:="StopIteration") (b:=true) ⟨_,Heap.get?_push_size _ rfl,rfl⟩ isSubtype_stop ?_);exact wpAny_pure (h _ (((Heap.SameBut.update ..).extBut.push _).push _))
end
section
variable{prog:Program}{w:World}{A:Around}{E:Value->Shared->Prop}{s:Shared}
noncomputable abbrev tpO(ps:List Nat):Obj:={ cls:=.type "tuple",data:=.seq (ps.map fun(i:Nat)=>rawInt i).toArray }
theorem Et{tp:Addr}{ps:List Nat}{Q:Option (Array Value)->Shared->Prop}(hp:s.heap.get? tp=some (tpO ps)) (h:Q (some (ps.map fun(i:Nat)=>rawInt i).toArray) s):wpAny (model prog w) A (seqItems? (.ref tp)) Q E s:=by
 unfold seqItems?;exact wpAny_bind (wpAny_load hp (wpAny_pure h))
theorem EI{I a tp:Addr}{i n pl:Nat}{ps:List Nat}{o:Obj}{es:Array (Int×Value)}{ep:Nat}{t:SetTable}{e:Int×Value}{Q:Option Value->Shared->Prop}(hI:s.heap.get? I=some (il (.ref tp) i a n ep)) (hp:s.heap.get? tp=some (tpO ps)) (p:dj w s.heap a o es ep t) (hn:es.size=n)
  (hx:ps[i]?=some pl) (he:es[pl]?=some e)
  (h:∀h',h'.get? I=some (il (.ref tp) (i+1) a n ep)->Heap.SameBut I s.heap h'->Q (some e.2) { s with heap:=h' }):wpAny (model prog w) A (pyNext (.ref I)) Q E s:=by
 have hT:s.TypeIs (.ref I) "set_iterator":=⟨_,hI,rfl⟩;unfold pyNext;refine wpAny_bind (wpAny_attempt (wpAny_callSpecial?_slot (name:=Str.ofString "__next__") hT aG
  (wpAny_call_entry aG hT cF ?_ (cR _))))
 unfold Builtin.«set_iterator.__next__»;refine wpAny_bind (m:=slotArgs "__next__" 0 ⟨[.ref I],[]⟩) (wpAny_pure ?_);refine wpAny_bind (wpAny_fieldsOf hI rfl ?_);dsimp only;simp only[rawInt,Int.toNat_natCast];refine wpAny_bind (wpAny_setEntries_of p.get p.data p.fit ?_);rw[if_neg (by rw[hn];simp)];refine wpAny_bind (Et hp ?_);have hx':(ps.map fun(i:Nat)=>rawInt i).toArray[i]?=some (.int pl 0):=by simp[hx,rawInt]
 dsimp only;rw[hx'];dsimp only;refine wpAny_bind ?_;unfold setNextDrawn;refine wpAny_bind (p.state ?_);dsimp only;rw[if_neg (by simp),Int.toNat_natCast,he];refine wpAny_pure ?_;refine wpAny_bind (wpAny_setField hI rfl (by simp) ?_);have h2:(s.heap.update I (Obj.mapFields (·.setIfInBounds 1 (rawInt ((i:Int)+1))))).get? I=some (il (.ref tp) (i+1) a n ep):=Heap.get?_update_self _ hI rfl;exact wpAny_pure ⟨_,rfl,wpAny_pure (h _ h2 (Heap.SameBut.update ..))⟩
theorem FX{I a tp:Addr}{i n:Nat}{ps:List Nat}{o:Obj}{es:Array (Int×Value)}{ep:Nat}{t:SetTable}{Q:Option Value->Shared->Prop}(hh:A.handled=none) (hI:s.heap.get? I=some (il (.ref tp) i a n ep)) (hp:s.heap.get? tp=some (tpO ps)) (p:dj w s.heap a o es ep t) (hn:es.size=n)
  (hx:ps[i]?=none)
  (h:∀h',Heap.ExtBut I s.heap h'->Q none { s with heap:=h' }):wpAny (model prog w) A (pyNext (.ref I)) Q E s:=by
 have hT:s.TypeIs (.ref I) "set_iterator":=⟨_,hI,rfl⟩;unfold pyNext;refine wpAny_bind (wpAny_attempt (wpAny_callSpecial?_slot (name:=Str.ofString "__next__") hT aG
  (wpAny_call_entry aG hT cF ?_ (cR _))))
 unfold Builtin.«set_iterator.__next__»;refine wpAny_bind (m:=slotArgs "__next__" 0 ⟨[.ref I],[]⟩) (wpAny_pure ?_);refine wpAny_bind (wpAny_fieldsOf hI rfl ?_);dsimp only;simp only[rawInt,Int.toNat_natCast];refine wpAny_bind (wpAny_setEntries_of p.get p.data p.fit ?_);rw[if_neg (by rw[hn];simp)];refine wpAny_bind (Et hp ?_);have hx':(ps.map fun(i:Nat)=>rawInt i).toArray[i]?=none:=by simp[hx]
 dsimp only;rw[hx'];dsimp only;refine wpAny_bind (wpAny_setField hI rfl (by simp) ?_);have h1:(s.heap.update I (Obj.mapFields (·.setIfInBounds 0 (rawInt 0)))).get? I=some (il (rawInt 0) i a n ep):=Heap.get?_update_self _ hI rfl;refine wpAny_bind (wpAny_setField h1 rfl (by simp) ?_);refine wpAny_bind ?_;simp only[newExc,newTuple];refine wpAny_bind (wpAny_newObj_type ?_ (by size_fits));refine wpAny_bind (m:=firstArgMember _ _) (wpAny_of_eq (a:=Value.none) (by first|rfl|(simp only[firstArgMember];rfl)) ?_);refine wpAny_newObj_type ?_ (by size_fits);simp only[raiseNew];refine wpAny_bind (wpAny_handled ?_);rw[show A.in1.handled=none from hh];refine wpAny_bind (wpAny_pure (wpAny_throw ?_));refine wpAny_bind (wpAny_isInstance (T:="StopIteration") (b:=true) ⟨_,Heap.get?_push_size _ rfl,rfl⟩ isSubtype_stop ?_);exact wpAny_pure (h _ (((((Heap.SameBut.update ..).trans (Heap.SameBut.update ..)).extBut).push _).push _))
theorem vS{a:Addr}{k i:Nat}{o:Obj}{es:Array (Int×Value)}{ep:Nat}{t:SetTable}{Q:Option (Value×Nat)->Shared->Prop}(p:dj w s.heap a o es ep t) (hb:byT w=true)
  (h:Q (((pickOrder (w.params.setOrder a ep) es)[i]?).map fun e=>(e.2,k)) s):wpAny (model prog w) A (setNext a k i ep) Q E s:=by
 unfold setNext;refine wpAny_bind (p.state ?_);dsimp only;refine wpAny_bind (jT ?_);rw[hb];simp only[if_true];rw[if_neg (by simp)];refine wpAny_bind ?_;unfold setWalk;refine wpAny_bind (p.state ?_);dsimp only;refine wpAny_bind (jT ?_);rw[hb];simp only[if_true];exact wpAny_bind (wpAny_askSetting (wpAny_pure (wpAny_pure h)))
theorem vI{a:Addr}{k i:Nat}{o:Obj}{es:Array (Int×Value)}{ep:Nat}{t:SetTable}{Q:Option (Value×Nat)->Shared->Prop}(p:dj w s.heap a o es ep t) (hb:byT w=false) (h2:(!t.plain&&decide (es.size > 1))=false)
  (h:Q (match es[SetTable.below t.place k]?,t.place[SetTable.below t.place k]? with|some (_,x),some j=>some (x,j+1)|_,_=>none) s):wpAny (model prog w) A (setNext a k i ep) Q E s:=by
 unfold setNext;refine wpAny_bind (p.state ?_);dsimp only;refine wpAny_bind (jT ?_);rw[hb];simp only[Bool.false_eq_true,if_false];show wpAny _ _ (if(!t.plain&&decide (es.size > 1))=true then _ else _) _ _ _;rw[if_neg (by rw[h2];simp)];refine wpAny_bind ?_;show wpAny _ _ (if(!t.led&&!es.isEmpty)=true then _ else _) _ _ _;rw[if_neg (by rw[p.led,hb];simp)];exact wpAny_pure (wpAny_pure h)
end
section
variable{prog:Program}{w:World}{A:Around}{E:Value->Shared->Prop}{s:Shared}
theorem yK{src:Source}{n:Nat}{Q:Nat->Shared->Prop}(hn:n≠0) (h:∀i d,i<n->Q i { s with drawn:=d }):wpAny (model prog w) A (choose src n) Q E s :=
 fun Γ p hΓ=>⟨hn,h _ _ (Nat.mod_lt _ (Nat.pos_of_ne_zero hn))⟩
theorem DB{α:Type}(n:Nat):∀(xs:List α) (s:Shared) (Q:List α->Shared->Prop),xs.length=n->(∀ys d,ys.Perm xs->Q ys { s with drawn:=d })->wpAny (model prog w) A (drawOrder n xs) Q E s:=by
 induction n with
 |zero =>
  intro xs s Q hn h;have:xs=[]:=List.length_eq_zero_iff.mp hn;subst this;have e:s={ s with drawn:=s.drawn }:=by cases s;rfl
  rw[e];exact wpAny_pure (h [] s.drawn (.refl _))
 |succ n ih =>
  intro xs s Q hn h;cases xs with
  |nil=>simp at hn
  |cons x xs =>
   unfold drawOrder;refine wpAny_bind (yK (by simp) fun i d hi=>?_);rw[List.getElem?_eq_getElem hi];dsimp only;refine wpAny_bind (ih ((x::xs).eraseIdx i) _ _ (by rw[List.length_eraseIdx_of_lt hi];simp at hn ⊢;lia) fun ys d' hp=>?_);refine wpAny_pure (h _ d' ?_);have z:(x::xs)=(x::xs).take i++(x::xs)[i]::(x::xs).drop (i+1):=by rw[List.getElem_cons_drop];simp
   have e:(x::xs).eraseIdx i=(x::xs).take i++(x::xs).drop (i+1):=List.eraseIdx_eq_take_drop_succ _ _;rw[e]at hp;refine(hp.cons _).trans ?_;generalize (x::xs)[i]=u at z ⊢
   conv=>rhs;rw[z]
   exact List.perm_middle.symm
theorem gI:Slot "set_iterator" "__iter__" "set_iterator.__iter__" :=
 .of (owner:="set_iterator") (n:="__iter__") (by rw[typeLookup_type,builtinLookup_eq_fast];kernel_rfl) (by decide +kernel) (by decide +kernel) (by decide +kernel)
  (by first|exact .inl (by decide +kernel)|exact .inr (by decide +kernel)) (by rw[isSubtype_type];kernel_rfl)
theorem k7:entryFor table "set_iterator.__iter__"=some Builtin.«dict_keyiterator.__iter__» :=
 entryFor_alias (id':="dict_keyiterator.__iter__") (by kernel_rfl) rfl (by decide +kernel) (by kernel_rfl)
theorem mF(a:Value):argsOk "set_iterator.__iter__" ⟨[a],[]⟩:=by unfold argsOk;kernel_rfl
theorem wo{I a:Addr}{f:Value}{i n ep:Nat}{Q:Value->Shared->Prop}(hI:s.heap.get? I=some (il f i a n ep)) (h:Q (.ref I) s):wpAny (model prog w) A (pyIter (.ref I)) Q E s:=by
 have hT:s.TypeIs (.ref I) "set_iterator":=⟨_,hI,rfl⟩;refine wpAny_pyIter_slot hT gI (wpAny_call_entry gI hT k7 ?_ (mF _));show wpAny _ _ (ret (.ref I)) _ _ s;exact wpAny_pure ⟨_,rfl,"set_iterator",_,hT,aG.lookup,h⟩
end
def kI(xs:Array Nat) (i:Nat):Nat:=if i=0 then 0 else xs.getD (i-1) 0+1
theorem oX{xs:Array Nat}(up:Ri xs) {i:Nat}(hi:i<=xs.size):SetTable.below xs (kI xs i)=i:=by
 obtain⟨h1,h2,h3⟩:=lC up (kI xs i);rcases Nat.lt_trichotomy (SetTable.below xs (kI xs i)) i with q|q|q
 ·have a:=h3 (i-1) (by lia) (by lia);unfold kI at a;rw[if_neg (by lia)]at a;lia
 ·exact q
 ·have a:=h2 i q;unfold kI at a
  by_cases c:i=0
  ·rw[if_pos c]at a;lia
  ·rw[if_neg c]at a;have b:=up (i-1) i (by lia) (by lia)
   lia
section
variable{prog:Program}{w:World}{A:Around}{E:Value->Shared->Prop}{s:Shared}
abbrev PSe(es':Array (Int×Value)):Nat->Value->Prop:=fun i v=>∃e,es'[i]?=some e/\v=e.2
theorem Ci(hh:A.handled=none) {I a:Addr}(hne:a≠I) {o:Obj}{es:Array (Int×Value)}{ep:Nat}{t:SetTable}(hb:byT w=true) :
  Walks prog w A I [I,a] [I] es.size (PSe (pickOrder (w.params.setOrder a ep) es)) (fun i h=>(∃k:Nat,h.get? I=some (il (rawInt k) i a es.size ep))/\dj w h a o es ep t) where
 sub:=fun b hb=>by simp at hb;simp[hb]
 frame:=fun _ _ _ st hk=>⟨let⟨k,g⟩:=st.1;⟨k,hk I (by simp) _ g⟩,st.2.kept (hk a (by simp) _ st.2.get)⟩
 item:=fun i s Q E hi st hQ=>by
  obtain⟨⟨k,g⟩,p⟩:=st;have sz:(pickOrder (w.params.setOrder a ep) es).size=es.size:=by
   have:=(iR (w.params.setOrder a ep) es).length_eq;simpa using this
  have hx:(pickOrder (w.params.setOrder a ep) es)[i]?=some ((pickOrder (w.params.setOrder a ep) es)[i]'(by lia)):=Array.getElem?_eq_getElem _;refine AR g p rfl (fun Q' E' q=>vS p hb (by rw[hx];exact q)) fun h' g' sb=>?_;exact hQ _ h' s.toks ⟨_,hx,rfl⟩ ⟨⟨_,g'⟩,p.kept (by rw[sb.2 a hne];exact p.get)⟩ fun b o hb e=>by rw[sb.2 b (fun h=>hb (by simp[h]))];exact e
 done:=fun s Q E st hQ=>by
  obtain⟨⟨k,g⟩,p⟩:=st;have sz:(pickOrder (w.params.setOrder a ep) es).size=es.size:=by
   have:=(iR (w.params.setOrder a ep) es).length_eq;simpa using this
  have hx:(pickOrder (w.params.setOrder a ep) es)[es.size]?=none:=Array.getElem?_eq_none (by lia);exact EZ hh g p rfl (fun Q' E' q=>vS p hb (by rw[hx];exact q)) fun h' he'=>hQ h' s.toks fun b o hb e=>he' b o (fun h=>hb (by simp[h])) e
 self:=fun _ _ _ _ st hQ=>let⟨⟨_,g⟩,_⟩:=st;wo g hQ
theorem Bq(hh:A.handled=none) {I a:Addr}(hne:a≠I) {o:Obj}{es:Array (Int×Value)}{ep:Nat}{t:SetTable}(hb:byT w=false) (h1:(!t.plain&&decide (es.size > 1))=false) (up:Ri t.place) (hf:t.place.size=es.size) :
  Walks prog w A I [I,a] [I] es.size (PSe es) (fun i h=>i<=es.size/\h.get? I=some (il (rawInt (kI t.place i)) i a es.size ep)/\dj w h a o es ep t) where
 sub:=fun b hb=>by simp at hb;simp[hb]
 frame:=fun _ _ _ st hk=>⟨st.1,hk I (by simp) _ st.2.1,st.2.2.kept (hk a (by simp) _ st.2.2.get)⟩
 item:=fun i s Q E hi st hQ=>by
  obtain⟨_,g,p⟩:=st;have hx:es[i]?=some (es[i]'hi):=Array.getElem?_eq_getElem _;have hp:t.place[i]?=some (t.place.getD i 0):=by rw[Array.getElem?_eq_getElem (by lia)];simp[Array.getD,show i<t.place.size by lia]
  refine AR (x:=(es[i]'hi).2) (nx:=t.place.getD i 0+1) g p rfl (fun Q' E' q=>vI p hb h1 (by rw[oX up (by lia),hx,hp];exact q)) fun h' g' sb=>?_;refine hQ _ h' s.toks ⟨_,hx,rfl⟩ ⟨hi,?_,p.kept (by rw[sb.2 a hne];exact p.get)⟩ fun b o hb e=>by rw[sb.2 b (fun h=>hb (by simp[h]))];exact e
  rw[g'];rfl
 done:=fun s Q E st hQ=>by
  obtain⟨_,g,p⟩:=st;have e1:es[es.size]?=none:=Array.getElem?_eq_none (Nat.le_refl _);exact EZ hh g p rfl (fun Q' E' q=>vI p hb h1 (by rw[oX up (by lia),e1];exact q)) fun h' he'=>hQ h' s.toks fun b o hb e=>he' b o (fun h=>hb (by simp[h])) e
 self:=fun _ _ _ _ st hQ=>wo st.2.1 hQ
theorem C7(hh:A.handled=none) {I a tp:Addr}(hne:a≠I) (hnt:tp≠I) {o:Obj}{es:Array (Int×Value)}{ep:Nat}{t:SetTable}{ps:List Nat}(hp:ps.Perm (List.range es.size)) :
  Walks prog w A I [I,a,tp] [I] es.size (PSe (ps.map fun j=>es.getD j default).toArray) (fun i h=>h.get? I=some (il (.ref tp) i a es.size ep)/\h.get? tp=some (tpO ps)/\dj w h a o es ep t) where
 sub:=fun b hb=>by simp at hb;simp[hb]
 frame:=fun _ _ _ st hk=>⟨hk I (by simp) _ st.1,hk tp (by simp) _ st.2.1,st.2.2.kept (hk a (by simp) _ st.2.2.get)⟩
 item:=fun i s Q E hi st hQ=>by
  obtain⟨g,gt,p⟩:=st;have sz:ps.length=es.size:=by rw[hp.length_eq,List.length_range]
  have hi':i<ps.length:=by lia
  have hx:ps[i]?=some ps[i]:=List.getElem?_eq_getElem hi';have hm:ps[i]<es.size:=List.mem_range.mp (hp.mem_iff.mp (List.getElem_mem hi'));have he:es[ps[i]]?=some es[ps[i]]:=Array.getElem?_eq_getElem hm;refine EI g gt p rfl hx he fun h' g' sb=>?_;refine hQ _ h' s.toks ⟨es[ps[i]],?_,rfl⟩ ⟨g',by rw[sb.2 tp hnt];exact gt,p.kept (by rw[sb.2 a hne];exact p.get)⟩ fun b o hb e=>by rw[sb.2 b (fun h=>hb (by simp[h]))];exact e
  simp[hx,Array.getD,hm]
 done:=fun s Q E st hQ=>by
  obtain⟨g,gt,p⟩:=st;have sz:ps.length=es.size:=by rw[hp.length_eq,List.length_range]
  exact FX hh g gt p rfl (List.getElem?_eq_none (by lia)) fun h' he'=>hQ h' s.toks fun b o hb e=>he' b o (fun h=>hb (by simp[h])) e
 self:=fun _ _ _ _ st hQ=>wo st.1 hQ
end
theorem k5:entryFor table "set.__iter__"=some Builtin.«frozenset.__iter__» :=
 entryFor_alias (id':="frozenset.__iter__") (by kernel_rfl) rfl (by decide +kernel) (by kernel_rfl)
section
variable{prog:Program}{w:World}{A:Around}{E:Value->Shared->Prop}{s:Shared}
theorem xl(es:Array (Int×Value)):(List.range es.size).map (fun j=>es.getD j default)=es.toList:=by
 apply List.ext_getElem (by simp);intro i h1 h2;simp at h1;simp[Array.getD,h1]
theorem EB{a:Addr}{o:Obj}{es:Array (Int×Value)}{ep:Nat}{t:SetTable}{Q:Value->Shared->Prop}(hh:A.handled=none) (p:dj w s.heap a o es ep t)
  (h:∀ (I:Addr) (h':Heap) d' (es':Array (Int × Value)) (fp:List Addr) (St:Nat → Heap → Prop),es'.toList.Perm es.toList → (∀ b o,s.heap.get? b = some o → h'.get? b = some o) → Walks prog w A I fp [I] es.size (PSe es') St → St 0 h' → s.heap.objs.size ≤ I →
   (∀b∈fp,b=a∨s.heap.objs.size<=b)->Q (.ref I) { s with heap:=h',drawn:=d' }):wpAny (model prog w) A (pyIter (.ref a)) Q E s:=by
 have al:a<s.heap.objs.size:=Heap.lt_size p.get;refine wpAny_pyIter_slot p.typeIs PySem.F.slot_set_iter (wpAny_call_entry PySem.F.slot_set_iter p.typeIs k5 ?_ (PySem.F.args_set_iter_1 _));unfold Builtin.«frozenset.__iter__»;refine wpAny_bind (m:=Builtin.Frozenset.slot0 "__iter__" ⟨[.ref a],[]⟩) (wpAny_pure ?_);unfold Builtin.Frozenset.sizeOf;refine wpAny_bind (wpAny_bind (wpAny_setEntries_of p.get p.data p.fit (wpAny_pure ?_)));refine wpAny_bind ?_;unfold setDrawn;refine wpAny_bind (p.state ?_);dsimp only;refine wpAny_bind (jT (wpAny_pure ?_));show wpAny _ _ (if(!byT w&&(!t.plain&&decide (es.size > 1)))=true then _ else _) _ _ _
 split
 ·rename_i hc;refine wpAny_bind (DB es.size (List.range es.size) s _ (by simp) fun ps d hp=>?_);have bv:ps.length=es.size:=by rw[hp.length_eq,List.length_range]
  have hsz:=fits_of_scanBound p.room;refine wpAny_bind ?_;simp only[newTuple];refine wpAny_newObj_type ?_ (by show(ps.map _).toArray.size<=sizeLine;simp;lia);have g1:(s.heap.push (tpO ps)).get? s.heap.objs.size=some (tpO ps):=Heap.get?_push_size _ rfl;have p1:dj w (s.heap.push (tpO ps)) a o es ep t:=p.kept (Heap.get?_push_of_some _ p.get);refine wpAny_bind (wB (s:={ s with heap:=s.heap.push (tpO ps),drawn:=d }) p1 ?_);refine wpAny_bind ?_;unfold newFields;refine wpAny_newObj_type ?_;refine wpAny_pure ⟨_,rfl,"set_iterator",_,⟨_,Heap.get?_push_size _ rfl,rfl⟩,aG.lookup,?_⟩;refine h _ _ d (ps.map fun j=>es.getD j default).toArray [(s.heap.push (tpO ps)).objs.size,a,s.heap.objs.size] _ ?_ (fun b o e=>Heap.get?_push_of_some _ (Heap.get?_push_of_some _ e))
   (C7 hh (o:=o) (t:=t) (ep:=ep) (ps:=ps) (by rw[Heap.size_push];exact Nat.ne_of_lt (Nat.lt_succ_of_lt al)) (by rw[Heap.size_push];exact Nat.ne_of_lt (Nat.lt_succ_self _)) hp) ⟨Heap.get?_push_size _ rfl,Heap.get?_push_of_some _ g1,p1.kept (Heap.get?_push_of_some _ p1.get)⟩ (by rw[Heap.size_push];lia) fun b hb=>?_
  ·have:=hp.map fun j=>es.getD j default;rw[xl]at this;simpa using this
  ·rw[Heap.size_push]at hb;simp only[List.mem_cons,List.not_mem_nil,or_false]at hb;rcases hb with rfl|rfl|rfl
   ·exact .inr (Nat.le_succ _)
   ·exact .inl rfl
   ·exact .inr (Nat.le_refl _)
 ·rename_i hc;refine wpAny_bind (wpAny_pure ?_);refine wpAny_bind (wB p ?_);refine wpAny_bind ?_;unfold newFields;refine wpAny_newObj_type ?_;refine wpAny_pure ⟨_,rfl,"set_iterator",_,⟨_,Heap.get?_push_size _ rfl,rfl⟩,aG.lookup,?_⟩;have p1:∀oI,dj w (s.heap.push oI) a o es ep t:=fun oI=>p.kept (Heap.get?_push_of_some _ p.get);have fpok:∀b∈[s.heap.objs.size,a],b=a∨s.heap.objs.size<=b:=fun b hb=>by
   simp only[List.mem_cons,List.not_mem_nil,or_false]at hb;rcases hb with rfl|rfl
   ·exact .inr (Nat.le_refl _)
   ·exact .inl rfl
  cases hb:byT w with
  |true =>
   exact h _ _ s.drawn _ [s.heap.objs.size,a] _ (iR (w.params.setOrder a ep) es) (fun b o e=>Heap.get?_push_of_some _ e) (Ci hh (o:=o) (t:=t) (ep:=ep) (Nat.ne_of_lt al) hb) ⟨⟨0,Heap.get?_push_size _ rfl⟩,p1 _⟩ (Nat.le_refl _) fpok
  |false =>
   have hd:(!t.plain&&decide (es.size > 1))=false:=by
    rw[hb]at hc;simpa using hc
   have hf:t.place.size=es.size:=by
    have:=p.fit;simp[SetTable.fits]at this;lia
   have up:Ri t.place:=by
    rcases p.go with z|z
    ·intro i j hij hj;have:=z (by lia);rw[this]at hd;simp at hd
     lia
    ·exact z
   exact h _ _ s.drawn es [s.heap.objs.size,a] _ (.refl _) (fun b o e=>Heap.get?_push_of_some _ e) (Bq hh (o:=o) (t:=t) (ep:=ep) (Nat.ne_of_lt al) hb hd up hf) ⟨Nat.zero_le _,Heap.get?_push_size _ rfl,p1 _⟩ (Nat.le_refl _) fpok
end
section
variable{prog:Program}{w:World}{A:Around}{E:Value->Shared->Prop}{s:Shared}
theorem E3{r:Addr}{Q:Bool->Shared->Prop}(hT:s.TypeIs (.ref r) "set") (h:Q false s):wpAny (model prog w) A (Builtin.List.listLengthHint (.ref r)) Q E s:=by
 unfold Builtin.List.listLengthHint;refine wpAny_bind (wpAny_specialOf hT PySem.F.slot_set_len.lookup ?_);generalize hid:("set.__len__":String)=id0
 wp_delta
 rw[show splitId id0=some ("set","__len__")from by subst hid;decide +kernel];subst hid;refine wpAny_bind (wpAny_isInstance (T:="set") (b:=true) hT (by rw[isSubtype_type];kernel_rfl) ?_);refine wpAny_ite_split (fun hab=>absurd hab (by decide)) (fun _=>?_);refine wpAny_ite_split (fun _=>?_) (fun hab=>absurd (by decide +kernel) hab);refine wpAny_bind (wpAny_typeOf hT ?_);exact wpAny_pure h
abbrev yi(vs:Array Value) (c:Nat):Obj:={ cls:=.type "list",data:=.seq vs c }
theorem xm{a:Addr}{o:Obj}{es:Array (Int×Value)}{ep:Nat}{t:SetTable}{Q:List Value->Shared->Prop}(hh:A.handled=none) (p:dj w s.heap a o es ep t)
  (h:∀s' (es':Array (Int×Value)),es'.toList.Perm es.toList->(∀b o,s.heap.get? b=some o->s'.heap.get? b=some o)->s'.gens=s.gens->s'.os=s.os->Q (es'.toList.map (·.2)) s') :
  wpAny (model prog w) A (collect (.ref a)) Q E s:=by
 have al:a<s.heap.objs.size:=Heap.lt_size p.get;have hn:=fits_of_scanBound p.room;unfold collect;refine wpAny_bind (wpAny_runValue (codeAny_builtin PySem.F.entry_proto_collect ?_));rw[Around.under_plainId PySem.F.plain_proto_collect _];show wpAny _ A.in1 (newList [] >>= fun l=>again (.builtin "list.__iadd__" ⟨[l,.ref a],[]⟩)) _ _ s;refine wpAny_bind (wpAny_newObj_type ?_);refine wpAny_pure ⟨plainId_quiet PySem.F.plain_list_iadd _,codeAny_builtin PySem.F.entry_list_iadd ?_⟩;rw[Around.under_plainId PySem.F.plain_list_iadd _];generalize hH1:s.heap.push { cls:=.type "list",data:=.seq ([]:List Value).toArray }=H1;have k1:∀b o,s.heap.get? b=some o->H1.get? b=some o:=fun b o e=>by rw[<-hH1];exact Heap.get?_push_of_some _ e
 have hS:H1.get? s.heap.objs.size=some (yi #[] 0):=by rw[<-hH1];exact Heap.get?_push_size _ rfl
 have sz1:H1.objs.size=s.heap.objs.size+1:=by rw[<-hH1];exact Heap.size_push _ _
 have p1:dj w H1 a o es ep t:=p.kept (k1 _ _ p.get);show wpAny _ A.in1 (Builtin.List.listExtendWith (.ref s.heap.objs.size) (.ref a) (.ref s.heap.objs.size)) _ _ { s with heap:=H1 };unfold Builtin.List.listExtendWith;refine wpAny_bind (wpAny_typeOf (T:="set") (p1.typeIs (s:={ s with heap:=H1 })) ?_);have hne:s.heap.objs.size≠a:=Nat.ne_of_gt al;have h1:Builtin.List.listSameRef (.ref s.heap.objs.size) (.ref a)=false:=by simp[Builtin.List.listSameRef,hne]
 have h2:(Value.type "set"==Value.type "list")=false:=by decide
 have h3:(Value.type "set"==Value.type "tuple")=false:=by decide
 simp only[h1,h2,h3,Bool.or_false,Bool.false_eq_true,if_false];have hh1:A.in1.handled=none:=hh;refine wpAny_bind (EB (s:={ s with heap:=H1 }) hh1 p1 fun I h' d' es' fp St hp k2 W st hI hfp=>?_);have hSf:s.heap.objs.size∉fp:=fun hm=>by
  rcases hfp _ hm with e|e
  ·exact hne e
  ·have e':H1.objs.size<=s.heap.objs.size:=e
   lia
 have szE:es'.size=es.size:=by have:=hp.length_eq;simpa using this
 have T2:Shared.TypeIs { s with heap:=h',drawn:=d' } (.ref a) "set":=(p1.kept (k2 _ _ p1.get)).typeIs (s:={ s with heap:=h',drawn:=d' });refine wpAny_bind (wpAny_holding (E3 T2 ?_));have post:∀s' (acc:Array Value) c',Moved (s.heap.objs.size::[I]) (fun a b=>b=a) { s with heap:=h',drawn:=d' } s'->s'.heap.get? s.heap.objs.size=some (yi acc c')->ItemsOf (PSe es') acc es.size ->
   wpAny (model prog w) A (do match (<-load s.heap.objs.size).data with|.seq xs _=>pure xs.toList|_=>unsupported "internal:collect") Q E s':=by
  intro s' acc c' hm hS' hacc;refine wpAny_bind (wpAny_load hS' (wpAny_pure ?_));have eacc:acc.toList=es'.toList.map (·.2):=by
   apply List.ext_getElem?;intro i;rcases Nat.lt_or_ge i es.size with hi|hi
   ·have:acc[i]?=some (acc[i]'(by rw[hacc.1];exact hi)):=Array.getElem?_eq_getElem _;obtain⟨e,e1,e2⟩:=hacc.2 i _ this;rw[Array.getElem?_toList,this,e2,List.getElem?_map,Array.getElem?_toList,e1];rfl
   ·rw[List.getElem?_eq_none (by simp[hacc.1];exact hi),List.getElem?_eq_none (by simp;lia)]
  rw[eacc];refine h s' es' hp (fun b o e=>hm.heap b o ?_ (k2 b o (k1 b o e))) hm.gens hm.os;have hb:=Heap.lt_size e;have hI':H1.objs.size<=I:=hI;rw[sz1]at hI';simp only[List.mem_cons,List.not_mem_nil,or_false,not_or];exact⟨Nat.ne_of_lt hb,Nat.ne_of_lt (Nat.lt_of_lt_of_le (Nat.lt_succ_of_lt hb) hI')⟩
 have key:∀(R:Result->Shared->Prop) (h2:Heap) (c:Nat),St 0 h2->(∀b o,b≠s.heap.objs.size->h'.get? b=some o->h2.get? b=some o)->h2.get? s.heap.objs.size=some (yi #[] c) ->
   (∀s' (acc:Array Value) c',Moved (s.heap.objs.size::[I]) (fun a b=>b=a) { s with heap:=h',drawn:=d' } s'->s'.heap.get? s.heap.objs.size=some (yi acc c')->ItemsOf (PSe es') acc es.size->R (.ok (.ret (.ref s.heap.objs.size))) s') ->
   codeAny (model prog w) A (.builtin "list.extend.loop" ⟨[.ref s.heap.objs.size,.ref I,.ref s.heap.objs.size],[]⟩) R { s with heap:=h2,drawn:=d' }:=by
  intro R h2 c st2 k3 hS2 hR;refine codeAny_extend_loopS W.toS hn _ hSf _ es.size 0 _ #[] c rfl (Nat.zero_le _) st2 hS2 (ItemsOf.nil _) fun s' acc c' hm hS' hacc=>hR s' acc c' ⟨fun b o hb e=>hm.heap b o hb (k3 b o (fun q=>hb (by simp[q])) e),hm.gens,hm.drawn,hm.os,hm.toks⟩ hS' hacc
 have hS1:=k2 _ _ hS;refine wpAny_ite_split (fun _=>?_) (fun _=>wpAny_pure ⟨plainId_quiet PySem.F.plain_extend_loop _,?_⟩)
 ·refine wpAny_bind (wpAny_rule ?_);refine wpAny_bind ?_;show wpAny _ _ (updateSeq s.heap.objs.size (·.push .none) >>= fun _=>updateSeq s.heap.objs.size (·.pop)) _ _ _;refine wpAny_bind (wpAny_updateSeq hS1 rfl ?_);have hS2:=Heap.get?_update_self (Obj.mapSeq (·.push Value.none)) hS1 rfl;refine wpAny_updateSeq hS2 rfl ?_;have hS3:=Heap.get?_update_self (Obj.mapSeq (·.pop)) hS2 rfl;have oth:∀b o,b≠s.heap.objs.size->h'.get? b=some o->((h'.update s.heap.objs.size (Obj.mapSeq (·.push Value.none))).update s.heap.objs.size (Obj.mapSeq (·.pop))).get? b=some o :=
   fun b o hb e=>(Heap.get?_update_other _ _ (Ne.symm hb)).trans ((Heap.get?_update_other _ _ (Ne.symm hb)).trans e)
  refine wpAny_pure ⟨plainId_quiet PySem.F.plain_extend_loop _,?_⟩;exact key _ _ _ (W.frame 0 h' _ st fun b hb o e=>oth b o (fun q=>hSf (q▸hb)) e) oth hS3 post
 ·exact key _ h' 0 st (fun b o _ e=>e) hS1 post
end
end L2
namespace L2
open PySem PySem.Spec PyProof.Rows PySem.Calls
section
variable{X:Cx}{aa:List (Addr×Obj)}{s:Shared}{σ:St}{H:Hp}{M:DH}
theorem Inv.with{s':Shared}(I:Inv X aa σ H s) (k:∀b u,s.heap.get? b=some u->s'.heap.get? b=some u) (g:s'.gens=s.gens) (o:s'.os=s.os):Inv X aa σ H s':=by
 have I1:Inv X aa σ H { s with heap:=s'.heap,toks:=s'.toks }:=I.kept k;exact⟨I1.ok,o.trans I1.os,by rw[g];exact I1.bare,I1.base,I1.loc,I1.cell,I1.free,I1.freeC,I1.pin,I1.hok,I1.len⟩
end
end L2
namespace L2
open PySem PySem.Spec PyProof.Rows
section
variable{X:Cx}{o i:Expr}{to ti:TEd}{pos:Pos}
end
section
variable{P:Program}{w:World}{K:PySem.W.Frag}{mg:Str->Option Value}{base:Heap}{f:Addr}{fd:FuncData}
theorem Fun.okR{x qual:Str}{st:Stmt}{f:Addr}{fd:FuncData}{N ps:List Str}{k n:Nat}{S:SpD}(F:Fun K x qual st f fd) (hn:ps.length=n) (Sc:aB N ps (ai st))
  (hbody:∀ (cdv:Value) (A:Around) (outer:List Env) (s:Shared) (H:Hp) (E:XK),cI k (A.deeper (envOfC qual (ai st) s.heap.objs.size f cdv)) →
   ∃t:TSd,QSs (nO CX0 P w K mg base N qual (ai st) f cdv A outer s H E).nox (cD st) t/\∀ds M R (G:Prop),S ds M R->(t { nx:=fun _ M'=>R .non M',rt:=R } (eP N ds) M->G)->G):bq P w K mg base CX0 (k+1) f fd ps (spD K n S):=by
 refine F.okD hn Sc fun cdv A outer s H E hr=>?_;obtain⟨t,h1,h2⟩:=hbody cdv A outer s H E hr;exact⟨t,sh h1,fun ds M R _ hS=>h2 ds M R _ hS id⟩
theorem shr{p:Prop}(h:∀q:Prop,(p->q)->q):p:=h p id
end
end L2
namespace L2
open PySem PyProof.Rows
theorem bF{σ:Type}{M:Model}{A:Around}{E:Value->Shared->Prop}{s:Shared}{α:Type}{c:Prop} [Decidable c] {x y:StateT σ Sem α}{Q:α->σ->Prop}{st:σ}(h:c) (k:wpS M A E s x Q st):wpS M A E s (if c then x else y) Q st:=by rw[if_pos h];exact k
theorem bE{σ:Type}{M:Model}{A:Around}{E:Value->Shared->Prop}{s:Shared}{α:Type}{c:Prop} [Decidable c] {x y:StateT σ Sem α}{Q:α->σ->Prop}{st:σ}(h:¬ c) (k:wpS M A E s y Q st):wpS M A E s (if c then x else y) Q st:=by rw[if_neg h];exact k
theorem bI{p:Prop}(h:∀q:Prop,(p->q)->q):p:=h p id
abbrev SM(α:Type):=StateT SortSt Sem α
def gA(xs:Array Keyed) (i:Nat):Keyed:=xs[i]?.getD (.none,.none)
theorem oW{xs ys:Array Keyed}{i j:Nat}(h:xs[i]?=ys[j]?):gA xs i=gA ys j:=by unfold gA;rw[h]
theorem wJ{xs:Array Keyed}{i:Nat}(h:i<xs.size):xs[i]?=some (gA xs i):=by unfold gA;rw[Array.getElem?_eq_getElem h];rfl
section
variable{prog:Program}{w:World}{A:Around}{E:Value->Shared->Prop}{s:Shared}{O:KeyOrd}{key:Keyed->O.α}{a0:List Keyed}{κ:SortKind}
def gC(prog:Program) (w:World) (A:Around) (s:Shared) (κ:SortKind) (key:Keyed->O.α) (a0:List Keyed):Prop :=
 ∀x∈a0,∀y∈a0,∀(Q:Bool->Shared->Prop),Q (O.blt (key x) (key y)) s->wpAny (model prog w) A (keyLt' κ x.1 y.1) Q (fun _ _=>False) s
structure SB(a0:List Keyed) (κ:SortKind) (st:SortSt):Prop where
 perm:(arrOf st).toList.Perm a0
 kind:kindOf st=κ
 fail:failedOf st=none
theorem SB.size{st:SortSt}(h:SB a0 κ st):(arrOf st).size=a0.length:=by rw[<-Array.length_toList];exact h.perm.length_eq
theorem SB.arr{st:SortSt}(h:SB a0 κ st) {xs:Array Keyed}(hp:xs.toList.Perm (arrOf st).toList):SB a0 κ (setArr st xs):=⟨hp.trans h.perm,h.kind,h.fail⟩
theorem SB.mem{st:SortSt}(h:SB a0 κ st) {i:Nat}(hi:i<a0.length):gA (arrOf st) i∈a0:=by
 have hi':i<(arrOf st).size:=by rw[h.size];exact hi
 have:gA (arrOf st) i=(arrOf st)[i]:=by unfold gA;rw[Array.getElem?_eq_getElem hi'];rfl
 rw[this];exact h.perm.mem_iff.mp (by simp)
def kA(key:Keyed->O.α) (xs:Array Keyed) (i:Nat):O.α:=key (gA xs i)
def Up(key:Keyed->O.α) (xs:Array Keyed) (lo hi:Nat):Prop:=∀i j,lo<=i->i<=j->j<hi->O.kle (kA key xs i) (kA key xs j)
def Dn(key:Keyed->O.α) (xs:Array Keyed) (lo hi:Nat):Prop:=∀i j,lo<=i->i<=j->j<hi->O.kle (kA key xs j) (kA key xs i)
def Out(lo hi:Nat) (xs ys:Array Keyed):Prop:=∀i,i<lo∨hi<=i->ys[i]?=xs[i]?
theorem Out.refl{lo hi:Nat}{xs:Array Keyed}:Out lo hi xs xs:=fun _ _=>rfl
theorem Out.trans{lo hi lo' hi':Nat}{xs ys zs:Array Keyed}(h1:Out lo hi xs ys) (h2:Out lo' hi' ys zs) (a:lo<=lo') (b:hi'<=hi):Out lo hi xs zs:=fun i hi=>(h2 i (by lia)).trans (h1 i hi)
theorem bp{xs ys:Array Keyed}{i j:Nat}(h:xs[i]?=ys[j]?):kA key xs i=kA key ys j:=by unfold kA;rw[oW h]
theorem Up.one{xs:Array Keyed}{lo hi:Nat}(h:hi<=lo+1):Up key xs lo hi:=fun i j h1 h2 h3=>by
 obtain rfl:i=j:=by lia
 exact KeyOrd.kle_refl _
theorem Up.more{xs:Array Keyed}{lo x:Nat}(h:Up key xs lo x) (le:lo<x->O.kle (kA key xs (x-1)) (kA key xs x)):Up key xs lo (x+1):=fun i j h0 hij hj=>by
 rcases Nat.lt_or_ge j x with h1|h1
 ·exact h i j h0 hij h1
 ·obtain rfl:j=x:=by lia
  rcases Nat.lt_or_ge i j with h2|h2
  ·exact KeyOrd.kle_trans (h i (j-1) h0 (by lia) (by lia)) (le (by lia))
  ·obtain rfl:i=j:=by lia
   exact KeyOrd.kle_refl _
theorem Dn.more{xs:Array Keyed}{lo x:Nat}(h:Dn key xs lo x) (le:lo<x->O.kle (kA key xs x) (kA key xs (x-1))):Dn key xs lo (x+1):=fun i j h0 hij hj=>by
 rcases Nat.lt_or_ge j x with h1|h1
 ·exact h i j h0 hij h1
 ·obtain rfl:j=x:=by lia
  rcases Nat.lt_or_ge i j with h2|h2
  ·exact KeyOrd.kle_trans (le (by lia)) (h i (j-1) h0 (by lia) (by lia))
  ·obtain rfl:i=j:=by lia
   exact KeyOrd.kle_refl _
theorem Up.out{xs ys:Array Keyed}{lo hi a b:Nat}(h:Up key xs lo hi) (o:Out a b xs ys) (d:hi<=a∨b<=lo):Up key ys lo hi:=fun i j h1 h2 h3=>by
 rw[bp (o i (by lia)),bp (o j (by lia))];exact h i j h1 h2 h3
theorem aX{st:SortSt}{xs:Array Keyed}{i:Nat}{Q:Keyed->SortSt->Prop}(hi:i<xs.size) (h:Q (gA xs i) st):wpS (model prog w) A E s (elem' xs i) Q st:=by
 rw[elem'_eq,wJ hi];exact wpS_pure h
theorem wA{st:SortSt}{x y:Keyed}{Q:Option Bool->SortSt->Prop}(hA:gC prog w A s κ key a0) (hk:kindOf st=κ) (hx:x∈a0) (hy:y∈a0) (h:Q (some (O.blt (key x) (key y))) st):wpS (model prog w) A E s (lt' x y) Q st:=by
 rw[lt'_eq];refine wpS_bind (wpS_get ?_);rw[hk];refine wpS_bind (wpS_lift (wpAny_attempt (wpAny_mono (hA x hx y hy (fun b s'=>b=O.blt (key x) (key y)/\s'=s) ⟨rfl,rfl⟩) ?_ fun _ _ z=>z.elim)));rintro b s' ⟨rfl,rfl⟩;exact⟨rfl,wpS_pure h⟩
theorem j9{st:SortSt}{i j:Nat}{Q:Option Bool->SortSt->Prop}(hA:gC prog w A s κ key a0) (hB:SB a0 κ st) (hi:i<a0.length) (hj:j<a0.length)
  (h:Q (some (O.blt (kA key (arrOf st) i) (kA key (arrOf st) j))) st):wpS (model prog w) A E s (ltAt' i j) Q st:=by
 rw[ltAt'_eq];refine wpS_bind (wpS_get (wpS_bind (aX (by rw[hB.size];exact hi) (wpS_bind (aX (by rw[hB.size];exact hj) ?_)))));exact wA hA hB.kind (hB.mem hi) (hB.mem hj) h
theorem iU{xs:Array Keyed}{i j:Nat}(hj:j<=xs.size) (k:Nat):kA key (mirror xs i j ((j-i) / 2)) k=if i<=k/\k<j then kA key xs (i+j-1-k)else kA key xs k:=by
 have e:=getElem?_mirror_all (i:=i) hj k
 by_cases h:i<=k/\k<j
 ·rw[if_pos h]at e ⊢;exact bp e
 ·rw[if_neg h]at e ⊢;exact bp e
theorem eK{xs:Array Keyed}{i j:Nat}(hj:j<=xs.size):Out i j xs (mirror xs i j ((j-i) / 2)):=fun k hk=>by
 rw[getElem?_mirror_all hj,if_neg (by lia)]
theorem sN{st:SortSt}{i j:Nat}{Q:Unit->SortSt->Prop}(hB:SB a0 κ st) (h:SB a0 κ (setArr st (mirror (arrOf st) i j ((j-i) / 2)))->Q () (setArr st (mirror (arrOf st) i j ((j-i) / 2)))):wpS (model prog w) A E s (reverseSlice' i j) Q st:=by
 rw[reverseSlice'_eq];exact wpS_modify (h (hB.arr (Array.perm_iff_toList_perm.mp (mirror_perm _ _ _ _))))
theorem fF{xs:Array Keyed}{i j:Nat}(hj:j<=xs.size) (he:∀k,i<=k->k<j->kA key xs k=kA key xs (j-1)) (k:Nat):kA key (mirror xs i j ((j-i) / 2)) k=kA key xs k:=by
 rw[iU hj]
 split
 ·rename_i h;rw[he _ (by lia) (by lia),he k h.1 h.2]
 ·rfl
theorem qp{a b:O.α}(h:O.blt a b=false):O.kle b a:=h
theorem iA{a b:O.α}(h:O.blt a b=true):O.kle a b:=KeyOrd.kle_of_klt h
def xC(lo a nrem:Nat):SM AscSt :=
 forIn [a:nrem] ((none,a):AscSt) fun _ r=>do
  match (<-ltAt' (lo+r.2) (lo+r.2-1))with
  |some smaller=>if smaller=true then pure (ForInStep.done (none,r.2))else pure (ForInStep.yield (none,r.2+1))
  |_=>pure (ForInStep.done (some none,r.2))
theorem Ap{st:SortSt}{lo a nrem:Nat}{Q:AscSt->SortSt->Prop}(hA:gC prog w A s κ key a0) (hB:SB a0 κ st) (hz:lo+nrem<=a0.length) (h1:1<=a) (h2:a<=nrem) (hs:Up key (arrOf st) lo (lo+a))
  (h:∀m,a<=m->m<=nrem->Up key (arrOf st) lo (lo+m)->(m=nrem∨O.blt (kA key (arrOf st) (lo+m)) (kA key (arrOf st) (lo+m-1))=true)->Q (none,m) st):wpS (model prog w) A E s (xC lo a nrem) Q st:=by
 unfold xC;refine wpS_forRange (I:=fun i c st'=>st'=st/\c=(none,i)/\Up key (arrOf st) lo (lo+i)) ?_ ?_ ⟨rfl,rfl,hs⟩
 ·rintro i c st' ha hb ⟨rfl,rfl,hu⟩;dsimp only;refine wpS_bind (j9 hA hB (by lia) (by lia) ?_);dsimp only;cases q:O.blt (kA key (arrOf st') (lo+i)) (kA key (arrOf st') (lo+i-1))with
  |true=>exact wpS_pure (h i ha (by lia) hu (.inr q))
  |false=>exact wpS_pure ⟨rfl,rfl,hu.more fun _=>qp q⟩
 ·rintro c st' ⟨rfl,rfl,hu⟩;rw[show max a nrem=nrem by lia]at hu ⊢;exact h nrem h2 (Nat.le_refl _) hu (.inl rfl)
theorem vc{st:SortSt}{lo n nrem:Nat}{Q:Option Nat->SortSt->Prop}{f:AscSt->SM (Option Nat)}(hA:gC prog w A s κ key a0) (hB:SB a0 κ st) (hz:lo+nrem<=a0.length) (h1:1<=n) (h2:n<=nrem) (hd:Dn key (arrOf st) lo (lo+n))
  (h:∀m st',SB a0 κ st'->pendingOf st'=pendingOf st->1<=m->m<=nrem->Up key (arrOf st') lo (lo+m)->Out lo (lo+nrem) (arrOf st) (arrOf st')->wpS (model prog w) A E s (f (none,m)) Q st'):wpS (model prog w) A E s (do reverseSlice' lo (lo+n);let r <-xC lo n nrem;f r) Q st:=by
 have sz:=hB.size;refine wpS_bind (sN hB fun hB'=>wpS_bind (Ap hA hB' hz h1 h2 (fun i j a b c=>?_) fun m ha hb hu _=>?_))
 ·show O.kle (kA key (mirror _ _ _ _) _) (kA key (mirror _ _ _ _) _);rw[iU (by lia),iU (by lia),if_pos (by lia),if_pos (by lia)];exact hd _ _ (by lia) (by lia) (by lia)
 ·exact h m _ hB' rfl (by lia) hb hu fun i hi=>eK (j:=lo+n) (by lia) i (by lia)
def xg(lo n nrem:Nat):SM DescSt :=
 forIn [n:nrem] ((none,n,0):DescSt) fun _ r=>do
  match (<-ltAt' (lo+r.2.1) (lo+r.2.1-1))with
  |some smaller =>
   if smaller=true then
    if r.2.2 > 0 then do
     reverseSlice' (lo+r.2.1-(r.2.2+1)) (lo+r.2.1)
     pure (ForInStep.yield (none,r.2.1+1,0))
    else pure (ForInStep.yield (none,r.2.1+1,0))
   else do
    match (<-ltAt' (lo+r.2.1-1) (lo+r.2.1))with
    |some larger =>
     if larger=true then pure (ForInStep.done (none,r.2.1,r.2.2))
     else pure (ForInStep.yield (none,r.2.1+1,r.2.2+1))
    |_=>pure (ForInStep.done (some none,r.2.1,r.2.2))
  |_=>pure (ForInStep.done (some none,r.2.1,r.2.2))
def E4(key:Keyed->O.α) (xs:Array Keyed) (lo x q:Nat):Prop:=q+1<=x/\∀i,lo+x-(q+1)<=i->i<lo+x->kA key xs i=kA key xs (lo+x-1)
theorem B1{st:SortSt}{lo n nrem:Nat}{Q:DescSt->SortSt->Prop}(hA:gC prog w A s κ key a0) (hB:SB a0 κ st) (hz:lo+nrem<=a0.length) (h1:1<=n) (h2:n<=nrem) (hd:Dn key (arrOf st) lo (lo+n))
  (h:∀m q st',SB a0 κ st'->pendingOf st'=pendingOf st->1<=m->m<=nrem->Dn key (arrOf st') lo (lo+m)->E4 key (arrOf st') lo m q->Out lo (lo+nrem) (arrOf st) (arrOf st')->Q (none,m,q) st'):wpS (model prog w) A E s (xg lo n nrem) Q st:=by
 unfold xg;refine wpS_forRange (I:=fun i c st'=>∃q,c=(none,i,q)/\SB a0 κ st'/\pendingOf st'=pendingOf st/\Dn key (arrOf st') lo (lo+i)/\E4 key (arrOf st') lo i q/\Out lo (lo+nrem) (arrOf st) (arrOf st')) ?_ ?_ ⟨0,rfl,hB,rfl,hd,⟨h1,fun i a b=>by obtain rfl:i=lo+n-1:=(by lia);rfl⟩,Out.refl⟩
 ·rintro i c st' ha hb ⟨q,rfl,hB',hp,hd',hl,ho⟩;have sz:=hB'.size;dsimp only;refine wpS_bind (j9 hA hB' (by lia) (by lia) ?_);dsimp only;cases e:O.blt (kA key (arrOf st') (lo+i)) (kA key (arrOf st') (lo+i-1))with
  |true =>
   simp only[if_true]
   by_cases h0:q > 0
   ·rw[if_pos h0];refine wpS_bind (sN hB' fun hB2=>wpS_pure ⟨0,rfl,hB2,hp,?_,⟨by lia,fun k a b=>by obtain rfl:k=lo+(i+1)-1:=(by lia);rfl⟩,?_⟩)
    ·have same:=fF (key:=key) (xs:=arrOf st') (i:=lo+i-(q+1)) (j:=lo+i) (by lia) (fun k a b=>hl.2 k a b);refine Dn.more (x:=lo+i) (fun k j a b c=>?_) fun _=>?_
     ·show O.kle (kA key (mirror _ _ _ _) _) (kA key (mirror _ _ _ _) _);rw[same,same];exact hd' k j a b c
     ·show O.kle (kA key (mirror _ _ _ _) _) (kA key (mirror _ _ _ _) _);rw[same,same];exact iA e
    ·exact ho.trans (eK (by lia)) (by have:=hl.1;lia) (by lia)
   ·rw[if_neg h0];exact wpS_pure ⟨0,rfl,hB',hp,Dn.more (x:=lo+i) hd' fun _=>iA e,⟨by lia,fun k a b=>by obtain rfl:k=lo+(i+1)-1:=(by lia);rfl⟩,ho⟩
  |false =>
   simp only[Bool.false_eq_true,if_false];refine wpS_bind (j9 hA hB' (by lia) (by lia) ?_);dsimp only;cases e2:O.blt (kA key (arrOf st') (lo+i-1)) (kA key (arrOf st') (lo+i))with
   |true=>exact wpS_pure (h i q st' hB' hp (by lia) (by lia) hd' hl ho)
   |false =>
    simp only[Bool.false_eq_true,if_false];have eq:kA key (arrOf st') (lo+i)=kA key (arrOf st') (lo+i-1):=O.total _ _ e e2;refine wpS_pure ⟨q+1,rfl,hB',hp,Dn.more (x:=lo+i) hd' fun _=>qp e2,⟨by have:=hl.1;lia,fun k a b=>?_⟩,ho⟩;rw[show lo+(i+1)-1=lo+i by lia];rcases Nat.lt_or_ge k (lo+i)with h'|h'
    ·rw[eq];exact hl.2 k (by lia) h'
    ·obtain rfl:k=lo+i:=by lia
     rfl
 ·rintro c st' ⟨q,rfl,hB',hp,hd',hl,ho⟩;rw[show max n nrem=nrem by lia]at hd' hl ⊢;exact h nrem q st' hB' hp (by lia) (Nat.le_refl _) hd' hl ho
theorem rY{st:SortSt}{lo n nrem:Nat}{Q:Option Nat->SortSt->Prop}{f:DescSt->SM (Option Nat)}{g:AscSt->SM (Option Nat)}(hA:gC prog w A s κ key a0) (hB:SB a0 κ st) (hz:lo+nrem<=a0.length) (h2:n+1<=nrem) (hd:Dn key (arrOf st) lo (lo+(n+1)))
  (hf:∀m q,f (none,m,q)=if q > 0 then(do reverseSlice' (lo+m-(q+1)) (lo+m);reverseSlice' lo (lo+m);let r <-xC lo m nrem;g r)else(do reverseSlice' lo (lo+m);let r <-xC lo m nrem;g r))
  (h:∀m st',SB a0 κ st'->pendingOf st'=pendingOf st->1<=m->m<=nrem->Up key (arrOf st') lo (lo+m)->Out lo (lo+nrem) (arrOf st) (arrOf st')->wpS (model prog w) A E s (g (none,m)) Q st') :
  wpS (model prog w) A E s (do liftM (rule "list.sort.descending-run");let r <-xg lo (n+1) nrem;f r) Q st:=by
 refine wpS_bind (wpS_lift (wpAny_rule ⟨rfl,wpS_bind (B1 hA hB hz (by lia) h2 hd fun m q st' hB' hp ha hb hd' hl ho=>?_)⟩));rw[hf];have sz:=hB'.size
 by_cases h0:q > 0
 ·rw[if_pos h0];refine wpS_bind (sN hB' fun hB2=>vc hA hB2 hz ha hb (fun i j a b c=>?_) fun m' st2 a b c d e f=>h m' st2 a (b.trans hp) c d e ((ho.trans (eK (by lia)) (by have:=hl.1;lia) (by lia)).trans f (Nat.le_refl _) (Nat.le_refl _)));have same:=fF (key:=key) (xs:=arrOf st') (i:=lo+m-(q+1)) (j:=lo+m) (by lia) (fun k a b=>hl.2 k a b);show O.kle (kA key (mirror _ _ _ _) _) (kA key (mirror _ _ _ _) _);rw[same,same];exact hd' i j a b c
 ·rw[if_neg h0];exact vc hA hB' hz ha hb hd' fun m' st2 a b c d e f=>h m' st2 a (b.trans hp) c d e (ho.trans f (Nat.le_refl _) (Nat.le_refl _))
theorem zI{st:SortSt}{lo nrem:Nat}{Q:Option Nat->SortSt->Prop}(hA:gC prog w A s κ key a0) (hB:SB a0 κ st) (hz:lo+nrem<=a0.length) (h1:1<=nrem)
  (h:∀m st',SB a0 κ st'->pendingOf st'=pendingOf st->1<=m->m<=nrem->Up key (arrOf st') lo (lo+m)->Out lo (lo+nrem) (arrOf st) (arrOf st')->Q (some m) st'):wpS (model prog w) A E s (countRun' lo nrem) Q st:=by
 have sz:=hB.size;rw[countRun'_eq];dsimp only;refine wpS_bind (Ap hA hB hz (Nat.le_refl 1) h1 (Up.one (by lia)) fun m ha hb hu hm=>?_);dsimp only
 by_cases e:m=nrem
 ·rw[if_pos (by simpa using e)];exact wpS_pure (h m st hB rfl ha hb hu Out.refl)
 ·rw[if_neg (by simpa using e)];have lt:=hm.resolve_left e
  by_cases g:m > 1
  ·rw[if_pos g];refine wpS_bind (j9 hA hB (by lia) (by lia) ?_);dsimp only;cases q:O.blt (kA key (arrOf st) lo) (kA key (arrOf st) (lo+m-1))with
   |true=>exact wpS_pure (h m st hB rfl ha hb hu Out.refl)
   |false =>
    simp only[Bool.false_eq_true,if_false];have like:∀i,lo<=i->i<lo+m->kA key (arrOf st) i=kA key (arrOf st) (lo+m-1):=fun i h0 hi =>
     KeyOrd.kle_antisymm (hu i (lo+m-1) h0 (by lia) (by lia)) (KeyOrd.kle_trans (qp q) (hu lo i (Nat.le_refl _) h0 hi))
    have same:=fF (key:=key) (xs:=arrOf st) (i:=lo) (j:=lo+m) (by lia) like;refine wpS_bind (sN hB fun hB'=>rY (n:=m) hA hB' hz (by lia) ?_ (fun m q=>rfl) ?_)
    rotate_left
    ·exact fun m' st2 a b c d e f=>wpS_pure (h m' st2 a b c d e fun i hi=>(f i hi).trans (eK (j:=lo+m) (by lia) i (by lia)))
    refine Dn.more (x:=lo+m) (fun i j a b c=>?_) fun _=>?_
    ·show O.kle (kA key (mirror _ _ _ _) _) (kA key (mirror _ _ _ _) _);rw[same,same,like i a (by lia),like j (by lia) c];exact KeyOrd.kle_refl _
    ·show O.kle (kA key (mirror _ _ _ _) _) (kA key (mirror _ _ _ _) _);rw[same,same];exact iA lt
  ·rw[if_neg g];obtain rfl:m=1:=by lia
   refine rY (n:=1) hA hB hz (by lia) (Dn.more (x:=lo+1) (fun i j a b c=>?_) fun _=>iA lt) (fun m q=>rfl) ?_
   rotate_left
   ·exact fun m' st2 a b c d e f=>wpS_pure (h m' st2 a b c d e f)
   obtain rfl:i=j:=by lia
   exact KeyOrd.kle_refl _
end
section
variable{prog:Program}{w:World}{A:Around}{E:Value->Shared->Prop}{s:Shared}{O:KeyOrd}{key:Keyed->O.α}{a0:List Keyed}{κ:SortKind}
theorem mZ{xs:Array Keyed}{src d:Nat}(hs:src<xs.size) (hd:d<=src) (k:Nat):kA key (bubble xs src d) k=if k=src-d then kA key xs src else if src-d<k/\k<=src then kA key xs (k-1)else kA key xs k:=by
 have e:=getElem?_bubble hs d hd k
 by_cases h1:k=src-d
 ·rw[if_pos h1]at e ⊢;exact bp e
 ·rw[if_neg h1]at e ⊢
  by_cases h2:src-d<k/\k<=src
  ·rw[if_pos h2]at e ⊢;exact bp e
  ·rw[if_neg h2]at e ⊢;exact bp e
theorem Ep{st:SortSt}{lo n ok:Nat}{Q:Bool->SortSt->Prop}(hA:gC prog w A s κ key a0) (hB:SB a0 κ st) (hz:lo+n<=a0.length) (hok:ok<=n) (hs:Up key (arrOf st) lo (lo+ok))
  (h:∀st',SB a0 κ st'->pendingOf st'=pendingOf st->Up key (arrOf st') lo (lo+n)->Out lo (lo+n) (arrOf st) (arrOf st')->Q true st'):wpS (model prog w) A E s (binarySort' lo n ok) Q st:=by
 rw[binarySort'_eq];refine wpS_bind (wpS_mono (wpS_forRange (I:=fun k c st'=>c=(none,())/\SB a0 κ st'/\pendingOf st'=pendingOf st/\Up key (arrOf st') lo (lo+min k n)/\Out lo (lo+n) (arrOf st) (arrOf st'))
  (Q:=fun c st'=>c=(none,())/\SB a0 κ st'/\pendingOf st'=pendingOf st/\Up key (arrOf st') lo (lo+n)/\Out lo (lo+n) (arrOf st) (arrOf st')) ?step ?fin ?init) ?post)
 case post =>
  intro c st' hI';refine bI fun _ bk=>?_;obtain⟨rfl,hB',hp,hs',ho⟩:=hI';refine bk ?_;clear bk;exact wpS_pure (h st' hB' hp hs' ho)
 case init =>
  refine⟨rfl,hB,rfl,fun i j h0 hij hj=>?_,Out.refl⟩
  by_cases h1:ok=0
  ·obtain rfl:i=j:=by lia
   exact KeyOrd.kle_refl _
  ·exact hs i j h0 hij (by lia)
 case fin =>
  intro c st' hI';refine bI fun _ bk=>?_;obtain⟨hc,hB',hp,hs',ho⟩:=hI';refine bk ?_;clear bk;refine⟨hc,hB',hp,?_,ho⟩
  rwa [show min (max (max ok 1) n) n=n by lia]at hs'
 case step =>
  intro k c st' hak hkn hI';refine bI fun _ bk=>?_;obtain⟨rfl,hB',hp,hs',ho⟩:=hI';refine bk ?_;clear bk;rw[show min k n=k by lia]at hs';refine wpS_bind (wpS_mono (wpS_forRange (I:=fun x c st''=>st''=st'/\∃l r,c=(none,l,r)/\l<=r/\r<=k/\r-l<=k-x /\
    (∀i,i<l->O.kle (kA key (arrOf st') (lo+i)) (kA key (arrOf st') (lo+k)))/\(∀i,r<=i->i<k->O.klt (kA key (arrOf st') (lo+k)) (kA key (arrOf st') (lo+i))))
   (Q:=fun c st'' => st'' = st' ∧ ∃ l r,c = (none,l,r) ∧ l ≤ k ∧
    (∀i,i<l->O.kle (kA key (arrOf st') (lo+i)) (kA key (arrOf st') (lo+k)))/\(∀i,l<=i->i<k->O.klt (kA key (arrOf st') (lo+k)) (kA key (arrOf st') (lo+i)))) ?istep ?ifin ?iinit) ?ipost)
  case iinit=>exact⟨rfl,0,k,rfl,by lia,by lia,by lia,fun i hi=>by lia,fun i h1 h2=>by lia⟩
  case ifin =>
   intro c st'' hI';refine bI fun _ bk=>?_;obtain⟨rfl,l,r,rfl,hlr,hrk,hm,hlo,hhi⟩:=hI';refine bk ?_;clear bk;obtain rfl:l=r:=by lia
   exact⟨rfl,l,l,rfl,hrk,hlo,hhi⟩
  case istep =>
   intro x c st'' _ hxk hI';refine bI fun _ bk=>?_;obtain⟨rfl,l,r,rfl,hlr,hrk,hm,hlo,hhi⟩:=hI';refine bk ?_;clear bk;dsimp only
   by_cases hge:l>=r
   ·rw[if_pos hge];obtain rfl:l=r:=by lia
    exact wpS_pure ⟨rfl,l,l,rfl,hrk,hlo,hhi⟩
   ·rw[if_neg hge];refine wpS_bind (j9 hA hB' (by lia) (by lia) ?_);dsimp only;cases q:O.blt (kA key (arrOf st'') (lo+k)) (kA key (arrOf st'') (lo+(l+r) / 2))with
    |true=>exact wpS_pure ⟨rfl,l,(l+r) / 2,rfl,by lia,by lia,by lia,hlo,fun i h1 h2=>KeyOrd.klt_of_klt_of_kle q (hs' _ _ (by lia) (by lia) (by lia))⟩
    |false=>exact wpS_pure ⟨rfl,(l+r) / 2+1,r,rfl,by lia,by lia,by lia,fun i h1=>KeyOrd.kle_trans (hs' (lo+i) (lo+(l+r) / 2) (by lia) (by lia) (by lia)) q,hhi⟩
  case ipost =>
   intro c st'' hI';refine bI fun _ bk=>?_;obtain⟨rfl,l,r,rfl,hlk,hlo,hhi⟩:=hI';refine bk ?_;clear bk;show wpS _ _ _ _ (do moveDown' (lo+k) (lo+l);pure (ForInStep.yield (none,()))) _ _;rw[moveDown'_eq];have sz:=hB'.size;have hks:lo+k<(arrOf st'').size:=by lia
   refine wpS_bind (wpS_modify (wpS_pure ⟨rfl,hB'.arr (Array.perm_iff_toList_perm.mp (bubble_perm _ _ _)),hp,?_,?_⟩))
   ·rw[show min (k+1) n=k+1 by lia];intro i j h0 hij hj;show O.kle (kA key (bubble (arrOf st'') (lo+k) (lo+k-(lo+l))) i) (kA key (bubble (arrOf st'') (lo+k) (lo+k-(lo+l))) j);have hhi':∀i,lo+l<=i->i<lo+k->O.klt (kA key (arrOf st'') (lo+k)) (kA key (arrOf st'') i):=fun i a b=>by
     have:=hhi (i-lo) (by lia) (by lia)
     rwa [show lo+(i-lo)=i by lia]at this
    have hlo':∀i,lo<=i->i<lo+l->O.kle (kA key (arrOf st'') i) (kA key (arrOf st'') (lo+k)):=fun i a b=>by
     have:=hlo (i-lo) (by lia)
     rwa [show lo+(i-lo)=i by lia]at this
    rw[mZ hks (by lia),mZ hks (by lia),show lo+k-(lo+k-(lo+l))=lo+l by lia]
    repeat' split
    all_goals first
     |(exfalso;lia)
     |exact KeyOrd.kle_refl _
     |exact hlo' _ (by lia) (by lia)
     |exact KeyOrd.kle_of_klt (hhi' _ (by lia) (by lia))
     |exact hs' _ _ (by lia) (by lia) (by lia)
   ·refine ho.trans (lo':=lo) (hi':=lo+n) (fun i hi=>?_) (Nat.le_refl _) (Nat.le_refl _);show(bubble (arrOf st'') (lo+k) (lo+k-(lo+l)))[i]?=_;rw[getElem?_bubble hks _ (by lia),if_neg (by lia),if_neg (by lia)]
def yO:Bool->Keyed->Array Keyed->Nat->Nat->Nat->SM (Option Nat):=sortPriv% PySem.Builtin.gallop
def Ahd(key:Keyed->O.α) (left:Bool) (y:Keyed) (x:Keyed):Bool:=if left then O.blt (key x) (key y)else !O.blt (key y) (key x)
theorem rV{left:Bool}{y:Keyed}{arr:Array Keyed}{k:Nat}{st:SortSt}{Q:Option Bool->SortSt->Prop}(hA:gC prog w A s κ key a0) (hk:kindOf st=κ) (hy:y∈a0) (hx:gA arr k∈a0) (hz:k<arr.size) (h:Q (some (Ahd key left y (gA arr k))) st) :
  wpS (model prog w) A E s (do let x <-elem' arr k;if left=true then lt' x y else do let r <-lt' y x;pure (Option.map (fun x=>!x) r)) Q st:=by
 refine wpS_bind (aX hz ?_);unfold Ahd at h;cases left with
 |true=>exact wA hA hk hx hy h
 |false=>exact wpS_bind (wA hA hk hy hx (wpS_pure h))
theorem eF{left:Bool}{y:Keyed}{arr:Array Keyed}{base n hint:Nat}{st:SortSt}{Q:Option Nat->SortSt->Prop}(hA:gC prog w A s κ key a0) (hk:kindOf st=κ) (hy:y∈a0) (hin:∀i,i<n->gA arr (base+i)∈a0) (hz:base+n<=arr.size) (hh:hint<n)
  (mono:∀i j,i<=j->j<n->Ahd key left y (gA arr (base+j))=true->Ahd key left y (gA arr (base+i))=true)
  (h:∀k,k<=n->(∀i,i<k->Ahd key left y (gA arr (base+i))=true)->(∀i,k<=i->i<n->Ahd key left y (gA arr (base+i))=false)->Q (some k) st):wpS (model prog w) A E s (yO left y arr base n hint) Q st:=by
 have nm:∀i j,i<=j->j<n->Ahd key left y (gA arr (base+i))=false->Ahd key left y (gA arr (base+j))=false:=fun i j hij hj e=>by
  cases q:Ahd key left y (gA arr (base+j))with
  |false=>rfl
  |true=>rw[mono i j hij hj q]at e;cases e
 have last:∀{f:Option (Option Nat)×Nat×Nat->SM (Option Nat)} {lo hi:Nat},(∀lo hi,f (none,lo,hi)=pure (some hi))->lo<=hi->hi<=n->(∀i,i<lo->Ahd key left y (gA arr (base+i))=true)->(∀i,hi<=i->i<n->Ahd key left y (gA arr (base+i))=false) ->
   wpS (model prog w) A E s (do
    let r <-forIn [:n] ((none,lo,hi):Option (Option Nat)×Nat×Nat) fun _ r=>if r.2.1>=r.2.2 then pure (ForInStep.done (none,r.2.1,r.2.2))else do
     let x <-(do let x <-elem' arr (base+(r.2.1+(r.2.2-r.2.1) / 2));if left=true then lt' x y else do let r <-lt' y x;pure (Option.map (fun x=>!x) r))
     match x with
     |some more=>if more=true then pure (ForInStep.yield (none,r.2.1+(r.2.2-r.2.1) / 2+1,r.2.2))else pure (ForInStep.yield (none,r.2.1,r.2.1+(r.2.2-r.2.1) / 2))
     |x=>pure (ForInStep.done (some none,r.2.1,r.2.2))
    f r) Q st:=by
  intro f lo hi hf h1 h2 h3 h4;refine wpS_bind (wpS_mono (wpS_forRange (I:=fun x c st'=>st'=st/\∃lo hi,c=(none,lo,hi)/\lo<=hi/\hi<=n/\hi-lo<=n-x/\(∀i,i<lo->Ahd key left y (gA arr (base+i))=true)/\(∀i,hi<=i->i<n->Ahd key left y (gA arr (base+i))=false))
   (Q:=fun c st'=>st'=st/\∃lo hi,c=(none,lo,hi)/\lo=hi/\hi<=n/\(∀i,i<lo->Ahd key left y (gA arr (base+i))=true)/\(∀i,hi<=i->i<n->Ahd key left y (gA arr (base+i))=false)) ?_ ?_ ⟨rfl,lo,hi,rfl,h1,h2,by lia,h3,h4⟩) ?_)
  ·intro x c st' _ hx hI';refine bI fun _ bk=>?_;obtain⟨rfl,lo,hi,rfl,g1,g2,g3,g4,g5⟩:=hI';refine bk ?_;clear bk;dsimp only
   by_cases hge:lo>=hi
   ·rw[if_pos hge];exact wpS_pure ⟨rfl,lo,hi,rfl,by lia,g2,g4,g5⟩
   ·rw[if_neg hge];refine wpS_bind (rV hA hk hy (hin _ (by lia)) (by lia) ?_);dsimp only;cases q:Ahd key left y (gA arr (base+(lo+(hi-lo) / 2)))with
    |true=>exact wpS_pure ⟨rfl,_,_,rfl,by lia,g2,by lia,fun i hi'=>mono i _ (by lia) (by lia) q,g5⟩
    |false=>exact wpS_pure ⟨rfl,_,_,rfl,by lia,by lia,by lia,g4,fun i a b=>nm _ i a b q⟩
  ·intro c st' hI';refine bI fun _ bk=>?_;obtain⟨rfl,lo,hi,rfl,g1,g2,g3,g4,g5⟩:=hI';refine bk ?_;clear bk;exact⟨rfl,lo,hi,rfl,by lia,g2,g4,g5⟩
  ·intro c st' hI';refine bI fun _ bk=>?_;obtain⟨rfl,lo,hi,rfl,rfl,g2,g4,g5⟩:=hI';refine bk ?_;clear bk;rw[hf];exact wpS_pure (h _ g2 g4 g5)
 show wpS _ _ _ _ (Bind.bind _ _) _ _;refine wpS_bind (rV hA hk hy (hin _ hh) (by lia) ?_);dsimp only;cases q:Ahd key left y (gA arr (base+hint))with
 |true =>
  simp only[if_true];refine wpS_bind (wpS_mono (wpS_forRange (I:=fun x c st'=>st'=st/\∃l o,c=(none,l,o)/\x+1<=o/\l<o/\l<n-hint/\Ahd key left y (gA arr (base+(hint+l)))=true)
   (Q:=fun c st'=>st'=st/\∃l o,c=(none,l,o)/\l<o/\l<n-hint/\Ahd key left y (gA arr (base+(hint+l)))=true/\(n-hint<=o∨o<n-hint/\Ahd key left y (gA arr (base+(hint+o)))=false)) ?_ ?_ ⟨rfl,0,1,rfl,by lia,by lia,by lia,q⟩) ?_)
  ·intro x c st' _ hx hI';refine bI fun _ bk=>?_;obtain⟨rfl,l,o,rfl,g1,g2,g3,g4⟩:=hI';refine bk ?_;clear bk;dsimp only
   by_cases hge:o>=n-hint
   ·rw[if_pos hge];exact wpS_pure ⟨rfl,l,o,rfl,g2,g3,g4,.inl hge⟩
   ·rw[if_neg hge];refine wpS_bind (rV hA hk hy (hin _ (by lia)) (by lia) ?_);dsimp only;cases q:Ahd key left y (gA arr (base+(hint+o)))with
    |true=>exact wpS_pure ⟨rfl,_,_,rfl,by lia,by lia,by lia,q⟩
    |false=>exact wpS_pure ⟨rfl,_,_,rfl,g2,g3,g4,.inr ⟨by lia,q⟩⟩
  ·intro c st' hI';refine bI fun _ bk=>?_;obtain⟨rfl,l,o,rfl,g1,g2,g3,g4⟩:=hI';refine bk ?_;clear bk;exact⟨rfl,l,o,rfl,g2,g3,g4,.inl (by lia)⟩
  ·intro c st' hI';refine bI fun _ bk=>?_;obtain⟨rfl,l,o,rfl,g2,g3,g4,g5⟩:=hI';refine bk ?_;clear bk;dsimp only;refine last (fun _ _=>rfl) (by lia) (by lia) (fun i hi=>mono i (hint+l) (by lia) (by lia) g4) fun i a b=>?_;rcases g5 with g5|⟨g5,g6⟩
   ·lia
   ·exact nm _ i (by lia) b g6
 |false =>
  simp only[Bool.false_eq_true,if_false];refine wpS_bind (wpS_mono (wpS_forRange (I:=fun x c st'=>st'=st/\∃l o,c=(none,l,o)/\x+1<=o/\l<o/\l<hint+1/\Ahd key left y (gA arr (base+(hint-l)))=false)
   (Q:=fun c st'=>st'=st/\∃l o,c=(none,l,o)/\l<o/\l<hint+1/\Ahd key left y (gA arr (base+(hint-l)))=false/\(hint+1<=o∨o<hint+1/\Ahd key left y (gA arr (base+(hint-o)))=true)) ?_ ?_ ⟨rfl,0,1,rfl,by lia,by lia,by lia,q⟩) ?_)
  ·intro x c st' _ hx hI';refine bI fun _ bk=>?_;obtain⟨rfl,l,o,rfl,g1,g2,g3,g4⟩:=hI';refine bk ?_;clear bk;dsimp only
   by_cases hge:o>=hint+1
   ·rw[if_pos hge];exact wpS_pure ⟨rfl,l,o,rfl,g2,g3,g4,.inl hge⟩
   ·rw[if_neg hge];refine wpS_bind (rV hA hk hy (hin _ (by lia)) (by lia) ?_);dsimp only;cases q:Ahd key left y (gA arr (base+(hint-o)))with
    |false=>exact wpS_pure ⟨rfl,_,_,rfl,by lia,by lia,by lia,q⟩
    |true=>exact wpS_pure ⟨rfl,_,_,rfl,g2,g3,g4,.inr ⟨by lia,q⟩⟩
  ·intro c st' hI';refine bI fun _ bk=>?_;obtain⟨rfl,l,o,rfl,g1,g2,g3,g4⟩:=hI';refine bk ?_;clear bk;exact⟨rfl,l,o,rfl,g2,g3,g4,.inl (by lia)⟩
  ·intro c st' hI';refine bI fun _ bk=>?_;obtain⟨rfl,l,o,rfl,g2,g3,g4,g5⟩:=hI';refine bk ?_;clear bk;dsimp only;refine last (fun _ _=>rfl) (by lia) (by lia) (fun i hi=>?_) fun i a b=>nm (hint-l) i (by lia) b g4;rcases g5 with g5|⟨g5,g6⟩
   ·lia
   ·exact mono i _ (by lia) (by lia) g6
end
structure MS(R:Keyed->Keyed->Prop) (tot out ra rb:List Keyed):Prop where
 perm:(out++(ra++rb)).Perm tot
 so:out.Pairwise R
 la:∀z∈out,∀x∈ra,R z x
 lb:∀z∈out,∀x∈rb,R z x
 sa:ra.Pairwise R
 sb:rb.Pairwise R
theorem MS.swap{R:Keyed->Keyed->Prop}{tot out ra rb:List Keyed}(h:MS R tot out ra rb):MS R tot out rb ra :=
 ⟨(List.Perm.append_left _ List.perm_append_comm).trans h.perm,h.so,h.lb,h.la,h.sb,h.sa⟩
theorem MS.take{R:Keyed->Keyed->Prop}{tot out c ra rb:List Keyed}(h:MS R tot out (c++ra) rb) (k:∀x∈c,∀y∈rb,R x y):MS R tot (out++c) ra rb:=by
 have sa:=List.pairwise_append.mp h.sa;refine⟨by simpa using h.perm,List.pairwise_append.mpr ⟨h.so,sa.1,fun z hz x hx=>h.la z hz x (by simp[hx])⟩,fun z hz x hx=>?_,fun z hz y hy=>?_,sa.2.1,h.sb⟩
 ·rcases List.mem_append.mp hz with hz|hz
  ·exact h.la z hz x (by simp[hx])
  ·exact sa.2.2 z hz x hx
 ·rcases List.mem_append.mp hz with hz|hz
  ·exact h.lb z hz y hy
  ·exact k z hz y hy
def Fn(R:Keyed->Keyed->Prop) (tot r:List Keyed):Prop:=r.Perm tot/\r.Pairwise R
theorem MS.fin{R:Keyed->Keyed->Prop}{tot out ra rb:List Keyed}(h:MS R tot out ra rb) (k:∀x∈ra,∀y∈rb,R x y):Fn R tot (out++ra++rb):=by
 refine⟨by simpa using h.perm,List.pairwise_append.mpr ⟨List.pairwise_append.mpr ⟨h.so,h.sa,h.la⟩,h.sb,fun z hz y hy=>?_⟩⟩;rcases List.mem_append.mp hz with hz|hz
 ·exact h.lb z hz y hy
 ·exact k z hz y hy
theorem bX{a:Array Keyed}{i:Nat}(h:i<a.size):a.toList[i]?=some (gA a i):=by rw[Array.getElem?_toList,wJ h]
theorem zl{a:Array Keyed}{i:Nat}(h:i<a.size):a.toList.drop i=gA a i::a.toList.drop (i+1):=by
 have h':i<a.toList.length:=by simpa using h
 rw[List.drop_eq_getElem_cons h'];have:=bX h;rw[List.getElem?_eq_getElem h']at this;rw[Option.some.inj this]
theorem da{a:Array Keyed}{i:Nat}{x:Keyed}(h:x∈a.toList.drop i):∃j,i<=j/\j<a.size/\x=gA a j:=by
 obtain⟨j,e⟩:=List.mem_iff_getElem?.mp h;have hj:=(List.getElem?_eq_some_iff.mp e).1;rw[List.getElem?_drop]at e;have lt:i+j<a.size:=by simpa using(List.getElem?_eq_some_iff.mp e).1
 rw[bX lt]at e;exact⟨i+j,by lia,lt,(Option.some.inj e).symm⟩
theorem fX{a:Array Keyed}{i k:Nat}(h:i+k<=a.size):a.toList.drop i=(a.extract i (i+k)).toList++a.toList.drop (i+k):=by
 rw[Array.toList_extract,List.extract_eq_take_drop,show i+k-i=k by lia,<-List.drop_drop,List.take_append_drop]
theorem eI{a:Array Keyed}{i j:Nat}{x:Keyed}(hj:j<=a.size) (h:x∈(a.extract i j).toList):∃k,i<=k/\k<j/\x=gA a k:=by
 rw[Array.toList_extract,List.extract_eq_take_drop]at h;obtain⟨k,e⟩:=List.mem_iff_getElem?.mp h;have hk:=(List.getElem?_eq_some_iff.mp e).1;rw[List.length_take,List.length_drop]at hk;rw[List.getElem?_take_of_lt (by lia),List.getElem?_drop]at e;rw[bX (by lia)]at e;exact⟨i+k,by lia,by lia,(Option.some.inj e).symm⟩
section
variable{prog:Program}{w:World}{A:Around}{E:Value->Shared->Prop}{s:Shared}{O:KeyOrd}{key:Keyed->O.α}{a0:List Keyed}{κ:SortKind}
def kl(key:Keyed->O.α) (x y:Keyed):Prop:=O.kle (key x) (key y)
def ML(key:Keyed->O.α) (a b out:Array Keyed) (ia ib:Nat):Prop:=MS (kl key) (a.toList++b.toList) out.toList (a.toList.drop ia) (b.toList.drop ib)
abbrev FL(key:Keyed->O.α) (a b r:Array Keyed):Prop:=Fn (kl key) (a.toList++b.toList) r.toList
variable{a b out:Array Keyed}{ia ib k:Nat}
theorem ML.ua(h:ML key a b out ia ib) {i j:Nat}(h1:ia<=i) (h2:i<=j) (h3:j<a.size):kl key (gA a i) (gA a j):=by
 rcases Nat.lt_or_ge i j with lt|ge
 ·have:=List.pairwise_iff_getElem.mp h.sa (i-ia) (j-ia) (by simp;lia) (by simp;lia) (by lia);rw[List.getElem_drop,List.getElem_drop]at this;have e1:=bX (a:=a) (i:=i) (by lia);have e2:=bX (a:=a) (i:=j) h3;rw[List.getElem?_eq_getElem (by simp;lia)]at e1 e2;rw[<-Option.some.inj e1,<-Option.some.inj e2];simpa[show ia+(i-ia)=i by lia,show ia+(j-ia)=j by lia]using this
 ·obtain rfl:i=j:=by lia
  exact KeyOrd.kle_refl _
theorem ML.ub(h:ML key a b out ia ib) {i j:Nat}(h1:ib<=i) (h2:i<=j) (h3:j<b.size):kl key (gA b i) (gA b j):=by
 rcases Nat.lt_or_ge i j with lt|ge
 ·have:=List.pairwise_iff_getElem.mp h.sb (i-ib) (j-ib) (by simp;lia) (by simp;lia) (by lia);rw[List.getElem_drop,List.getElem_drop]at this;have e1:=bX (a:=b) (i:=i) (by lia);have e2:=bX (a:=b) (i:=j) h3;rw[List.getElem?_eq_getElem (by simp;lia)]at e1 e2;rw[<-Option.some.inj e1,<-Option.some.inj e2];simpa[show ib+(i-ib)=i by lia,show ib+(j-ib)=j by lia]using this
 ·obtain rfl:i=j:=by lia
  exact KeyOrd.kle_refl _
theorem ML.chA(h:ML key a b out ia ib) (hk:ia+k<=a.size) (q:ib<b.size->∀i,ia<=i->i<ia+k->kl key (gA a i) (gA b ib)):ML key a b (out++a.extract ia (ia+k)) (ia+k) ib:=by
 have h':=h;unfold ML at h' ⊢;rw[fX hk]at h';rw[Array.toList_append];refine h'.take fun x hx y hy=>?_;obtain⟨i,i1,i2,rfl⟩:=eI hk hx;obtain⟨j,j1,j2,rfl⟩:=da hy;exact KeyOrd.kle_trans (q (by lia) i i1 i2) (h.ub (Nat.le_refl _) j1 j2)
theorem ML.chB(h:ML key a b out ia ib) (hk:ib+k<=b.size) (q:ia<a.size->∀i,ib<=i->i<ib+k->kl key (gA b i) (gA a ia)):ML key a b (out++b.extract ib (ib+k)) ia (ib+k):=by
 have h':=h.swap;unfold ML at h ⊢;rw[fX hk]at h';rw[Array.toList_append];refine(h'.take fun x hx y hy=>?_).swap;obtain⟨i,i1,i2,rfl⟩:=eI hk hx;obtain⟨j,j1,j2,rfl⟩:=da hy;exact KeyOrd.kle_trans (q (by lia) i i1 i2) (ML.ua h (Nat.le_refl _) j1 j2)
theorem nN{a:Array Keyed}{i:Nat}(h:i<a.size):out++a.extract i (i+1)=out.push (gA a i):=by
 apply Array.toList_inj.mp;have:=fX (a:=a) (i:=i) (k:=1) (by lia);rw[zl h]at this;rw[Array.toList_append,Array.toList_push];congr 1;have e:(a.extract i (i+1)).toList.length=1:=by simp;lia
 obtain⟨z,q⟩:=List.length_eq_one_iff.mp e;rw[q]at this ⊢;simp at this;rw[this]
theorem ML.puA(h:ML key a b out ia ib) (hk:ia<a.size) (q:ib<b.size->kl key (gA a ia) (gA b ib)):ML key a b (out.push (gA a ia)) (ia+1) ib:=by
 rw[<-nN hk];exact h.chA hk fun hb i h1 h2=>by obtain rfl:i=ia:=(by lia);exact q hb
theorem ML.puB(h:ML key a b out ia ib) (hk:ib<b.size) (q:ia<a.size->kl key (gA b ib) (gA a ia)):ML key a b (out.push (gA b ib)) ia (ib+1):=by
 rw[<-nN hk];exact h.chB hk fun hb i h1 h2=>by obtain rfl:i=ib:=(by lia);exact q hb
theorem jY{a:Array Keyed}{i:Nat}:(a.extract i a.size).toList=a.toList.drop i:=by
 rw[Array.toList_extract,List.extract_eq_take_drop,List.take_of_length_le (by simp)]
theorem ML.done(h:ML key a b out ia ib) (e:ib=b.size∨ia=a.size):FL key a b (out++a.extract ia a.size++b.extract ib b.size):=by
 unfold FL;rw[Array.toList_append,Array.toList_append,jY,jY];refine h.fin fun x hx y hy=>?_;obtain⟨i,i1,i2,rfl⟩:=da hx;obtain⟨j,j1,j2,rfl⟩:=da hy
 lia
theorem ML.lastA(h:ML key a b out ia ib) (e:ia+1=a.size) (hl:∀j,j<b.size->kl key (gA b j) (gA a (a.size-1))):FL key a b (out++b.extract ib b.size++a.extract ia a.size):=by
 unfold FL;rw[Array.toList_append,Array.toList_append,jY,jY];refine h.swap.fin fun x hx y hy=>?_;obtain⟨i,i1,i2,rfl⟩:=da hy;obtain⟨j,j1,j2,rfl⟩:=da hx;obtain rfl:i=a.size-1:=by lia
 exact hl j j2
end
section
variable{prog:Program}{w:World}{A:Around}{E:Value->Shared->Prop}{s:Shared}{O:KeyOrd}{key:Keyed->O.α}{a0:List Keyed}{κ:SortKind}{a b out:Array Keyed}{ia ib k:Nat}
structure Sg(st st':SortSt):Prop where
 k:kindOf st'=kindOf st
 a:arrOf st'=arrOf st
 p:pendingOf st'=pendingOf st
 f:failedOf st'=failedOf st
theorem iH{x y:Keyed}:Ahd key false y x=true↔kl key x y:=by simp[Ahd,kl,KeyOrd.kle]
theorem qE{x y:Keyed}:Ahd key false y x=false↔O.blt (key y) (key x)=true:=by simp[Ahd]
theorem iE{x y:Keyed}:Ahd key true y x=true↔O.klt (key x) (key y):=by simp[Ahd,KeyOrd.klt]
theorem qV{x y:Keyed}:Ahd key true y x=false↔kl key y x:=by simp[Ahd,kl,KeyOrd.kle]
def xo:Array Keyed->Array Keyed->SM (Array Keyed):=sortPriv% PySem.Builtin.mergeLo
theorem EV{st:SortSt}{Q:Array Keyed->SortSt->Prop}(hA:gC prog w A s κ key a0) (hk:kindOf st=κ) (ha:∀i,i<a.size->gA a i∈a0) (hb:∀i,i<b.size->gA b i∈a0) (za:1<=a.size) (zb:1<=b.size)
  (h0:ML key a b #[] 0 0) (hf:kl key (gA b 0) (gA a 0)) (hl:∀j,j<b.size->kl key (gA b j) (gA a (a.size-1))) (h:∀r st',Sg st st'->FL key a b r->Q r st'):wpS (model prog w) A E s (xo a b) Q st:=by
 refine wpS_bind (wpS_lift (wpAny_rule ⟨rfl,?_⟩));dsimp only;refine wpS_bind (aX (by lia) ?_);have h1:ML key a b #[gA b 0] 0 1:=h0.puB zb fun _=>hf
 by_cases e1:1=b.size
 ·first|refine bF (by simpa using e1) ?_|rw[if_pos (by simpa using e1)]
  exact wpS_pure (h _ _ ⟨rfl,rfl,rfl,rfl⟩ (h1.done (.inl e1)))
 ·first|refine bE (by simpa using e1) ?_|rw[if_neg (by simpa using e1)]
  by_cases e2:0+1=a.size
  ·first|refine bF (by simpa using e2) ?_|rw[if_pos (by simpa using e2)]
   exact wpS_pure (h _ _ ⟨rfl,rfl,rfl,rfl⟩ (h1.lastA e2 hl))
  ·first|refine bE (by simpa using e2) ?_|rw[if_neg (by simpa using e2)]
   refine wpS_bind (wpS_get ?_);refine wpS_bind (wpS_mono (wpS_forRange (I:=fun x c st'=>Sg st st'/\∃out ia ib g,c=(none,out,ia,ib,g)/\ML key a b out ia ib/\ia+1<a.size/\ib<b.size/\x<=ia+ib)
    (Q:=fun c st'=>Sg st st'/\∃r c',c=(some r,c')/\FL key a b r) ?_ ?_ ⟨⟨rfl,rfl,rfl,rfl⟩,_,_,_,_,rfl,h1,by lia,by lia,by lia⟩) ?_)
   ·intro x c st1 _ hx hI';refine bI fun _ bk=>?_;obtain⟨sg,out,ia,ib,g,rfl,m,la,lb,pr⟩:=hI';refine bk ?_;clear bk;dsimp only;refine wpS_bind (wpS_mono (wpS_forRange (I:=fun y c st'=>Sg st st'/\∃out ia ib ac bc,c=(none,out,ia,ib,ac,bc)/\ML key a b out ia ib/\ia+1<a.size/\ib<b.size/\x+min y 1<=ia+ib)
     (Q:=fun c st'=>Sg st st'/\((∃r c',c=(some r,c')/\FL key a b r)∨∃out ia ib ac bc,c=(none,out,ia,ib,ac,bc)/\ML key a b out ia ib/\ia+1<a.size/\ib<b.size/\x+1<=ia+ib)) ?_ ?_ ⟨sg,_,_,_,_,_,rfl,m,la,lb,by lia⟩) ?_)
    ·intro y c st2 _ hy hI';refine bI fun _ bk=>?_;obtain⟨sg,out,ia,ib,ac,bc,rfl,m,la,lb,pr⟩:=hI';refine bk ?_;clear bk;dsimp only;refine wpS_bind (aX lb (wpS_bind (aX (by lia) (wpS_bind (wA hA (sg.k.trans hk) (hb ib lb) (ha ia (by lia)) ?_)))));dsimp only;cases q:O.blt (key (gA b ib)) (key (gA a ia))with
     |true =>
      simp only[if_true];have m':=m.puB lb fun _=>iA q;refine wpS_bind (aX lb ?_)
      by_cases e:ib+1=b.size
      ·first|refine bF (by simpa using e) ?_|rw[if_pos (by simpa using e)]
       exact wpS_pure ⟨sg,.inl ⟨_,_,rfl,m'.done (.inl e)⟩⟩
      ·first|refine bE (by simpa using e) ?_|rw[if_neg (by simpa using e)]
       split
       ·exact wpS_pure ⟨sg,.inr ⟨_,_,_,_,_,rfl,m',la,by lia,by lia⟩⟩
       ·exact wpS_pure ⟨sg,_,_,_,_,_,rfl,m',la,by lia,by lia⟩
     |false =>
      simp only[Bool.false_eq_true,if_false];have m':=m.puA (by lia) fun _=>qp q;refine wpS_bind (aX (by lia) ?_)
      by_cases e:ia+1+1=a.size
      ·first|refine bF (by simpa using e) ?_|rw[if_pos (by simpa using e)]
       exact wpS_pure ⟨sg,.inl ⟨_,_,rfl,m'.lastA e hl⟩⟩
      ·first|refine bE (by simpa using e) ?_|rw[if_neg (by simpa using e)]
       split
       ·exact wpS_pure ⟨sg,.inr ⟨_,_,_,_,_,rfl,m',by lia,lb,by lia⟩⟩
       ·exact wpS_pure ⟨sg,_,_,_,_,_,rfl,m',by lia,lb,by lia⟩
    ·intro c st2 hI';refine bI fun _ bk=>?_;obtain⟨sg,out,ia,ib,ac,bc,rfl,m,la,lb,pr⟩:=hI';refine bk ?_;clear bk;exact⟨sg,.inr ⟨_,_,_,_,_,rfl,m,la,lb,by lia⟩⟩
    ·rintro c st2 ⟨sg,⟨r,c',rfl,fl⟩|⟨out,ia,ib,ac,bc,rfl,m,la,lb,pr⟩⟩
     ·exact wpS_pure ⟨sg,r,_,rfl,fl⟩
     ·dsimp only;refine wpS_bind (wpS_lift (wpAny_rule ⟨rfl,?_⟩));refine wpS_bind (wpS_mono (wpS_forRange (I:=fun y c st'=>Sg st st'/\∃out ia ib mg ac bc,c=(none,out,ia,ib,mg,ac,bc)/\ML key a b out ia ib/\ia+1<a.size/\ib<b.size/\x+1<=ia+ib)
       (Q:=fun c st'=>Sg st st'/\((∃r c',c=(some r,c')/\FL key a b r)∨∃out ia ib mg ac bc,c=(none,out,ia,ib,mg,ac,bc)/\ML key a b out ia ib/\ia+1<a.size/\ib<b.size/\x+1<=ia+ib)) ?_ ?_ ⟨sg,_,_,_,_,_,_,rfl,m,la,lb,by lia⟩) ?_)
      ·intro y c st2 _ hy hI';refine bI fun _ bk=>?_;obtain⟨sg,out,ia,ib,mg,ac,bc,rfl,m,la,lb,pr⟩:=hI';refine bk ?_;clear bk;dsimp only
       by_cases g0:mg > 1
       all_goals first|rw[if_pos g0]|rw[if_neg g0]
       all_goals
        refine wpS_bind (wpS_modify ?_);refine wpS_bind (aX lb (wpS_bind (eF hA (sg.k.trans hk) (hb ib lb) (fun i hi=>ha _ (by lia)) (by lia) (by lia) (fun i j hij hj z=>iH.mpr (KeyOrd.kle_trans (m.ua (by lia) (by lia) (by lia)) (iH.mp z))) fun k hk1 hlt hge=>?_)));have up:∀i,ia+k<=i->i<a.size->kl key (gA b ib) (gA a i):=fun i i1 i2=>by
         have:=hge (i-ia) (by lia) (by lia);rw[show ia+(i-ia)=i by lia]at this;exact iA (qE.mp this)
        dsimp only
        by_cases k0:k > 0
        all_goals first
         |
          rw[if_pos k0];have m1:=m.chA (k:=k) (by lia) fun _ i i1 i2=>by
           have:=hlt (i-ia) (by lia);rw[show ia+(i-ia)=i by lia]at this;exact iH.mp this
          by_cases e1:ia+k+1=a.size
          ·first|refine bF (by simpa using e1) ?_|rw[if_pos (by simpa using e1)]
           exact wpS_pure ⟨⟨sg.k,sg.a,sg.p,sg.f⟩,.inl ⟨_,_,rfl,m1.lastA e1 hl⟩⟩
          first|refine bE (by simpa using e1) ?_|rw[if_neg (by simpa using e1)]
          by_cases e2:ia+k=a.size
          ·first|refine bF (by simpa using e2) ?_|rw[if_pos (by simpa using e2)]
           exact wpS_pure ⟨⟨sg.k,sg.a,sg.p,sg.f⟩,.inl ⟨_,_,rfl,m1.done (.inr e2)⟩⟩
          first|refine bE (by simpa using e2) ?_|rw[if_neg (by simpa using e2)]
          have l1:ia+k+1<a.size:=by lia
         |
          rw[if_neg k0];obtain rfl:k=0:=by lia
          have m1:=m;have l1:=la
        all_goals
         have m2:=m1.puB lb fun z=>up _ (by lia) z;refine wpS_bind (aX lb ?_)
         by_cases e3:ib+1=b.size
         ·first|refine bF (by simpa using e3) ?_|rw[if_pos (by simpa using e3)]
          exact wpS_pure ⟨⟨sg.k,sg.a,sg.p,sg.f⟩,.inl ⟨_,_,rfl,m2.done (.inl e3)⟩⟩
         ·first|refine bE (by simpa using e3) ?_|rw[if_neg (by simpa using e3)]
          refine wpS_bind (aX (by lia) (wpS_bind (eF hA (sg.k.trans hk) (ha _ (by lia)) (fun i hi=>hb _ (by lia)) (by lia) (by lia) (fun i j hij hj z=>iE.mpr (KeyOrd.klt_of_kle_of_klt (m.ub (by lia) (by lia) (by lia)) (iE.mp z))) fun k' hk1' hlt' hge'=>?_)));dsimp only
          by_cases k0':k' > 0
          all_goals first
           |
            rw[if_pos k0'];have m3:=m2.chB (k:=k') (by lia) fun _ i i1 i2=>by
             have:=hlt' (i-(ib+1)) (by lia);rw[show ib+1+(i-(ib+1))=i by lia]at this;exact KeyOrd.kle_of_klt (iE.mp this)
            by_cases e4:ib+1+k'=b.size
            ·first|refine bF (by simpa using e4) ?_|rw[if_pos (by simpa using e4)]
             exact wpS_pure ⟨⟨sg.k,sg.a,sg.p,sg.f⟩,.inl ⟨_,_,rfl,m3.done (.inl e4)⟩⟩
            first|refine bE (by simpa using e4) ?_|rw[if_neg (by simpa using e4)]
            have l3:ib+1+k'<b.size:=by lia
           |
            rw[if_neg k0'];obtain rfl:k'=0:=by lia
            have m3:=m2;have l3:ib+1<b.size:=by lia
          all_goals
           have m4:=m3.puA (by lia) fun z=>qV.mp (hge' _ (Nat.le_refl _) (by lia));refine wpS_bind (aX (by lia) ?_)
           split
           ·rename_i e5;exact wpS_pure ⟨⟨sg.k,sg.a,sg.p,sg.f⟩,.inl ⟨_,_,rfl,m4.lastA (by simpa using e5) hl⟩⟩
           ·rename_i e5;simp only[beq_iff_eq]at e5
            split
            ·exact wpS_pure ⟨⟨sg.k,sg.a,sg.p,sg.f⟩,.inr ⟨_,_,_,_,_,_,rfl,m4,by lia,l3,by lia⟩⟩
            ·exact wpS_pure ⟨⟨sg.k,sg.a,sg.p,sg.f⟩,_,_,_,_,_,_,rfl,m4,by lia,l3,by lia⟩
      ·intro c st2 hI';refine bI fun _ bk=>?_;obtain⟨sg,out,ia,ib,mg,ac,bc,rfl,m,la,lb,pr⟩:=hI';refine bk ?_;clear bk;exact⟨sg,.inr ⟨_,_,_,_,_,_,rfl,m,la,lb,by lia⟩⟩
      ·rintro c st2 ⟨sg,⟨r,c',rfl,fl⟩|⟨out,ia,ib,mg,ac,bc,rfl,m,la,lb,pr⟩⟩
       ·exact wpS_pure ⟨sg,r,_,rfl,fl⟩
       ·dsimp only;refine wpS_bind (wpS_modify (wpS_pure ⟨⟨sg.k,sg.a,sg.p,sg.f⟩,_,_,_,_,rfl,m,la,lb,by lia⟩))
   ·intro c st1 hI';refine bI fun _ bk=>?_;obtain⟨sg,out,ia,ib,g,rfl,m,la,lb,pr⟩:=hI';refine bk ?_;clear bk
    lia
   ·intro c st1 hI';refine bI fun _ bk=>?_;obtain⟨sg,r,c',rfl,fl⟩:=hI';refine bk ?_;clear bk;exact wpS_pure (h r _ sg fl)
end
theorem df{a:Array Keyed}{n:Nat}{x:Keyed}(hn:n<=a.size) (h:x∈(a.toList.take n).reverse):∃j,j<n/\x=gA a j:=by
 rw[List.mem_reverse]at h;obtain⟨j,e⟩:=List.mem_iff_getElem?.mp h;have hj:=(List.getElem?_eq_some_iff.mp e).1;rw[List.length_take]at hj;rw[List.getElem?_take_of_lt (by lia),bX (by lia)]at e;exact⟨j,by lia,(Option.some.inj e).symm⟩
theorem pj{a:Array Keyed}{c n:Nat}(h:c<=n):(a.toList.take n).reverse=(a.extract c n).reverse.toList++(a.toList.take c).reverse:=by
 rw[Array.toList_reverse,Array.toList_extract,List.extract_eq_take_drop,<-List.reverse_append];congr 1;rw[<-List.take_add,show c+(n-c)=n by lia]
section
variable{prog:Program}{w:World}{A:Around}{E:Value->Shared->Prop}{s:Shared}{O:KeyOrd}{key:Keyed->O.α}{a0:List Keyed}{κ:SortKind}{a b out:Array Keyed}{na nb c:Nat}
def MH(key:Keyed->O.α) (a b out:Array Keyed) (na nb:Nat):Prop:=MS (fun x y=>kl key y x) (a.toList++b.toList) out.toList (a.toList.take na).reverse (b.toList.take nb).reverse
theorem jV{a:Array Keyed}{n i j:Nat}(hn:n<=a.size) (h:(a.toList.take n).reverse.Pairwise fun x y=>kl key y x) (hij:i<=j) (hj:j<n):kl key (gA a i) (gA a j):=by
 rcases Nat.lt_or_ge i j with lt|ge
 ·have:=List.pairwise_iff_getElem.mp (List.pairwise_reverse.mp h) i j (by simp;lia) (by simp;lia) lt;rw[List.getElem_take,List.getElem_take]at this;have e1:=bX (a:=a) (i:=i) (by lia);have e2:=bX (a:=a) (i:=j) (by lia);rw[List.getElem?_eq_getElem (by simp;lia)]at e1 e2;rw[<-Option.some.inj e1,<-Option.some.inj e2];exact this
 ·obtain rfl:i=j:=by lia
  exact KeyOrd.kle_refl _
theorem MH.chA(h:MH key a b out na nb) (za:na<=a.size) (zb:nb<=b.size) (hc:c<=na) (q:0<nb->∀i,c<=i->i<na->kl key (gA b (nb-1)) (gA a i)):MH key a b (out++(a.extract c na).reverse) c nb:=by
 have h':=h;unfold MH at h' ⊢;rw[pj hc]at h';rw[Array.toList_append];refine h'.take fun x hx y hy=>?_;rw[Array.toList_reverse,List.mem_reverse]at hx;obtain⟨i,i1,i2,rfl⟩:=eI za hx;obtain⟨j,j1,rfl⟩:=df zb hy;exact KeyOrd.kle_trans (jV zb h.sb (i:=j) (j:=nb-1) (by lia) (by lia)) (q (by lia) i i1 i2)
theorem MH.chB(h:MH key a b out na nb) (za:na<=a.size) (zb:nb<=b.size) (hc:c<=nb) (q:0<na->∀i,c<=i->i<nb->kl key (gA a (na-1)) (gA b i)):MH key a b (out++(b.extract c nb).reverse) na c:=by
 have h':=h.swap;unfold MH at h ⊢;rw[pj hc]at h';rw[Array.toList_append];refine(h'.take fun x hx y hy=>?_).swap;rw[Array.toList_reverse,List.mem_reverse]at hx;obtain⟨i,i1,i2,rfl⟩:=eI zb hx;obtain⟨j,j1,rfl⟩:=df za hy;exact KeyOrd.kle_trans (jV za h.sa (i:=j) (j:=na-1) (by lia) (by lia)) (q (by lia) i i1 i2)
theorem qh{a:Array Keyed}{n:Nat}(h1:1<=n) (h:n<=a.size):out++(a.extract (n-1) n).reverse=out.push (gA a (n-1)):=by
 have:=nN (out:=#[]) (a:=a) (i:=n-1) (by lia);rw[show n-1+1=n by lia,Array.empty_append]at this;rw[this];simp
theorem MH.puA(h:MH key a b out na nb) (h1:1<=na) (za:na<=a.size) (zb:nb<=b.size) (q:0<nb->kl key (gA b (nb-1)) (gA a (na-1))):MH key a b (out.push (gA a (na-1))) (na-1) nb:=by
 rw[<-qh h1 za];exact h.chA za zb (by lia) fun hb i i1 i2=>by obtain rfl:i=na-1:=(by lia);exact q hb
theorem MH.puB(h:MH key a b out na nb) (h1:1<=nb) (za:na<=a.size) (zb:nb<=b.size) (q:0<na->kl key (gA a (na-1)) (gA b (nb-1))):MH key a b (out.push (gA b (nb-1))) na (nb-1):=by
 rw[<-qh h1 zb];exact h.chB za zb (by lia) fun hb i i1 i2=>by obtain rfl:i=nb-1:=(by lia);exact q hb
theorem tR{a:Array Keyed}{n:Nat}:(a.extract 0 n).toList=a.toList.take n:=by
 rw[Array.toList_extract,List.extract_eq_take_drop,List.drop_zero,Nat.sub_zero]
theorem wg{tot r:List Keyed}(h:Fn (fun x y=>kl key y x) tot r):Fn (kl key) tot r.reverse:=⟨(List.reverse_perm r).trans h.1,List.pairwise_reverse.mpr h.2⟩
theorem MH.done(h:MH key a b out na nb) (za:na<=a.size) (zb:nb<=b.size) (e:na=0∨nb=0):FL key a b (a.extract 0 na++b.extract 0 nb++out.reverse):=by
 have:=wg (h.swap.fin fun y hy x hx=>by
  obtain⟨j,j1,rfl⟩:=df zb hy;obtain⟨i,i1,rfl⟩:=df za hx
  lia)
 unfold FL;rw[Array.toList_append,Array.toList_append,tR,tR,Array.toList_reverse];simpa using this
theorem MH.firstB(h:MH key a b out na nb) (za:na<=a.size) (zb:nb<=b.size) (e:nb=1) (hf:∀i,i<a.size->kl key (gA b 0) (gA a i)):FL key a b (b.extract 0 nb++a.extract 0 na++out.reverse):=by
 have:=wg (h.fin fun x hx y hy=>by
  obtain⟨j,j1,rfl⟩:=df zb hy;obtain⟨i,i1,rfl⟩:=df za hx;obtain rfl:j=0:=by lia
  exact hf i (by lia))
 unfold FL;rw[Array.toList_append,Array.toList_append,tR,tR,Array.toList_reverse];simpa using this
def wU:Array Keyed->Array Keyed->SM (Array Keyed):=sortPriv% PySem.Builtin.mergeHi
theorem Eb{st:SortSt}{Q:Array Keyed->SortSt->Prop}(hA:gC prog w A s κ key a0) (hk:kindOf st=κ) (ha:∀i,i<a.size->gA a i∈a0) (hb:∀i,i<b.size->gA b i∈a0) (za:1<=a.size) (zb:1<=b.size)
  (h0:MH key a b #[] a.size b.size) (hf:∀i,i<a.size->kl key (gA b 0) (gA a i)) (hl:kl key (gA b (b.size-1)) (gA a (a.size-1))) (h:∀r st',Sg st st'->FL key a b r->Q r st'):wpS (model prog w) A E s (wU a b) Q st:=by
 refine wpS_bind (wpS_lift (wpAny_rule ⟨rfl,?_⟩));dsimp only;refine wpS_bind (aX (by lia) ?_);have h1:MH key a b #[gA a (a.size-1)] (a.size-1) b.size:=h0.puA za (Nat.le_refl _) (Nat.le_refl _) fun _=>hl
 by_cases e1:a.size-1=0
 ·first|refine bF (by simpa using e1) ?_|rw[if_pos (by simpa using e1)]
  exact wpS_pure (h _ _ ⟨rfl,rfl,rfl,rfl⟩ (h1.done (by lia) (by lia) (.inl e1)))
 ·first|refine bE (by simpa using e1) ?_|rw[if_neg (by simpa using e1)]
  by_cases e2:b.size=1
  ·first|refine bF (by simpa using e2) ?_|rw[if_pos (by simpa using e2)]
   exact wpS_pure (h _ _ ⟨rfl,rfl,rfl,rfl⟩ (h1.firstB (by lia) (by lia) e2 hf))
  ·first|refine bE (by simpa using e2) ?_|rw[if_neg (by simpa using e2)]
   refine wpS_bind (wpS_get ?_);refine wpS_bind (wpS_mono (wpS_forRange (I:=fun x c st'=>Sg st st'/\∃out na nb g,c=(none,na,nb,out,g)/\MH key a b out na nb/\1<=na/\na<=a.size/\1<nb/\nb<=b.size/\x+na+nb<=a.size+b.size)
    (Q:=fun c st'=>Sg st st'/\∃r c',c=(some r,c')/\FL key a b r) ?_ ?_ ⟨⟨rfl,rfl,rfl,rfl⟩,_,_,_,_,rfl,h1,by lia,by lia,by lia,by lia,by lia⟩) ?_)
   ·intro x c st1 _ hx hI';refine bI fun _ bk=>?_;obtain⟨sg,out,na,nb,g,rfl,m,la,ua,lb,ub,pr⟩:=hI';refine bk ?_;clear bk;dsimp only;refine wpS_bind (wpS_mono (wpS_forRange (I:=fun y c st'=>Sg st st'/\∃out na nb ac bc,c=(none,na,nb,out,ac,bc)/\MH key a b out na nb/\1<=na/\na<=a.size/\1<nb/\nb<=b.size/\x+min y 1+na+nb<=a.size+b.size)
     (Q:=fun c st'=>Sg st st'/\((∃r c',c=(some r,c')/\FL key a b r)∨∃out na nb ac bc,c=(none,na,nb,out,ac,bc)/\MH key a b out na nb/\1<=na/\na<=a.size/\1<nb/\nb<=b.size/\x+1+na+nb<=a.size+b.size)) ?_ ?_ ⟨sg,_,_,_,_,_,rfl,m,la,ua,lb,ub,by lia⟩) ?_)
    ·intro y c st2 _ hy hI';refine bI fun _ bk=>?_;obtain⟨sg,out,na,nb,ac,bc,rfl,m,la,ua,lb,ub,pr⟩:=hI';refine bk ?_;clear bk;dsimp only;refine wpS_bind (aX (by lia) (wpS_bind (aX (by lia) (wpS_bind (wA hA (sg.k.trans hk) (hb _ (by lia)) (ha _ (by lia)) ?_)))));dsimp only;cases q:O.blt (key (gA b (nb-1))) (key (gA a (na-1)))with
     |true =>
      simp only[if_true];have m':=m.puA la ua ub fun _=>iA q;refine wpS_bind (aX (by lia) ?_)
      by_cases e:na-1=0
      ·first|refine bF (by simpa using e) ?_|rw[if_pos (by simpa using e)]
       exact wpS_pure ⟨sg,.inl ⟨_,_,rfl,m'.done (by lia) ub (.inl e)⟩⟩
      ·first|refine bE (by simpa using e) ?_|rw[if_neg (by simpa using e)]
       split
       ·exact wpS_pure ⟨sg,.inr ⟨_,_,_,_,_,rfl,m',by lia,by lia,lb,ub,by lia⟩⟩
       ·exact wpS_pure ⟨sg,_,_,_,_,_,rfl,m',by lia,by lia,lb,ub,by lia⟩
     |false =>
      simp only[Bool.false_eq_true,if_false];have m':=m.puB (by lia) ua ub fun _=>qp q;refine wpS_bind (aX (by lia) ?_)
      by_cases e:nb-1=1
      ·first|refine bF (by simpa using e) ?_|rw[if_pos (by simpa using e)]
       exact wpS_pure ⟨sg,.inl ⟨_,_,rfl,m'.firstB ua (by lia) e hf⟩⟩
      ·first|refine bE (by simpa using e) ?_|rw[if_neg (by simpa using e)]
       split
       ·exact wpS_pure ⟨sg,.inr ⟨_,_,_,_,_,rfl,m',la,ua,by lia,by lia,by lia⟩⟩
       ·exact wpS_pure ⟨sg,_,_,_,_,_,rfl,m',la,ua,by lia,by lia,by lia⟩
    ·intro c st2 hI';refine bI fun _ bk=>?_;obtain⟨sg,out,na,nb,ac,bc,rfl,m,la,ua,lb,ub,pr⟩:=hI';refine bk ?_;clear bk;exact⟨sg,.inr ⟨_,_,_,_,_,rfl,m,la,ua,lb,ub,by lia⟩⟩
    ·rintro c st2 ⟨sg,⟨r,c',rfl,fl⟩|⟨out,na,nb,ac,bc,rfl,m,la,ua,lb,ub,pr⟩⟩
     ·exact wpS_pure ⟨sg,r,_,rfl,fl⟩
     ·dsimp only;refine wpS_bind (wpS_lift (wpAny_rule ⟨rfl,?_⟩));refine wpS_bind (wpS_mono (wpS_forRange (I:=fun y c st'=>Sg st st'/\∃out na nb mg ac bc,c=(none,na,nb,out,mg,ac,bc)/\MH key a b out na nb/\1<=na/\na<=a.size/\1<nb/\nb<=b.size/\x+1+na+nb<=a.size+b.size)
       (Q:=fun c st'=>Sg st st'/\((∃r c',c=(some r,c')/\FL key a b r)∨∃out na nb mg ac bc,c=(none,na,nb,out,mg,ac,bc)/\MH key a b out na nb/\1<=na/\na<=a.size/\1<nb/\nb<=b.size/\x+1+na+nb<=a.size+b.size)) ?_ ?_ ⟨sg,_,_,_,_,_,_,rfl,m,la,ua,lb,ub,by lia⟩) ?_)
      ·intro y c st2 _ hy hI';refine bI fun _ bk=>?_;obtain⟨sg,out,na,nb,mg,ac,bc,rfl,m,la,ua,lb,ub,pr⟩:=hI';refine bk ?_;clear bk;dsimp only
       by_cases g0:mg > 1
       all_goals first|rw[if_pos g0]|rw[if_neg g0]
       all_goals
        refine wpS_bind (wpS_modify ?_);refine wpS_bind (aX (by lia) (wpS_bind (eF hA (sg.k.trans hk) (hb _ (by lia)) (fun i hi=>ha _ (by lia)) (by lia) (by lia) (fun i j hij hj z=>iH.mpr (KeyOrd.kle_trans (jV ua m.sa (by lia) (by lia)) (iH.mp z))) fun c hc hlt hge=>?_)));simp only[Nat.zero_add]at hlt hge;dsimp only
        by_cases k0:na-c > 0
        all_goals first
         |
          rw[if_pos k0];have m1:=m.chA ua ub (c:=c) (by lia) fun _ i i1 i2=>iA (qE.mp (hge i i1 i2))
          by_cases e1:c=0
          ·first|refine bF (by simpa using e1) ?_|rw[if_pos (by simpa using e1)]
           exact wpS_pure ⟨⟨sg.k,sg.a,sg.p,sg.f⟩,.inl ⟨_,_,rfl,m1.done (by lia) ub (.inl e1)⟩⟩
          first|refine bE (by simpa using e1) ?_|rw[if_neg (by simpa using e1)]
          have l1:1<=c:=by lia
          have u1:c<=a.size:=by lia
         |
          rw[if_neg k0];obtain rfl:c=na:=by lia
          have m1:=m;have l1:=la;have u1:=ua
        all_goals
         have m2:=m1.puB (by lia) u1 ub fun z=>iH.mp (hlt _ (by lia));refine wpS_bind (aX (by lia) ?_)
         by_cases e3:nb-1=1
         ·first|refine bF (by simpa using e3) ?_|rw[if_pos (by simpa using e3)]
          exact wpS_pure ⟨⟨sg.k,sg.a,sg.p,sg.f⟩,.inl ⟨_,_,rfl,m2.firstB u1 (by lia) e3 hf⟩⟩
         ·first|refine bE (by simpa using e3) ?_|rw[if_neg (by simpa using e3)]
          refine wpS_bind (aX (by lia) (wpS_bind (eF hA (sg.k.trans hk) (ha _ (by lia)) (fun i hi=>hb _ (by lia)) (by lia) (by lia) (fun i j hij hj z=>iE.mpr (KeyOrd.klt_of_kle_of_klt (jV ub m.sb (by lia) (by lia)) (iE.mp z))) fun c' hc' hlt' hge'=>?_)));simp only[Nat.zero_add]at hlt' hge';dsimp only
          by_cases k0':nb-1-c' > 0
          all_goals first
           |
            rw[if_pos k0'];have m3:=m2.chB u1 (by lia) (c:=c') (by lia) fun _ i i1 i2=>qV.mp (hge' i i1 i2)
            by_cases e4:c'=1
            ·first|refine bF (by simpa using e4) ?_|rw[if_pos (by simpa using e4)]
             exact wpS_pure ⟨⟨sg.k,sg.a,sg.p,sg.f⟩,.inl ⟨_,_,rfl,m3.firstB u1 (by lia) e4 hf⟩⟩
            first|refine bE (by simpa using e4) ?_|rw[if_neg (by simpa using e4)]
            by_cases e5:c'=0
            ·first|refine bF (by simpa using e5) ?_|rw[if_pos (by simpa using e5)]
             exact wpS_pure ⟨⟨sg.k,sg.a,sg.p,sg.f⟩,.inl ⟨_,_,rfl,m3.done u1 (by lia) (.inr e5)⟩⟩
            first|refine bE (by simpa using e5) ?_|rw[if_neg (by simpa using e5)]
            have l3:1<c':=by lia
            have u3:c'<=b.size:=by lia
           |
            rw[if_neg k0'];obtain rfl:c'=nb-1:=by lia
            have m3:=m2;have l3:1<nb-1:=by lia
            have u3:nb-1<=b.size:=by lia
          all_goals
           have m4:=m3.puA l1 u1 u3 fun z=>KeyOrd.kle_of_klt (iE.mp (hlt' _ (by lia)));refine wpS_bind (aX (by lia) ?_)
           split
           ·rename_i e5;exact wpS_pure ⟨⟨sg.k,sg.a,sg.p,sg.f⟩,.inl ⟨_,_,rfl,m4.done (by lia) u3 (.inl (by simpa using e5))⟩⟩
           ·rename_i e5;simp only[beq_iff_eq]at e5
            split
            ·exact wpS_pure ⟨⟨sg.k,sg.a,sg.p,sg.f⟩,.inr ⟨_,_,_,_,_,_,rfl,m4,by lia,by lia,l3,u3,by lia⟩⟩
            ·exact wpS_pure ⟨⟨sg.k,sg.a,sg.p,sg.f⟩,_,_,_,_,_,_,rfl,m4,by lia,by lia,l3,u3,by lia⟩
      ·intro c st2 hI';refine bI fun _ bk=>?_;obtain⟨sg,out,na,nb,mg,ac,bc,rfl,m,la,ua,lb,ub,pr⟩:=hI';refine bk ?_;clear bk;exact⟨sg,.inr ⟨_,_,_,_,_,_,rfl,m,la,ua,lb,ub,by lia⟩⟩
      ·rintro c st2 ⟨sg,⟨r,c',rfl,fl⟩|⟨out,na,nb,mg,ac,bc,rfl,m,la,ua,lb,ub,pr⟩⟩
       ·exact wpS_pure ⟨sg,r,_,rfl,fl⟩
       ·dsimp only;refine wpS_bind (wpS_modify (wpS_pure ⟨⟨sg.k,sg.a,sg.p,sg.f⟩,_,_,_,_,rfl,m,la,ua,lb,ub,by lia⟩))
   ·intro c st1 hI';refine bI fun _ bk=>?_;obtain⟨sg,out,na,nb,g,rfl,m,la,ua,lb,ub,pr⟩:=hI';refine bk ?_;clear bk
    lia
   ·intro c st1 hI';refine bI fun _ bk=>?_;obtain⟨sg,r,c',rfl,fl⟩:=hI';refine bk ?_;clear bk;exact wpS_pure (h r _ sg fl)
end
theorem yU{M:Model}{A:Around}{E:Value->Shared->Prop}{s:Shared}{σ:Type}{v:σ}{Q:PUnit->σ->Prop}{st:σ}(h:Q ⟨⟩ v):wpS M A E s (set v:StateT σ Sem PUnit) Q st:=by
 unfold wpS;rw[StateT.run_set];exact wpAny_pure ⟨rfl,h⟩
abbrev cQ(base:Nat) (l:List (Keyed×Nat)) (arr:Array Keyed):Array Keyed:=l.foldl (fun a x=>match x with|(p,j)=>a.setIfInBounds (base+j) p) arr
theorem gN{base:Nat}:∀{l:List Keyed}{n0:Nat}{arr:Array Keyed},base+n0+l.length<=arr.size->(cQ base (l.zipIdx n0) arr).size=arr.size/\∀i,(cQ base (l.zipIdx n0) arr)[i]?=if base+n0<=i/\i<base+n0+l.length then l[i-(base+n0)]? else arr[i]?
 |[],n0,arr,_=>⟨rfl,fun i=>by rw[if_neg (by simp)];rfl⟩
 |p::l,n0,arr,h=>by
  rw[List.length_cons]at h;obtain⟨h1,h2⟩:=gN (base:=base) (l:=l) (n0:=n0+1) (arr:=arr.setIfInBounds (base+n0) p) (by simp;lia);refine⟨by rw[List.zipIdx_cons];simpa using h1,fun i=>?_⟩;rw[List.zipIdx_cons];refine(h2 i).trans ?_;rw[List.length_cons,Array.getElem?_setIfInBounds]
  by_cases a:i=base+n0
  ·subst a;rw[if_neg (by lia),if_pos rfl,if_pos (by lia),if_pos (by lia)];simp
  ·by_cases b:base+(n0+1)<=i/\i<base+(n0+1)+l.length
   ·rw[if_pos b,if_pos (by lia)];obtain⟨m,hm⟩:∃m,i-(base+n0)=m+1:=⟨i-(base+n0)-1,by lia⟩;rw[hm,List.getElem?_cons_succ,show i-(base+(n0+1))=m by lia]
   ·rw[if_neg b,if_neg (fun z=>a z.symm),if_neg (by lia)]
theorem qi{p:Nat}{l:List Keyed}{arr:Array Keyed}(h:p+l.length<=arr.size):(cQ p l.zipIdx arr).toList=arr.toList.take p++(l++arr.toList.drop (p+l.length)):=by
 obtain⟨h1,h2⟩:=gN (base:=p) (l:=l) (n0:=0) (arr:=arr) (by lia);have lt:(arr.toList.take p).length=p:=by rw[List.length_take,Array.length_toList];lia
 apply List.ext_getElem?;intro i;rw[Array.getElem?_toList,h2 i,Nat.add_zero,List.getElem?_append,List.getElem?_append,lt]
 by_cases a:i<p
 ·rw[if_neg (by lia),if_pos a,List.getElem?_take_of_lt a,Array.getElem?_toList]
 ·rw[if_neg a]
  by_cases b:i<p+l.length
  ·rw[if_pos (by lia),if_pos (by lia)]
  ·rw[if_neg (by lia),if_neg (by lia),List.getElem?_drop,Array.getElem?_toList];congr 1;lia
section
variable{prog:Program}{w:World}{A:Around}{E:Value->Shared->Prop}{s:Shared}{O:KeyOrd}{key:Keyed->O.α}{a0:List Keyed}{κ:SortKind}
theorem nQ{arr:Array Keyed}{i j k:Nat}(h:i+k<j) (hj:j<=arr.size):gA (arr.extract i j) k=gA arr (i+k):=by
 refine oW ?_;rw[Array.getElem?_extract,if_pos (by lia)]
theorem AE{arr:Array Keyed}{i j:Nat}(hj:j<=arr.size) (h:Up key arr i j):(arr.extract i j).toList.Pairwise (kl key):=by
 rw[List.pairwise_iff_getElem];intro x y hx hy hxy;simp only[Array.length_toList,Array.size_extract]at hx hy;have e1:=bX (a:=arr.extract i j) (i:=x) (by simp;lia);have e2:=bX (a:=arr.extract i j) (i:=y) (by simp;lia);rw[List.getElem?_eq_getElem (by simp;lia)]at e1 e2;rw[Option.some.inj e1,Option.some.inj e2,nQ (by lia) hj,nQ (by lia) hj];exact h _ _ (by lia) (by lia) (by lia)
theorem DO{st:SortSt}{i sa na pw sb nb pw2:Nat}{Q:Bool->SortSt->Prop}(hA:gC prog w A s κ key a0) (hB:SB a0 κ st) (h1:(pendingOf st)[i]?=some (sa,na,pw)) (h2:(pendingOf st)[i+1]?=some (sb,nb,pw2)) (e:sb=sa+na) (pa:1<=na) (pb:1<=nb) (hz:sb+nb<=a0.length)
  (ua:Up key (arrOf st) sa sb) (ub:Up key (arrOf st) sb (sb+nb))
  (h:∀st',SB a0 κ st'->pendingOf st'=((pendingOf st).setIfInBounds i (sa,na+nb,pw)).eraseIdxIfInBounds (i+1)->Up key (arrOf st') sa (sb+nb)->Out sa (sb+nb) (arrOf st) (arrOf st')->Q true st'):wpS (model prog w) A E s (mergeAt' i) Q st:=by
 have sz:=hB.size;show wpS _ _ _ _ (Bind.bind _ _) _ _;refine wpS_bind (wpS_get ?_);dsimp only;rw[show(sortPriv% PySem.Builtin.SortState.pending) st=pendingOf st from rfl,h1,h2];dsimp only;refine wpS_bind (yU ?_);have join:(∀i j,sa<=i->i<sb->sb<=j->j<sb+nb->O.kle (kA key (arrOf st) i) (kA key (arrOf st) j))->Up key (arrOf st) sa (sb+nb):=fun q x y h0 hxy hy=>by
  rcases Nat.lt_or_ge y sb with h3|h3
  ·exact ua x y h0 hxy h3
  ·rcases Nat.lt_or_ge x sb with h4|h4
   ·exact q x y h0 h4 h3 hy
   ·exact ub x y h4 hxy hy
 refine wpS_bind (aX (by show sb<(arrOf st).size;lia) (wpS_bind (eF hA hB.kind (hB.mem (by lia)) (fun j hj=>hB.mem (by lia)) (by show sa+na<=(arrOf st).size;lia) (by lia) (fun x y hxy hy z=>iH.mpr (KeyOrd.kle_trans (ua (sa+x) (sa+y) (by lia) (by lia) (by lia)) (iH.mp z))) fun k hk hlt hge=>?_)));have lo:∀x,sa<=x->x<sa+k->kl key (gA (arrOf st) x) (gA (arrOf st) sb):=fun x x1 x2=>by
  have:=iH.mp (hlt (x-sa) (by lia))
  rwa [show sa+(x-sa)=x by lia]at this
 have up:∀x,sa+k<=x->x<sb->kl key (gA (arrOf st) sb) (gA (arrOf st) x):=fun x x1 x2=>by
  have:=qE.mp (hge (x-sa) (by lia) (by lia));rw[show sa+(x-sa)=x by lia]at this;exact iA this
 clear hlt hge;dsimp only
 by_cases e1:na-k=0
 ·first|refine bF (by simpa using e1) ?_|rw[if_pos (by simpa using e1)]
  exact wpS_pure (h _ ⟨hB.perm,hB.kind,hB.fail⟩ rfl (join fun x y a b c d=>KeyOrd.kle_trans (lo x a (by lia)) (ub sb y (Nat.le_refl _) c d)) Out.refl)
 ·first|refine bE (by simpa using e1) ?_|rw[if_neg (by simpa using e1)]
  have el:sa+k+(na-k)-1=sb-1:=by lia
  rw[el];refine wpS_bind (aX (by show sb-1<(arrOf st).size;lia) (wpS_bind (eF hA hB.kind (hB.mem (by lia)) (fun j hj=>hB.mem (by lia)) (by show sb+nb<=(arrOf st).size;lia) (by lia) (fun x y hxy hy z=>iE.mpr (KeyOrd.klt_of_kle_of_klt (ub (sb+x) (sb+y) (by lia) (by lia) (by lia)) (iE.mp z))) fun m hm hlt hge=>?_)));have lo2:∀x,sb<=x->x<sb+m->kl key (gA (arrOf st) x) (gA (arrOf st) (sb-1)):=fun x x1 x2=>by
   have:=iE.mp (hlt (x-sb) (by lia));rw[show sb+(x-sb)=x by lia]at this;exact KeyOrd.kle_of_klt this
  have up2:∀x,sb+m<=x->x<sb+nb->kl key (gA (arrOf st) (sb-1)) (gA (arrOf st) x):=fun x x1 x2=>by
   have:=qV.mp (hge (x-sb) (by lia) (by lia))
   rwa [show sb+(x-sb)=x by lia]at this
  clear hlt hge;dsimp only
  by_cases e2:m=0
  ·first|refine bF (by simpa using e2) ?_|rw[if_pos (by simpa using e2)]
   exact wpS_pure (h _ ⟨hB.perm,hB.kind,hB.fail⟩ rfl (join fun x y a b c d=>KeyOrd.kle_trans (ua x (sb-1) a (by lia) (by lia)) (up2 y (by lia) d)) Out.refl)
  ·first|refine bE (by simpa using e2) ?_|rw[if_neg (by simpa using e2)]
   have zx:((arrOf st).extract (sa+k) sb).size=sb-(sa+k):=by simp;lia
   have zy:((arrOf st).extract sb (sb+m)).size=m:=by simp;lia
   have px:=AE (i:=sa+k) (j:=sb) (by lia) (fun x y a b c=>ua x y (by lia) b c:Up key (arrOf st) (sa+k) sb);have py:=AE (i:=sb) (j:=sb+m) (by lia) (fun x y a b c=>ub x y a b (by lia):Up key (arrOf st) sb (sb+m));have gx:∀j,j<sb-(sa+k)->gA ((arrOf st).extract (sa+k) sb) j=gA (arrOf st) (sa+k+j):=fun j hj=>nQ (by lia) (by lia);have gy:∀j,j<m->gA ((arrOf st).extract sb (sb+m)) j=gA (arrOf st) (sb+j):=fun j hj=>nQ (by lia) (by lia);have mx:∀z∈((arrOf st).extract (sa+k) sb).toList,∃x,sa+k<=x/\x<sb/\z=gA (arrOf st) x:=fun z hz'=>eI (by lia) hz';have my:∀z∈((arrOf st).extract sb (sb+m)).toList,∃x,sb<=x/\x<sb+m/\z=gA (arrOf st) x:=fun z hz'=>eI (by lia) hz';have seg:((arrOf st).extract (sa+k) sb).toList++((arrOf st).extract sb (sb+m)).toList=((arrOf st).toList.drop (sa+k)).take (sb+m-(sa+k)):=by
    have d1:=fX (a:=arrOf st) (i:=sa+k) (k:=sb-(sa+k)) (by lia);have d2:=fX (a:=arrOf st) (i:=sb) (k:=m) (by lia);rw[show sa+k+(sb-(sa+k))=sb by lia]at d1;rw[d1,d2,<-List.append_assoc,List.take_append_of_le_length (by simp;lia),List.take_of_length_le (by simp;lia)]
   have fin:∀r st',Sg (SortSt.mk' (kindOf st) (arrOf st) (((pendingOf st).setIfInBounds i (sa,na+nb,pw)).eraseIdxIfInBounds (i+1)) (gallopOf st) (failedOf st)) st'->FL key ((arrOf st).extract (sa+k) sb) ((arrOf st).extract sb (sb+m)) r ->
     Q true (setArr st' (cQ (sa+k) r.toList.zipIdx (arrOf st'))):=fun r st' sg fl=>by
    have ea:arrOf st'=arrOf st:=sg.a;have lr:r.toList.length=sb+m-(sa+k):=by
     rw[fl.1.length_eq,List.length_append,Array.length_toList,Array.length_toList,zx,zy];lia
    have pl:=qi (p:=sa+k) (l:=r.toList) (arr:=arrOf st) (by lia);obtain⟨ps,pg⟩:=gN (base:=sa+k) (l:=r.toList) (n0:=0) (arr:=arrOf st) (by lia);have hi:∀x,sa+k<=x->x<sb+m->∃z,(cQ (sa+k) r.toList.zipIdx (arrOf st))[x]?=some z/\r.toList[x-(sa+k)]?=some z/\(z∈((arrOf st).extract (sa+k) sb).toList∨z∈((arrOf st).extract sb (sb+m)).toList):=fun x x1 x2=>by
     have lt:x-(sa+k)<r.toList.length:=by lia
     refine⟨r.toList[x-(sa+k)],?_,List.getElem?_eq_getElem lt,List.mem_append.mp (fl.1.mem_iff.mp (List.getElem_mem lt))⟩;rw[pg x,if_pos (by lia),Nat.add_zero,List.getElem?_eq_getElem lt]
    have ho:∀x,x<sa+k∨sb+m<=x->(cQ (sa+k) r.toList.zipIdx (arrOf st))[x]?=(arrOf st)[x]?:=fun x hx=>by rw[pg x,if_neg (by lia)]
    have kz:∀{x z},(cQ (sa+k) r.toList.zipIdx (arrOf st))[x]?=some z->kA key (cQ (sa+k) r.toList.zipIdx (arrOf st)) x=key z:=fun q=>by unfold kA gA;rw[q];rfl
    rw[ea];refine h _ ⟨?_,sg.k.trans hB.kind,sg.f.trans hB.fail⟩ sg.p (fun x y h0 hxy hy=>?_) fun x hx=>?_
    ·refine List.Perm.trans ?_ hB.perm;show(cQ (sa+k) r.toList.zipIdx (arrOf st)).toList.Perm _;have dd:(arrOf st).toList=(arrOf st).toList.take (sa+k)++(((arrOf st).toList.drop (sa+k)).take (sb+m-(sa+k))++(arrOf st).toList.drop (sa+k+(sb+m-(sa+k)))):=by
      rw[show(arrOf st).toList.drop (sa+k+(sb+m-(sa+k)))=((arrOf st).toList.drop (sa+k)).drop (sb+m-(sa+k))from(List.drop_drop ..).symm,List.take_append_drop,List.take_append_drop]
     rw[pl,lr];refine List.Perm.trans ?_ (List.Perm.of_eq dd.symm);rw[<-seg];exact(List.Perm.append_left _ (List.Perm.append_right _ fl.1))
    ·show O.kle (kA key (cQ (sa+k) r.toList.zipIdx (arrOf st)) x) (kA key (cQ (sa+k) r.toList.zipIdx (arrOf st)) y);rcases Nat.lt_or_ge x (sa+k)with x1|x1
     ·rw[bp (ho x (.inl x1))];rcases Nat.lt_or_ge y (sa+k)with y1|y1
      ·rw[bp (ho y (.inl y1))];exact ua x y h0 hxy (by lia)
      rcases Nat.lt_or_ge y (sb+m)with y2|y2
      ·obtain⟨z,z1,z2,z3⟩:=hi y y1 y2;rw[kz z1];rcases z3 with z3|z3
       ·obtain⟨t,t1,t2,rfl⟩:=mx z z3;exact ua x t h0 (by lia) t2
       ·obtain⟨t,t1,t2,rfl⟩:=my z z3;exact KeyOrd.kle_trans (lo x h0 x1) (ub sb t (Nat.le_refl _) t1 (by lia))
      ·rw[bp (ho y (.inr y2))];exact KeyOrd.kle_trans (lo x h0 x1) (ub sb y (Nat.le_refl _) (by lia) hy)
     rcases Nat.lt_or_ge x (sb+m)with x2|x2
     ·obtain⟨z,z1,z2,z3⟩:=hi x x1 x2;rcases Nat.lt_or_ge y (sb+m)with y2|y2
      ·obtain⟨u,u1,u2,u3⟩:=hi y (by lia) y2;rw[kz z1,kz u1];rcases Nat.lt_or_ge x y with q|q
       ·have:=List.pairwise_iff_getElem.mp fl.2 (x-(sa+k)) (y-(sa+k)) (by lia) (by lia) (by lia);rw[List.getElem?_eq_getElem (by lia)]at z2 u2
        rwa [Option.some.inj z2,Option.some.inj u2]at this
       ·obtain rfl:x=y:=by lia
        rw[z1]at u1;cases u1;exact KeyOrd.kle_refl _
      ·rw[kz z1,bp (ho y (.inr y2))];rcases z3 with z3|z3
       ·obtain⟨t,t1,t2,rfl⟩:=mx z z3;exact KeyOrd.kle_trans (ua t (sb-1) (by lia) (by lia) (by lia)) (up2 y y2 hy)
       ·obtain⟨t,t1,t2,rfl⟩:=my z z3;exact ub t y t1 (by lia) hy
     ·rw[bp (ho x (.inr x2)),bp (ho y (.inr (by lia)))];exact ub x y (by lia) hxy hy
    ·exact ho x (by lia)
   have last:∀(r:Array Keyed) (st':SortSt),Sg (SortSt.mk' (kindOf st) (arrOf st) (((pendingOf st).setIfInBounds i (sa,na+nb,pw)).eraseIdxIfInBounds (i+1)) (gallopOf st) (failedOf st)) st'->failedOf st'=none:=fun r st' sg=>sg.f.trans hB.fail
   by_cases e3:na-k<=m
   all_goals first|rw[if_pos e3]|rw[if_neg e3]
   all_goals refine wpS_bind ?_
   ·refine EV (a:=(arrOf st).extract (sa+k) sb) (b:=(arrOf st).extract sb (sb+m)) hA hB.kind (fun j hj=>by rw[zx]at hj;rw[gx j hj];exact hB.mem (by lia)) (fun j hj=>by rw[zy]at hj;rw[gy j hj];exact hB.mem (by lia)) (by lia) (by lia) ⟨by simp,List.Pairwise.nil,by simp,by simp,by simpa using px,by simpa using py⟩ ?_ (fun j hj=>?_) fun r st' sg fl=>?_
    ·rw[gx 0 (by lia),gy 0 (by lia)];exact up _ (by lia) (by lia)
    ·rw[zy]at hj;rw[zx,gx _ (by lia),gy j hj];have:=lo2 (sb+j) (by lia) (by lia)
     rwa [show sa+k+(sb-(sa+k)-1)=sb-1 by lia]
    ·refine wpS_bind (wpS_modify (wpS_bind (wpS_get (wpS_pure ?_))));have:=fin r st' sg fl;rw[show(failedOf (setArr st' (cQ (sa+k) r.toList.zipIdx (arrOf st')))).isNone=true by rw[show failedOf (setArr st' _)=failedOf st' from rfl,last r st' sg];rfl];exact this
   ·refine Eb (a:=(arrOf st).extract (sa+k) sb) (b:=(arrOf st).extract sb (sb+m)) hA hB.kind (fun j hj=>by rw[zx]at hj;rw[gx j hj];exact hB.mem (by lia)) (fun j hj=>by rw[zy]at hj;rw[gy j hj];exact hB.mem (by lia)) (by lia) (by lia) ⟨?_,List.Pairwise.nil,by simp,by simp,?_,?_⟩ (fun j hj=>?_) ?_ fun r st' sg fl=>?_
    ·rw[List.take_of_length_le (Nat.le_of_eq Array.length_toList),List.take_of_length_le (Nat.le_of_eq Array.length_toList)];exact(List.reverse_perm _).append (List.reverse_perm _)
    ·rw[List.take_of_length_le (Nat.le_of_eq Array.length_toList)];exact List.pairwise_reverse.mpr px
    ·rw[List.take_of_length_le (Nat.le_of_eq Array.length_toList)];exact List.pairwise_reverse.mpr py
    ·rw[zx]at hj;rw[gx j hj,gy 0 (by lia)];exact up _ (by lia) (by lia)
    ·rw[zx,zy,gx _ (by lia),gy _ (by lia)];have:=lo2 (sb+(m-1)) (by lia) (by lia)
     rwa [show sa+k+(sb-(sa+k)-1)=sb-1 by lia]
    ·refine wpS_bind (wpS_modify (wpS_bind (wpS_get (wpS_pure ?_))));have:=fin r st' sg fl;rw[show(failedOf (setArr st' (cQ (sa+k) r.toList.zipIdx (arrOf st')))).isNone=true by rw[show failedOf (setArr st' _)=failedOf st' from rfl,last r st' sg];rfl];exact this
end
section
variable{prog:Program}{w:World}{A:Around}{E:Value->Shared->Prop}{s:Shared}{O:KeyOrd}{key:Keyed->O.α}{a0:List Keyed}{κ:SortKind}
def Stk(key:Keyed->O.α) (xs:Array Keyed):Nat->List (Nat×Nat×Nat)->Nat->Prop
 |b,[],e=>b=e
 |b,p::aK,e=>p.1=b/\1<=p.2.1/\Up key xs b (b+p.2.1)/\Stk key xs (b+p.2.1) aK e
theorem Stk.app{xs:Array Keyed}:∀{p q:List (Nat×Nat×Nat)}{b e:Nat},Stk key xs b (p++q) e↔∃m,Stk key xs b p m/\Stk key xs m q e
 |[],q,b,e=>⟨fun h=>⟨b,rfl,h⟩,fun⟨m,h1,h2⟩=>by cases h1;exact h2⟩
 |x::p,q,b,e=>by
  simp only[List.cons_append,Stk,Stk.app (p:=p)];exact⟨fun⟨a,b,c,m,d,e⟩=>⟨m,⟨a,b,c,d⟩,e⟩,fun⟨m,⟨a,b,c,d⟩,e⟩=>⟨a,b,c,m,d,e⟩⟩
theorem Stk.len{xs:Array Keyed}:∀{p:List (Nat×Nat×Nat)}{b e:Nat},Stk key xs b p e->b+p.length<=e
 |[],b,e,h=>by cases h;simp
 |x::p,b,e,h=>by
  have:=h.2.2.2.len;have:=h.2.1;simp only[List.length_cons];lia
theorem Stk.out{xs ys:Array Keyed}{lo hi:Nat}(o:Out lo hi xs ys):∀{p:List (Nat×Nat×Nat)}{b e:Nat},Stk key xs b p e->e<=lo∨hi<=b->Stk key ys b p e
 |[],b,e,h,_=>h
 |x::p,b,e,h,d=>by
  have l:=h.2.2.2.len;exact⟨h.1,h.2.1,h.2.2.1.out o (by lia),h.2.2.2.out o (by lia)⟩
theorem Stk.pw{xs:Array Keyed}{b e:Nat}{p:List (Nat×Nat×Nat)}{x y:Nat×Nat×Nat}(h:Stk key xs b (p++[x]) e) (q:y.1=x.1/\y.2.1=x.2.1):Stk key xs b (p++[y]) e:=by
 rw[Stk.app]at h ⊢;obtain⟨m,h1,h2⟩:=h;refine⟨m,h1,?_⟩;simp only[Stk]at h2 ⊢;rw[q.1,q.2];exact h2
def SRt(key:Keyed->O.α) (a0:List Keyed) (κ:SortKind) (lo:Nat) (st:SortSt):Prop:=SB a0 κ st/\Stk key (arrOf st) 0 (pendingOf st).toList lo/\lo<=a0.length
theorem vP{α:Type}:∀{l:List α}{i:Nat},i+1<l.length->∃p x y q,l=p++x::y::q/\p.length=i
 |x::y::l,0,_=>⟨[],x,y,l,rfl,rfl⟩
 |x::l,i+1,h=>by
  obtain⟨p,a,b,q,e,z⟩:=vP (l:=l) (i:=i) (by simpa using h);exact⟨x::p,a,b,q,by rw[e];rfl,by simp[z]⟩
theorem xk{st:SortSt}{i lo:Nat}{Q:Bool->SortSt->Prop}(hA:gC prog w A s κ key a0) (hS:SRt key a0 κ lo st) (hi:i+1<(pendingOf st).size)
  (h:∀st',SRt key a0 κ lo st'->(pendingOf st').size+1=(pendingOf st).size->Out 0 lo (arrOf st) (arrOf st')->(pendingOf st').size=0∨True->Q true st'):wpS (model prog w) A E s (mergeAt' i) Q st:=by
 obtain⟨hB,hT,hl⟩:=hS;obtain⟨p,x,y,q,e,z⟩:=vP (l:=(pendingOf st).toList) (i:=i) (by simpa using hi);rw[e,Stk.app]at hT;obtain⟨m,t1,t2⟩:=hT;obtain⟨x1,x2,x3,y1,y2,y3,t3⟩:=t2;have l3:=t3.len;obtain⟨sa,na,pw⟩:=x;obtain⟨sb,nb,pw2⟩:=y;dsimp only at x1 x2 x3 y1 y2 y3 t3 l3;subst x1;have g1:(pendingOf st)[i]?=some (sa,na,pw):=by rw[<-Array.getElem?_toList,e,<-z];simp
 have g2:(pendingOf st)[i+1]?=some (sb,nb,pw2):=by rw[<-Array.getElem?_toList,e,<-z];simp
 refine DO hA hB g1 g2 y1 x2 y2 (by lia) (by rw[y1];exact x3) (by rw[y1];exact y3) fun st' hB' hp hu ho=>?_;have ep:(pendingOf st').toList=p++(sa,na+nb,pw)::q:=by
  rw[hp,Array.toList_eraseIdxIfInBounds,Array.toList_setIfInBounds,e,<-z];simp[List.set_append,List.eraseIdx_append];intro z';lia
 have l1:=t1.len;refine h st' ⟨hB',?_,hl⟩ ?_ (fun j hj=>ho j (by lia)) (.inr trivial)
 ·rw[ep,Stk.app];exact⟨sa,t1.out ho (by lia),rfl,by show 1<=na+nb;lia,by show Up key _ sa (sa+(na+nb));rw[<-Nat.add_assoc,<-y1];exact hu,by show Stk key _ (sa+(na+nb)) q lo;rw[<-Nat.add_assoc];exact t3.out ho (by lia)⟩
 ·have a1:=congrArg List.length ep;have a2:=congrArg List.length e;simp only[Array.length_toList,List.length_append,List.length_cons]at a1 a2
  lia
theorem Stk.cong{xs:Array Keyed}:∀{p q:List (Nat×Nat×Nat)}{b e:Nat},p.map (fun x=>(x.1,x.2.1))=q.map (fun x=>(x.1,x.2.1))->Stk key xs b p e->Stk key xs b q e
 |[],[],_,_,_,h=>h
 |x::p,y::q,b,e,z,h=>by
  simp only[List.map_cons,List.cons.injEq,Prod.mk.injEq]at z;simp only[Stk]at h ⊢;rw[<-z.1.1,<-z.1.2];exact⟨h.1,h.2.1,h.2.2.1,h.2.2.2.cong z.2⟩
 |[],_::_,_,_,z,_=>by simp at z
 |_::_,[],_,_,z,_=>by simp at z
theorem zP{p:Array (Nat×Nat×Nat)}{i:Nat}{f:Nat×Nat×Nat->Nat×Nat×Nat}(h:∀x,(f x).1=x.1/\(f x).2.1=x.2.1):p.toList.map (fun x=>(x.1,x.2.1))=(p.modify i f).toList.map (fun x=>(x.1,x.2.1)):=by
 rw[Array.toList_modify];apply List.ext_getElem?;intro j;rw[List.getElem?_map,List.getElem?_map,List.getElem?_modify];cases p.toList[j]? with
 |none=>rfl
 |some x=>by_cases e:i=j<;>simp[e,h]
theorem SRt.push{st:SortSt}{lo n:Nat}(hS:SRt key a0 κ lo st) (h1:1<=n) (h2:lo+n<=a0.length) (hu:Up key (arrOf st) lo (lo+n)):SRt key a0 κ (lo+n) (setPending st ((pendingOf st).push (lo,n,0))):=by
 refine⟨⟨hS.1.perm,hS.1.kind,hS.1.fail⟩,?_,h2⟩;show Stk key (arrOf st) 0 ((pendingOf st).push _).toList _;rw[Array.toList_push,Stk.app];exact⟨lo,hS.2.1,rfl,h1,hu,rfl⟩
theorem C4{c:Prop} [Decidable c] {x y n:Nat}(h1:x+1<n) (h2:y+1<n):(if c then x else y)+1<n:=by split<;>assumption
theorem Cj{st:SortSt}{Q:Unit->SortSt->Prop}(hA:gC prog w A s κ key a0) (hB:SB a0 κ st) (hp:pendingOf st=#[]) (h2:2<=a0.length)
  (h:∀st',SB a0 κ st'->Up key (arrOf st') 0 a0.length->Q () st'):wpS (model prog w) A E s sortRuns' Q st:=by
 rw[sortRuns'_eq];refine wpS_bind (wpS_get ?_);dsimp only;generalize minRun' (arrOf st).size (arrOf st).size 0=mr;rw[hB.size];refine wpS_bind (wpS_mono (wpS_forRange (I:=fun x c st'=>∃lo,c=(none,lo)/\SRt key a0 κ lo st'/\(x<=lo∨lo=a0.length)) (Q:=fun c st'=>c=(none,a0.length)/\SRt key a0 κ a0.length st') ?step ?fin ⟨0,rfl,⟨hB,by rw[hp];rfl,Nat.zero_le _⟩,.inl (Nat.le_refl _)⟩) ?post)
 case fin =>
  intro c st' hI';refine bI fun _ bk=>?_;obtain⟨lo,rfl,hS,q⟩:=hI';refine bk ?_;clear bk;obtain rfl:lo=a0.length:=by have:=hS.2.2;lia
  exact⟨rfl,hS⟩
 case step =>
  intro x c st' _ hx hI';refine bI fun _ bk=>?_;obtain⟨lo,rfl,hS,q⟩:=hI';refine bk ?_;clear bk;dsimp only;have hl:=hS.2.2
  by_cases e:lo>=a0.length
  ·rw[if_pos e];obtain rfl:lo=a0.length:=by lia
   exact wpS_pure ⟨rfl,hS⟩
  ·rw[if_neg e];refine wpS_bind (zI hA hS.1 (nrem:=a0.length-lo) (by lia) (by lia) fun m st2 hB2 hp2 m1 m2 hu2 ho2=>?_);have T2:Stk key (arrOf st2) 0 (pendingOf st2).toList lo:=by rw[hp2];exact hS.2.1.out ho2 (.inl (Nat.le_refl _))
   clear ho2 hp2 hS;dsimp only;have S2:SRt key a0 κ lo st2:=⟨hB2,T2,hl⟩
   by_cases g:m<mr
   all_goals first
    |
     rw[if_pos g];refine wpS_bind (wpS_lift (wpAny_rule ⟨rfl,wpS_bind (Ep hA hB2 (n:=min (a0.length-lo) mr) (by lia) (by lia) hu2 fun st3 hB3 hp3 hu3 ho3=>?_)⟩));simp only[Bool.not_true,Bool.false_eq_true,if_false];have S3:SRt key a0 κ lo st3:=⟨hB3,by rw[hp3];exact T2.out ho3 (.inl (Nat.le_refl _)),hl⟩;have n1:1<=min (a0.length-lo) mr:=by lia
     have n2:lo+min (a0.length-lo) mr<=a0.length:=by lia
     clear ho3 hp3 hB3
    |
     rw[if_neg g];have S3:=S2;have hu3:=hu2;have n1:=m1;have n2:lo+m<=a0.length:=by lia
   all_goals
    clear T2 hB2 hu2 S2;refine wpS_bind (wpS_get ?_)
    split
    ·refine wpS_bind (wpS_mono (wpS_forRange (I:=fun _ c st'=>c=(none,())/\SRt key a0 κ lo st'/\Up key (arrOf st') lo (lo+_)) (Q:=fun c st'=>c=(none,())/\SRt key a0 κ lo st'/\Up key (arrOf st') lo (lo+_)) ?_ (fun _ _ z=>z) ⟨rfl,S3,hu3⟩) ?_)
     ·intro y c st4 _ _ hI';refine bI fun _ bk=>?_;obtain⟨rfl,S4,u4⟩:=hI';refine bk ?_;clear bk;refine wpS_bind (wpS_get ?_)
      by_cases e2:(pendingOf st4).size > 1
      ·rw[if_pos e2,Array.getElem?_eq_getElem (by lia)];dsimp only
       split
       ·exact wpS_pure ⟨rfl,S4,u4⟩
       ·refine wpS_bind (xk hA S4 (by lia) fun st5 S5 _ ho _=>?_);simp only[Bool.not_true,Bool.false_eq_true,if_false];exact wpS_pure ⟨rfl,S5,u4.out ho (.inr (Nat.le_refl _))⟩
      ·rw[if_neg e2];exact wpS_pure ⟨rfl,S4,u4⟩
     ·intro c st4 hI';refine bI fun _ bk=>?_;obtain⟨rfl,S4,u4⟩:=hI';refine bk ?_;clear bk;dsimp only;refine wpS_bind (wpS_modify (wpS_bind (wpS_modify (wpS_pure ⟨_,rfl,SRt.push ⟨⟨S4.1.perm,S4.1.kind,S4.1.fail⟩,S4.2.1.cong (zP fun x=>⟨rfl,rfl⟩),hl⟩ n1 n2 u4,by lia⟩))))
    ·exact wpS_bind (wpS_modify (wpS_pure ⟨_,rfl,S3.push n1 n2 hu3,by lia⟩))
 case post =>
  rintro c st' ⟨rfl,hS⟩;dsimp only;refine wpS_bind (wpS_mono (wpS_forRange (I:=fun x c st'=>c=(none,())/\SRt key a0 κ a0.length st'/\((pendingOf st').size+x<=a0.length∨(pendingOf st').size<=1)) (Q:=fun c st'=>c=(none,())/\SRt key a0 κ a0.length st'/\(pendingOf st').size<=1) ?_ ?_ ⟨rfl,hS,.inl ?_⟩) ?_)
  ·intro x c st2 _ hx hI';refine bI fun _ bk=>?_;obtain⟨rfl,S2,q⟩:=hI';refine bk ?_;clear bk;refine wpS_bind (wpS_get ?_)
   by_cases e:(pendingOf st2).size<=1
   ·rw[if_pos e];exact wpS_pure ⟨rfl,S2,e⟩
   ·rw[if_neg e];refine wpS_bind (xk hA S2 (C4 (by lia) (by lia)) fun st3 S3 z _ _=>?_);simp only[Bool.not_true,Bool.false_eq_true,if_false];exact wpS_pure ⟨rfl,S3,by lia⟩
  ·intro c st2 hI';refine bI fun _ bk=>?_;obtain⟨rfl,S2,q⟩:=hI';refine bk ?_;clear bk;exact⟨rfl,S2,by lia⟩
  ·have:=hS.2.1.len;rw[Array.length_toList]at this
   lia
  ·intro c st2 hI';refine bI fun _ bk=>?_;obtain⟨rfl,S2,q⟩:=hI';refine bk ?_;clear bk;refine wpS_pure (h st2 S2.1 ?_);have T:=S2.2.1;have l:(pendingOf st2).toList.length<=1:=by rw[Array.length_toList];exact q
   match e:(pendingOf st2).toList,l with
   |[],_=>rw[e]at T;have:0=a0.length:=T;lia
   |[x],_ =>
    rw[e]at T;obtain⟨_,_,t3,t4⟩:=T;have t5:0+x.2.1=a0.length:=t4;rw[t5]at t3;exact t3
end
end L2
namespace L2
open PySem PySem.SetTable
theorem iF{α:Type}(xs:Array α) (p:Nat) (x:α):(insertAt xs p x).toList=xs.toList.take p++x::xs.toList.drop p:=by
 unfold insertAt;rw[Array.toList_append,Array.toList_push,Array.toList_extract,Array.toList_extract,List.extract_eq_take_drop,List.extract_eq_take_drop];rw[List.drop_zero,Nat.sub_zero,List.take_of_length_le (l:=xs.toList.drop p) (by simp)];simp
theorem gh{xs:Array Nat}{i d:Nat}:xs.getD i d=xs.toList[i]?.getD d:=by
 rw[Array.getElem?_toList]
 by_cases h:i<xs.size
 ·simp[Array.getD,h]
 ·simp[Array.getD,h]
theorem qt{xs:Array Nat}{p x:Nat}(hp:p<=xs.size) (i:Nat):(insertAt xs p x).getD i 0=if i<p then xs.getD i 0 else if i=p then x else xs.getD (i-1) 0:=by
 have hl:(xs.toList.take p).length=p:=by simp;lia
 rw[gh,iF,List.getElem?_append,hl]
 by_cases a:i<p
 ·rw[if_pos a,if_pos a,List.getElem?_take_of_lt a,gh]
 ·rw[if_neg a,if_neg a]
  by_cases b:i=p
  ·rw[if_pos b,b];simp
  ·rw[if_neg b];obtain⟨m,hm⟩:∃m,i-p=m+1:=⟨i-p-1,by lia⟩;rw[hm,List.getElem?_cons_succ,List.getElem?_drop,gh];congr 2;lia
theorem fN{α:Type}(xs:Array α) (p:Nat) (x:α) (hp:p<=xs.size):(insertAt xs p x).size=xs.size+1:=by
 rw[<-Array.length_toList,iF];simp;lia
theorem sy{xs:Array Nat}{p x:Nat}(hp:p<=xs.size) {j:Nat}(h:Occ xs j):Occ (insertAt xs p x) j:=by
 obtain⟨i,hi,e⟩:=h
 by_cases a:i<p
 ·exact⟨i,by rw[fN _ _ _ hp];lia,by rw[qt hp,if_pos a];exact e⟩
 ·exact⟨i+1,by rw[fN _ _ _ hp];lia,by rw[qt hp,if_neg (by lia),if_neg (by lia)];exact e⟩
theorem TB.put{t:SetTable}{hs:List Int}(T:TB t hs) {h:Int}{n:Nat}(f0:¬ Occ t.place (pth t.mask h n).j) (f1:∀m,m<n->Occ t.place (pth t.mask h m).j) (few:t.place.size+1<=t.mask) :
  ∃p,p<=hs.length/\(t.put (pth t.mask h n).j).2=p/\TB (t.put (pth t.mask h n).j).1 (hs.take p++h::hs.drop p)/\(t.put (pth t.mask h n).j).1.led=t.led/\(t.put (pth t.mask h n).j).1.plain=t.plain/\(t.put (pth t.mask h n).j).1.mask=t.mask/\(t.put (pth t.mask h n).j).1.place.size=t.place.size+1:=by
 generalize hj:(pth t.mask h n).j=j at *
 have hjm:j<=t.mask:=by rw[<-hj];exact rG n
 obtain⟨b1,b2,b3⟩:=lC T.up j;have sz:=T.sz;have hd:has t.dummies j=false:=by rw[T.dm];rfl
 have e:t.put j=({ t with place:=insertAt t.place (below t.place j) j,dummies:=t.dummies },below t.place j):=by unfold SetTable.put;rw[hd];rfl
 rw[e];dsimp only;generalize hp:below t.place j=p at *
 have b3':∀i,p<=i->i<t.place.size->j<t.place.getD i 0:=fun i h1 h2=>by
  have:=b3 i h1 h2;rcases Nat.lt_or_ge j (t.place.getD i 0)with q|q
  ·exact q
  ·exact absurd ⟨i,h2,by lia⟩ f0
 have isz:=fN t.place p j b1;refine⟨p,by lia,rfl,⟨?_,?_,?_,T.dm,T.pw,by rw[isz];exact few,?_⟩,rfl,rfl,rfl,isz⟩
 ·show(insertAt t.place p j).size=_;rw[isz,List.length_append,List.length_take,List.length_cons,List.length_drop];lia
 ·intro i k hik hk;have hk':k<t.place.size+1:=by rw[<-isz];exact hk
  show(insertAt t.place p j).getD i 0<(insertAt t.place p j).getD k 0;rw[qt b1,qt b1]
  by_cases c1:i<p
  ·rw[if_pos c1]
   by_cases c2:k<p
   ·rw[if_pos c2];exact T.up i k hik (by lia)
   ·rw[if_neg c2]
    by_cases c3:k=p
    ·rw[if_pos c3];exact b2 i c1
    ·rw[if_neg c3];exact T.up i (k-1) (by lia) (by lia)
  ·rw[if_neg c1,if_neg (show ¬ k<p by lia),if_neg (show ¬ k=p by lia)]
   by_cases c3:i=p
   ·rw[if_pos c3];exact b3' _ (by lia) (by lia)
   ·rw[if_neg c3];exact T.up (i-1) (k-1) (by lia) (by lia)
 ·intro i hi;have hi':i<t.place.size+1:=by rw[<-isz];exact hi
  show(insertAt t.place p j).getD i 0<=t.mask;rw[qt b1]
  by_cases c1:i<p
  ·rw[if_pos c1];exact T.le i (by lia)
  ·rw[if_neg c1]
   by_cases c3:i=p
   ·rw[if_pos c3];exact hjm
   ·rw[if_neg c3];exact T.le _ (by lia)
 ·intro i g hg;have hl:(hs.take p).length=p:=by simp;lia
  have old:∀i',hs[i']?=some g->(insertAt t.place p j).getD i 0=t.place.getD i' 0->∃n,(pth t.mask g n).j=(insertAt t.place p j).getD i 0/\∀m,m<n->Occ (insertAt t.place p j) (pth t.mask g m).j:=fun i' h1 h2=>by
   obtain⟨n',a,b⟩:=T.pr i' g h1;exact⟨n',by rw[a,h2],fun m hm=>sy b1 (b m hm)⟩
  rw[List.getElem?_append,hl]at hg
  by_cases c1:i<p
  ·rw[if_pos c1,List.getElem?_take_of_lt c1]at hg;exact old i hg (by rw[qt b1,if_pos c1])
  ·rw[if_neg c1]at hg
   by_cases c3:i=p
   ·rw[c3,Nat.sub_self,List.getElem?_cons_zero]at hg;cases hg;exact⟨n,by show _=(insertAt t.place p j).getD i 0;rw[qt b1,if_neg c1,if_pos c3];exact hj,fun m hm=>sy b1 (f1 m hm)⟩
   ·obtain⟨m,hm⟩:∃m,i-p=m+1:=⟨i-p-1,by lia⟩;rw[hm,List.getElem?_cons_succ,List.getElem?_drop]at hg;exact old _ hg (by rw[qt b1,if_neg c1,if_neg c3];congr 1;lia)
variable{mask:Nat}{h:Int}
abbrev Ow:=Array (Option Nat)
def ocO(ow:Ow) (j:Nat):Prop:=ow.getD j (some 0)≠none
theorem rT{ow:Ow}(hs:ow.size=mask+1) {M:Nat}(hM:ow.getD (rs mask h M).1 (some 0)=none):∀F m n,m<=M->M-m<F->pth mask h n=atR mask (rs mask h m)->(∀l,l<n->ocO ow (pth mask h l).j) ->
  ∃n',layClean.free mask ow F (rs mask h m).1 (rs mask h m).2=some (pth mask h n').j/\ow.getD (pth mask h n').j (some 0)=none/\∀l,l<n'->ocO ow (pth mask h l).j
 |0,m,n,h1,h2,_,_=>by lia
 |F+1,m,n,h1,h2,e,oc=>by
  have lt:=Av (mask:=mask) (h:=h) m;have len:runEnd mask (rs mask h m).1+1-(rs mask h m).1=runEnd mask (rs mask h m).1-(rs mask h m).1+1:=by
   have:(rs mask h m).1<=runEnd mask (rs mask h m).1:=by unfold runEnd;split<;>lia
   lia
  have jq:∀q,q<=runEnd mask (rs mask h m).1-(rs mask h m).1->(pth mask h (n+q)).j=(rs mask h m).1+q:=fun q hq=>by rw[nV e q hq]
  unfold layClean.free;rw[len];cases c:(List.range (runEnd mask (rs mask h m).1-(rs mask h m).1+1)).find? fun k=>(ow.getD ((rs mask h m).1+k) (some 0)).isNone with
  |some k =>
   dsimp only;have hk:=List.mem_range.mp (List.mem_of_find?_eq_some c);have hn:=List.find?_some c;refine⟨n+k,by rw[jq k (by lia)],by rw[jq k (by lia)];simpa using hn,fun l hl=>?_⟩;rcases Nat.lt_or_ge l n with a|a
   ·exact oc l a
   ·obtain⟨q,rfl⟩:∃q,l=n+q:=⟨l-n,by lia⟩;unfold ocO;rw[jq q (by lia)];intro z;obtain⟨as,bs,e1,e2⟩:=(List.find?_eq_some_iff_append.mp c).2;have:q∈as:=by
     have hq:q∈List.range (runEnd mask (rs mask h m).1-(rs mask h m).1+1):=List.mem_range.mpr (by lia);have srt:(as++k::bs).Pairwise (·<·):=by rw[<-e1];exact List.pairwise_lt_range
     rw[e1]at hq;rcases List.mem_append.mp hq with r|r
     ·exact r
     ·rw[List.pairwise_append]at srt;rcases List.mem_cons.mp r with r|r
      ·lia
      ·have:=(List.pairwise_cons.mp srt.2.1).1 q r;lia
    have:=e2 q this;rw[z]at this;simp at this
  |none =>
   dsimp only;have all:=List.find?_eq_none.mp c;have ne:m≠M:=fun z=>by
    subst z;have:=all 0 (List.mem_range.mpr (by lia));rw[Nat.add_zero,hM]at this;simp at this
   show ∃n',layClean.free mask ow F (rs mask h (m+1)).1 (rs mask h (m+1)).2=_/\_;refine rT hs hM F (m+1) (n+(runEnd mask (rs mask h m).1-(rs mask h m).1)+1) (by lia) (by lia) ?_ fun l hl=>?_
   ·show pA mask (pth mask h (n+_))=_;rw[nV e _ (Nat.le_refl _)];unfold pA;rw[if_neg (by simp)];rfl
   ·rcases Nat.lt_or_ge l n with a|a
    ·exact oc l a
    ·obtain⟨q,rfl⟩:∃q,l=n+q:=⟨l-n,by lia⟩;unfold ocO;rw[jq q (by lia)];intro z;have:=all q (List.mem_range.mpr (by lia));rw[z]at this;simp at this
def lv(mask:Nat) (ow:Ow):List (Nat×Nat):=(List.range (mask+1)).filterMap fun j=>(ow.getD j none).map (j,·)
theorem qM{ow:Ow}{j:Nat}(hj:j<ow.size) (a b:Option Nat):ow.getD j a=ow.getD j b:=by simp[Array.getD,hj]
theorem CW{ow:Ow}(hs:ow.size=mask+1) {s k:Nat}(hl:s<=mask) (hn:ow.getD s none=none):(lv mask (ow.setIfInBounds s (some k))).Perm ((s,k)::lv mask ow):=by
 unfold lv;have sp:List.range (mask+1)=List.range s++s::(List.range' (s+1) (mask-s)):=by
  rw[List.range_eq_range',List.range_eq_range',show mask+1=s+(1+(mask-s))by lia,<-List.range'_append_1,<-List.range'_append_1];simp[Nat.add_comm]
 have same:∀l:List Nat,s∉l->(l.filterMap fun j=>((ow.setIfInBounds s (some k)).getD j none).map (j,·))=l.filterMap fun j=>(ow.getD j none).map (j,·):=fun l hl=>by
  induction l with
  |nil=>rfl
  |cons j l ih =>
   have this:s≠j:=fun z=>hl (z▸.head _);rw[List.filterMap_cons,List.filterMap_cons,ih fun z=>hl (.tail _ z)];simp only[Array.getD_eq_getD_getElem?,Array.getElem?_setIfInBounds,if_neg this]
 rw[sp,List.filterMap_append,List.filterMap_append,List.filterMap_cons,List.filterMap_cons,hn,same _ (by simp),same _ (fun z=>by obtain⟨x,_,z⟩:=List.mem_range'.mp z;lia)];have:(ow.setIfInBounds s (some k)).getD s none=some k:=by simp[Array.getD_eq_getD_getElem?,show s<ow.size by lia]
 rw[this];simp only[Option.map_some,Option.map_none];exact List.perm_middle
structure LC(mask:Nat) (hs:List Int) (ow:Ow) (k:Nat):Prop where
 sz:ow.size=mask+1
 perm:((lv mask ow).map (·.2)).Perm (List.range k)
 pr:∀j i h,ow.getD j none=some i->hs[i]?=some h->∃n,(pth mask h n).j=j/\∀m,m<n->ocO ow (pth mask h m).j
theorem A8{ow:Ow}(hs:ow.size=mask+1) {j i:Nat}(e:ow.getD j none=some i):(j,i)∈lv mask ow:=by
 have hj:j<ow.size:=by
  rcases Nat.lt_or_ge j ow.size with q|q
  ·exact q
  ·simp[Array.getD,show ¬ j<ow.size by lia]at e
 exact List.mem_filterMap.mpr ⟨j,List.mem_range.mpr (by lia),by rw[e];rfl⟩
theorem xT{ow:Ow}(hs:ow.size=mask+1) (few:(lv mask ow).length<=mask):∃j,j<=mask/\ow.getD j none=none:=by
 refine Classical.byContradiction fun c=>?_;have all:∀j∈List.range (mask+1),∃i,ow.getD j none=some i:=fun j hj=>by
  cases q:ow.getD j none with
  |none=>exact absurd ⟨j,by have:=List.mem_range.mp hj;lia,q⟩ c
  |some i=>exact⟨i,rfl⟩
 have:∀l:List Nat,(∀j∈l,∃i,ow.getD j none=some i)->(l.filterMap fun j=>(ow.getD j none).map (j,·)).length=l.length:=fun l=>by
  induction l with
  |nil=>exact fun _=>rfl
  |cons j l ih =>
   intro hl;obtain⟨i,e⟩:=hl j (.head _);rw[List.filterMap_cons,e];simp only[Option.map_some,List.length_cons];rw[ih fun x hx=>hl x (.tail _ hx)]
 have q:=this _ all;rw[List.length_range]at q;unfold lv at few
 lia
abbrev lcF(mask:Nat) (acc:Option (Ow×Nat)) (h:Int):Option (Ow×Nat):=do
 let(owner,k) <-acc
 let j <-layClean.free mask owner (turns mask) (bits h % (mask+1)) (bits h)
 pure (owner.setIfInBounds j (some k),k+1)
theorem Ao{e:Nat}(hk:mask+1=2 ^ e) {hs:List Int}(few:hs.length<=mask):∀(todo done:List Int) (ow:Ow),hs=done++todo->LC mask hs ow done.length->∃ow',todo.foldl (lcF mask) (some (ow,done.length))=some (ow',hs.length)/\LC mask hs ow' hs.length
 |[],done,ow,h0,L=>⟨ow,by rw[h0];simp,by rw[h0];simpa[h0]using L⟩
 |h::todo,done,ow,h0,L=>by
  have ll:(lv mask ow).length=done.length:=by have:=L.perm.length_eq;simpa using this
  have lt:done.length<hs.length:=by rw[h0];simp
  obtain⟨j,hj,nj⟩:=xT L.sz (by lia);obtain⟨m,_,hm,_,em,_⟩:=sI (mask:=mask) (h:=h) hk hj;obtain⟨n',f1,f2,f3⟩:=rT (mask:=mask) (h:=h) (ow:=ow) L.sz (M:=m) (by rw[em,qM (by rw[L.sz];lia) (some 0) none];exact nj) (turns mask) 0 0 (Nat.zero_le _) (by unfold turns;lia) rfl (fun l hl=>by lia);have sl:=rG (mask:=mask) (h:=h) n';have st:lcF mask (some (ow,done.length)) h=some (ow.setIfInBounds (pth mask h n').j (some done.length),done.length+1):=by
   show(layClean.free mask ow (turns mask) (bits h % (mask+1)) (bits h) >>= fun j=>pure (ow.setIfInBounds j (some done.length),done.length+1))=_;have:layClean.free mask ow (turns mask) (bits h % (mask+1)) (bits h)=some (pth mask h n').j:=f1;rw[this];rfl
  rw[List.foldl_cons,st];generalize hsl:(pth mask h n').j=sl' at *
  have f2':ow.getD sl' none=none:=by rw[<-f2];exact qM (by rw[L.sz];lia) _ _
  have oc':∀j,ocO ow j->ocO (ow.setIfInBounds sl' (some done.length)) j:=fun j hj z=>by
   unfold ocO at hj;simp only[Array.getD_eq_getD_getElem?,Array.getElem?_setIfInBounds]at z hj
   split at z
   ·split at z<;>simp at z
   ·exact hj z
  have:=Ao hk few todo (done++[h]) (ow.setIfInBounds sl' (some done.length)) (by rw[h0];simp) ⟨by rw[Array.size_setIfInBounds];exact L.sz,?_,?_⟩
  ·rw[List.length_append,List.length_singleton]at this;exact this
  ·rw[List.length_append,List.length_singleton,List.range_succ];refine((CW L.sz sl f2').map _).trans ?_;rw[List.map_cons];exact(List.Perm.cons _ L.perm).trans (List.perm_append_singleton _ _).symm
  ·intro j i g hg hi
   by_cases c:sl'=j
   ·have:i=done.length:=by
     simp only[Array.getD_eq_getD_getElem?,Array.getElem?_setIfInBounds,if_pos c]at hg
     split at hg
     ·simpa using hg.symm
     ·simp at hg
    subst this;have:g=h:=by rw[h0,List.getElem?_append_right (Nat.le_refl _),Nat.sub_self,List.getElem?_cons_zero]at hi;exact(Option.some.inj hi).symm
    subst this;exact⟨n',by rw[hsl];exact c,fun m hm=>oc' _ (f3 m hm)⟩
   ·have hg':ow.getD j none=some i:=by
     simp only[Array.getD_eq_getD_getElem?,Array.getElem?_setIfInBounds,if_neg c]at hg ⊢;exact hg
    obtain⟨n,a,b⟩:=L.pr j i g hg' hi;exact⟨n,a,fun m hm=>oc' _ (b m hm)⟩
theorem pV(n:Nat):∀F k,n<2 ^ (k+F)->∃e,k<=e/\sizeAbove.go n F (2 ^ k)=2 ^ e/\n<2 ^ e/\(e=k∨2 ^ e<=2*n)
 |0,k,h=>⟨k,Nat.le_refl _,rfl,h,.inl rfl⟩
 |F+1,k,h=>by
  unfold sizeAbove.go
  by_cases c:2 ^ k<=n
  ·rw[if_pos c,show 2 ^ k*2=2 ^ (k+1)from(Nat.pow_succ ..).symm];obtain⟨e,h1,h2,h3,h4⟩:=pV n F (k+1) (by rw[show k+1+F=k+(F+1)by lia];exact h);refine⟨e,by lia,h2,h3,.inr ?_⟩;rcases h4 with h4|h4
   ·rw[h4,Nat.pow_succ];lia
   ·exact h4
  ·rw[if_neg c];exact⟨k,Nat.le_refl _,rfl,by lia,.inl rfl⟩
theorem oU{n:Nat}(h:n<2 ^ 60):∃e,3<=e/\sizeAbove n=2 ^ e/\n<2 ^ e/\(2 ^ e<=8∨2 ^ e<=2*n):=by
 obtain⟨e,h1,h2,h3,h4⟩:=pV n 64 3 (Nat.lt_trans h (by decide));exact⟨e,h1,h2,h3,h4.imp (fun z=>by rw[z];decide) id⟩
variable{mask:Nat}
theorem DZ(ow:Ow):((lv mask ow).map (·.1)).Pairwise (·<·):=by
 unfold lv;rw[List.map_filterMap,List.pairwise_filterMap];refine List.pairwise_lt_range.imp fun {a b} hab x hx y hy=>?_;cases qa:ow.getD a none with
 |none=>rw[qa]at hx;cases hx
 |some i =>
  cases qb:ow.getD b none with
  |none=>rw[qb]at hy;cases hy
  |some k =>
   rw[qa]at hx;rw[qb]at hy;cases hx;cases hy;exact hab
theorem AQ{ow:Ow}{j i:Nat}(h:(j,i)∈lv mask ow):j<=mask/\ow.getD j none=some i:=by
 obtain⟨a,ha,e⟩:=List.mem_filterMap.mp h;have:=List.mem_range.mp ha;cases q:ow.getD a none with
 |none=>rw[q]at e;cases e
 |some k=>rw[q]at e;cases e;exact⟨by lia,q⟩
theorem Ag{t:SetTable}{hs:List Int}{wanted:Nat}(h1:hs.length<=wanted) (h2:wanted<2 ^ 60) (h3:0<wanted):∃t' order,t.relaid hs.toArray wanted=some (t',order)/\t'.led=t.led/\t'.plain=t.plain/\t'.mask+1=sizeAbove wanted/\order.toList.Perm (List.range hs.length)/\t'.place.size=hs.length/\TB t' (order.toList.map fun k=>hs.getD k 0):=by
 obtain⟨e,e3,es,el,_⟩:=oU h2;have pos:0<2 ^ e:=Nat.two_pow_pos e;generalize hm:sizeAbove wanted-1=mask;have hk:mask+1=2 ^ e:=by lia
 have L0:LC mask hs (Array.replicate (mask+1) none) 0:=by
  have z:∀j,(Array.replicate (mask+1) (none:Option Nat)).getD j none=none:=fun j=>by
   rw[Array.getD_eq_getD_getElem?,Array.getElem?_replicate];split<;>rfl
  refine⟨by simp,?_,fun j i h q _=>by rw[z]at q;cases q⟩;have:lv mask (Array.replicate (mask+1) none)=[]:=by
   unfold lv;rw[List.filterMap_eq_nil_iff];intro j _;rw[z];rfl
  rw[this];exact .refl _
 obtain⟨ow,f,L⟩:=Ao hk (hs:=hs) (by lia) hs [] _ rfl L0;have hl:layClean mask hs.toArray=some ow:=by
  unfold layClean;rw[<-Array.foldl_toList];show(hs.foldl (lcF mask) (some (Array.replicate (mask+1) none,0))).map (·.1)=_;rw[show(0:Nat)=([]:List Int).length from rfl,f];rfl
 have hr:t.relaid hs.toArray wanted=some ({ mask,place:=((lv mask ow).map (·.1)).toArray,dummies:=#[],finger:=t.finger,led:=t.led,moves:=t.movedTo mask,plain:=t.plain },((lv mask ow).map (·.2)).toArray):=by
  unfold relaid laid;rw[hm,hl];rfl
 have ll:(lv mask ow).length=hs.length:=by have:=L.perm.length_eq;simpa using this
 have gl:∀i,((lv mask ow).map (·.1)).toArray.getD i 0=((lv mask ow)[i]?.map (·.1)).getD 0:=fun i=>by rw[gh];simp
 have psz:((lv mask ow).map (·.1)).toArray.size=hs.length:=by simp[ll]
 have occ:∀j,j<=mask->ocO ow j->Occ ((lv mask ow).map (·.1)).toArray j:=fun j hj q=>by
  cases c:ow.getD j none with
  |none=>exact absurd (by rw[qM (by rw[L.sz];lia) (some 0) none];exact c) q
  |some i =>
   obtain⟨l,hl⟩:=List.mem_iff_getElem?.mp (A8 L.sz c);exact⟨l,by rw[psz,<-ll];exact(List.getElem?_eq_some_iff.mp hl).1,by rw[gl,hl];rfl⟩
 refine⟨_,_,hr,rfl,rfl,by show mask+1=_;lia,by simpa using L.perm,psz,⟨by simp,?_,?_,rfl,⟨e,e3,hk⟩,by show((lv mask ow).map (·.1)).toArray.size<=mask;lia,?_⟩⟩
 ·intro i j hij hj;rw[psz]at hj;have:=List.pairwise_iff_getElem.mp (DZ (mask:=mask) ow) i j (by simp;lia) (by simp;lia) hij;show((lv mask ow).map (·.1)).toArray.getD i 0<((lv mask ow).map (·.1)).toArray.getD j 0;rw[gl,gl,List.getElem?_eq_getElem (by lia),List.getElem?_eq_getElem (by lia)];simpa using this
 ·intro i hi;rw[psz]at hi;show((lv mask ow).map (·.1)).toArray.getD i 0<=mask;rw[gl,List.getElem?_eq_getElem (by lia)];exact(AQ (List.getElem_mem (by lia))).1
 ·intro i h hi;show ∃n,(pth mask h n).j=((lv mask ow).map (·.1)).toArray.getD i 0/\∀m,m<n->Occ ((lv mask ow).map (·.1)).toArray (pth mask h m).j;simp only[List.getElem?_map]at hi;cases c:(lv mask ow)[i]? with
  |none=>rw[c]at hi;cases hi
  |some jk =>
   obtain⟨j,k⟩:=jk;rw[c]at hi;have mem:=List.mem_of_getElem? c;have hk':k<hs.length:=List.mem_range.mp (L.perm.mem_iff.mp (List.mem_map.mpr ⟨_,mem,rfl⟩));have hh:hs[k]?=some h:=by
    have:hs.getD k 0=h:=by simpa using hi
    rw[List.getElem?_eq_getElem hk',<-this];simp[hk']
   obtain⟨n,a,b⟩:=L.pr j k h (AQ mem).2 hh;exact⟨n,by rw[gl,c];exact a,fun m hm=>occ _ (rG m) (b m hm)⟩
end L2
namespace L2
open PySem PySem.SetTable PySem.SeqAt
structure TK(prog:Program) (w:World) (τ:Type) where
 is:Heap->τ->Value->Prop
 hash:τ->Int
 room:Around->Prop
 pyHash:∀{A:Around} {E:Value->Shared->Prop} {s:Shared} {x:τ} {v:Value} {Q:Int->Shared->Prop},room A->is s.heap x v->(∀t,s.toks<=t->Q (hash x) { s with toks:=t })->wpAny (model prog w) A (PySem.pyHash v) Q E s
 eqB:∀{A:Around} {s:Shared} {x y:τ} {v u:Value},room A->is s.heap x v->is s.heap y u->∃b:Bool,(b=true↔x=y)/\EqAt A s v u b
 quiet:∀{A:Around} {E:Value->Shared->Prop} {s:Shared} {x:τ} {v:Value} {Q:Bool->Shared->Prop},room A->is s.heap x v->Q true s->wpAny (model prog w) A (eqIsQuiet 8 v) Q E s
 noCls:∀{A:Around} {E:Value->Shared->Prop} {s:Shared} {x:τ} {v:Value} {Q:Bool->Shared->Prop},room A->is s.heap x v->Q false s->wpAny (model prog w) A (ofAClassStatement 8 v) Q E s
 byV:∀{A:Around} {E:Value->Shared->Prop} {s:Shared} {x:τ} {v:Value} {Q:Bool->Shared->Prop},room A->is s.heap x v->(∀b,Q b s)->wpAny (model prog w) A (hashByValue 8 v) Q E s
 ref:∀{h:Heap} {x:τ} {v:Value},is h x v->∃a,v=.ref a
variable{prog:Program}{w:World}{τ:Type}{κ:TK prog w τ}{A:Around}{E:Value->Shared->Prop}{s:Shared}
structure Els(κ:TK prog w τ) (h:Heap) (es:Array (Int×Value)) (zs:List τ):Prop where
 len:es.size=zs.length
 at_:∀(i:Nat) z,zs[i]?=some z->∃v,es[i]?=some (κ.hash z,v)/\κ.is h z v
def cZ(es:Array (Int×Value)):List Int:=es.toList.map (·.1)
theorem Els.of{h:Heap}{es:Array (Int×Value)}{zs:List τ}(L:Els κ h es zs) {i:Nat}{e:Int×Value}(g:es[i]?=some e):∃z,zs[i]?=some z/\e.1=κ.hash z/\κ.is h z e.2:=by
 have hi:i<zs.length:=by rw[<-L.len];exact(Array.getElem?_eq_some_iff.mp g).1
 obtain⟨v,g',q⟩:=L.at_ i zs[i] (List.getElem?_eq_getElem hi);rw[g]at g';cases g';exact⟨_,List.getElem?_eq_getElem hi,rfl,q⟩
theorem E9{x:τ}{v:Value}(hr:κ.room A) (hx:κ.is s.heap x v) {Q:Bool->Shared->Prop}(h:Q false s):∀(l:List Value),(∀u∈l,∃y,κ.is s.heap y u)->wpAny (model prog w) A (searchCouldBeSeen v l) Q E s:=by
 intro l hl;unfold searchCouldBeSeen;refine wpAny_bind ?_;refine wpAny_forIn_list _ (fun aK b s'=>s'=s/\b=(none,())/\∀u∈aK,∃y,κ.is s.heap y u) _ ?_ ?_ _ _ ⟨rfl,rfl,hl⟩
 ·rintro u aK b s' ⟨rfl,rfl,hr'⟩;obtain⟨y,hy⟩:=hr' u (.head _);obtain⟨a,rfl⟩:=κ.ref hx;obtain⟨c,rfl⟩:=κ.ref hy;have rest':∀u∈aK,∃y,κ.is s'.heap y u:=fun u hu=>hr' u (.tail _ hu);dsimp only
  split
  ·exact wpAny_pure ⟨rfl,rfl,rest'⟩
  ·refine wpAny_bind (κ.quiet hr hx ?_);simp only[Bool.not_true,Bool.false_eq_true,if_false];refine wpAny_bind (κ.quiet hr hy ?_);simp only[Bool.not_true,Bool.false_eq_true,if_false];refine wpAny_bind (κ.noCls hr hx ?_);simp only[Bool.false_eq_true,if_false];refine wpAny_bind (κ.noCls hr hy ?_);simp only[Bool.false_eq_true,if_false];exact wpAny_pure ⟨rfl,rfl,rest'⟩
 ·rintro b s' ⟨rfl,rfl,_⟩;exact wpAny_pure h
theorem CP{a:Addr}{o:Obj}{es:Array (Int×Value)}{ep:Nat}{t:SetTable}{zs:List τ}{x:τ}{v:Value}{n0:Nat}(hr:κ.room A) (hx:κ.is s.heap x v) (ho:s.heap.get? a=some o) (hd:o.data=.set es ep t) (L:Els κ s.heap es zs) (T:TB t (cZ es))
  (f0:¬ Occ t.place (pth t.mask (κ.hash x) n0).j) (f1:∀m,m<n0->Occ t.place (pth t.mask (κ.hash x) m).j) {Q:SetFound->Shared->Prop} (hy:x∈zs->∀i,Q (.there i) s) (hn:x∉zs->Q (.free (pth t.mask (κ.hash x) n0).j false) s) :
  ∀F n stand,stand.getD (t.probeStart (κ.hash x))=pth t.mask (κ.hash x) n->n<=n0->n0-n<F->n0<10*turns t.mask->(∀l,l<n->∀i,i<t.place.size->t.place.getD i 0=(pth t.mask (κ.hash x) l).j->zs[i]?≠some x)->wpAny (model prog w) A (setSearchFrom a v (κ.hash x) true F stand) Q E s:=by
 have lens:(cZ es).length=es.size:=by simp[cZ]
 have fit:t.fits es.size=true:=by
  unfold SetTable.fits fill;rw[T.dm,T.sz,lens];have:=T.few;rw[T.sz,lens]at this;simpa using this
 have gw:t.gaveWay=false:=by
  obtain⟨k,k3,hk⟩:=T.pw;unfold gaveWay;obtain⟨m,rfl⟩:∃m,k=m+1:=⟨k-1,by lia⟩;rw[Nat.pow_succ]at hk;have:t.mask % 2=1:=by lia
  rw[this];rfl
 have uniq:∀{i k},i<t.place.size->k<t.place.size->t.place.getD i 0=t.place.getD k 0->i=k:=fun {i k} hi hk e=>by
  rcases Nat.lt_trichotomy i k with q|q|q
  ·have:=T.up i k q hk;lia
  ·exact q
  ·have:=T.up k i q hi;lia
 intro F
 induction F with
 |zero=>intro n stand _ _ h3;lia
 |succ F ih =>
  intro n stand e h2 h3 h4 h5;unfold setSearchFrom;refine wpAny_bind (wpAny_setState_of ho hd fit ?_);dsimp only;rw[gw];simp only[Bool.false_eq_true,if_false];unfold SetTable.probe;rw[e];obtain⟨ha,hha⟩:∃ha:Nat->Int,ha=fun i=>(es[i]?.map (·.1)).getD 0:=⟨_,rfl⟩;obtain⟨m,m1,m2,m3,m4⟩:=pP T f0 f1 (ha:=ha) (10*turns t.mask) n h2 (by lia);have hat:∀(i:Nat) z,zs[i]?=some z->ha i=κ.hash z:=fun i z hz=>by
   obtain⟨u,g,_⟩:=L.at_ i z hz;rw[hha];simp[g]
  have skip:∀l,l<m->∀i,i<t.place.size->t.place.getD i 0=(pth t.mask (κ.hash x) l).j->zs[i]?≠some x:=fun l hl i hi he hz=>by
   rcases Nat.lt_or_ge l n with q|q
   ·exact h5 l q i hi he hz
   ·obtain⟨k,k1,k2,k3⟩:=m3 l q hl;obtain rfl:=uniq hi k1 (he.trans k2.symm);exact k3 (hat _ _ hz)
  rcases m4 with⟨rfl,em⟩|⟨mlt,i,i1,i2,i3,em⟩
  ·have em2:∀f:Nat->Int,f=ha->probe.go t f (κ.hash x) (10*turns t.mask) (pth t.mask (κ.hash x) n)=probe.go t ha (κ.hash x) (10*turns t.mask) (pth t.mask (κ.hash x) n):=fun f hf=>by rw[hf]
   rw[em2 _ ?_,em]
   rotate_left
   ·rw[hha];rfl
   dsimp only;refine wpAny_pure (hn fun hz=>?_);obtain⟨i,hi⟩:=List.mem_iff_getElem?.mp hz;have hi':i<t.place.size:=by rw[T.sz,lens,L.len];exact(List.getElem?_eq_some_iff.mp hi).1
   obtain⟨u,g,_⟩:=L.at_ i x hi;obtain⟨nn,a1,a2⟩:=T.pr i (κ.hash x) (by rw[cZ,List.getElem?_map,Array.getElem?_toList,g];rfl);have lt:nn<m:=by
    rcases Nat.lt_trichotomy nn m with q|q|q
    ·exact q
    ·subst q;exact absurd ⟨i,hi',a1.symm⟩ f0
    ·exact absurd (a2 m q) f0
   exact skip nn lt i hi' a1.symm hi
  ·have em2:∀f:Nat->Int,f=ha->probe.go t f (κ.hash x) (10*turns t.mask) (pth t.mask (κ.hash x) n)=probe.go t ha (κ.hash x) (10*turns t.mask) (pth t.mask (κ.hash x) n):=fun f hf=>by rw[hf]
   rw[em2 _ ?_,em]
   rotate_left
   ·rw[hha];rfl
   dsimp only;have iz:i<zs.length:=by rw[<-L.len,<-lens,<-T.sz];exact i1
   obtain⟨u,gu,hu⟩:=L.at_ i zs[i] (List.getElem?_eq_getElem iz);have main:wpAny (model prog w) A (do
     let some (_,y):=es[i]?|unsupported "internal:set-entry"
     let equal <-holding [y] (eqBool y v)
     let(es',_,t') <-setState a
     if true&&equal then return .there none
     let some same:=t'.sameMemory t.moves t.mask|unsupported "set.changed-during-lookup:is-the-new-block-at-the-old-address"
     let still <-match (if same then t'.slot (pth t.mask (κ.hash x) m).j else .empty)with
      |.live i'=>match es'[i']? with
       |some (_,y')=>do pure (if <-isSame y' y then some i' else none)
       |none=>pure none
      |_=>pure none
     match still with
     |none=>rule "set.search.anew";setSearchFrom a v (κ.hash x) true F none
     |some i'=>if equal then return .there (some i')else setSearchFrom a v (κ.hash x) true F (some (pth t.mask (κ.hash x) (m+1)))) Q E s:=by
    rw[gu];dsimp only;obtain⟨b,hb,eq⟩:=κ.eqB hr hu hx;refine wpAny_bind (wpAny_holding (eq prog w _ _ ?_));refine wpAny_bind (wpAny_setState_of ho hd fit ?_);dsimp only;cases b with
    |true =>
     have:zs[i]=x:=hb.mp rfl;exact wpAny_pure (hy (this▸List.getElem_mem iz) _)
    |false =>
     have ne:zs[i]≠x:=fun z=>by have:=hb.mpr z;cases this
     simp only[Bool.and_false,Bool.false_eq_true,if_false];rw[show t.sameMemory t.moves t.mask=some true by simp[sameMemory]];dsimp only;rw[m6 T.up i1 i2];simp only[if_true];rw[gu];dsimp only;obtain⟨c,rfl⟩:=κ.ref hu;refine wpAny_bind (wpAny_isSame_ref_self (wpAny_bind (wpAny_pure ?_)));simp only[if_true];refine ih (m+1) _ rfl mlt (by lia) h4 fun l hl k k1 k2=>?_;rcases Nat.lt_or_ge l m with q|q
     ·exact skip l q k k1 k2
     ·obtain rfl:l=m:=by lia
      obtain rfl:=uniq k1 i1 (k2.trans i2.symm);rw[List.getElem?_eq_getElem iz];intro z;exact ne (Option.some.inj z)
   by_cases led:t.led=true
   ·rw[led];simp only[Bool.not_true,Bool.false_eq_true,if_false];exact main
   ·rw[show t.led=false by simpa using led];simp only[Bool.not_false,if_true];refine wpAny_bind (E9 hr hx ?_ _ fun u hu=>?_)
    ·simp only[Bool.false_eq_true,if_false];exact main
    ·obtain⟨e,he,rfl⟩:=List.mem_map.mp hu;have he':e∈es:=(Array.mem_filter.mp (Array.mem_def.mpr he)).1;obtain⟨k,hk,ek⟩:=Array.mem_iff_getElem.mp he';obtain⟨z,_,_,q⟩:=L.of (i:=k) (e:=e) (by rw[Array.getElem?_eq_getElem hk,ek]);exact⟨z,q⟩
variable{prog:Program}{w:World}{τ:Type}{κ:TK prog w τ}{A:Around}{E:Value->Shared->Prop}{s:Shared}
structure BW(κ:TK prog w τ) (h:Heap) (a:Addr) (o:Obj) (es:Array (Int×Value)) (ep:Nat) (t:SetTable) (zs:List τ):Prop where
 get:h.get? a=some o
 ex:o.ExactSet
 data:o.data=.set es ep t
 el:Els κ h es zs
 nd:zs.Nodup
 tb:TB t (cZ es)
 led:t.led=!w.params.followText "set-order"
 roomy:es.size*5<t.mask*3
 small:t.mask<=7∨t.mask<=8*es.size
def i6(κ:TK prog w τ) (h:Heap) (a:Addr) (xs:List τ):Prop:=∃o es ep t zs,BW κ h a o es ep t zs/\zs.Perm xs
theorem Els.keep{h h':Heap}{es:Array (Int×Value)}{zs:List τ}(L:Els κ h es zs) (k:∀z v,κ.is h z v->κ.is h' z v):Els κ h' es zs:=⟨L.len,fun i z hz=>by obtain⟨v,g,q⟩:=L.at_ i z hz;exact⟨v,g,k z v q⟩⟩
theorem i6.mono{h h':Heap}{a:Addr}{xs:List τ}(S:i6 κ h a xs) (k:∀o,h.get? a=some o->h'.get? a=some o) (k2:∀z v,κ.is h z v->κ.is h' z v):i6 κ h' a xs:=by
 obtain⟨o,es,ep,t,zs,q,p⟩:=S;exact⟨o,es,ep,t,zs,⟨k _ q.get,q.ex,q.data,q.el.keep k2,q.nd,q.tb,q.led,q.roomy,q.small⟩,p⟩
theorem sZ{h:Heap}{es:Array (Int×Value)}{zs:List τ}{x:τ}{v:Value}{p:Nat}(L:Els κ h es zs) (hx:κ.is h x v) (hp:p<=zs.length):Els κ h (insertAt es p (κ.hash x,v)) (zs.take p++x::zs.drop p):=by
 have lt:(es.toList.take p).length=p:=by rw[List.length_take,Array.length_toList,L.len];lia
 have lz:(zs.take p).length=p:=by rw[List.length_take];lia
 refine⟨by rw[fN _ _ _ (by rw[L.len];exact hp),List.length_append,List.length_cons,lz,List.length_drop,L.len];lia,fun i z hz=>?_⟩;have gi:(insertAt es p (κ.hash x,v))[i]?=(es.toList.take p++(κ.hash x,v)::es.toList.drop p)[i]?:=by rw[<-iF,Array.getElem?_toList]
 rw[gi];rw[List.getElem?_append,lz]at hz;rw[List.getElem?_append,lt]
 by_cases c1:i<p
 ·rw[if_pos c1,List.getElem?_take_of_lt c1]at hz;rw[if_pos c1,List.getElem?_take_of_lt c1,Array.getElem?_toList];exact L.at_ i z hz
 ·rw[if_neg c1]at hz ⊢
  by_cases c2:i=p
  ·rw[c2,Nat.sub_self,List.getElem?_cons_zero]at hz ⊢;cases hz;exact⟨v,rfl,hx⟩
  ·obtain⟨m,hm⟩:∃m,i-p=m+1:=⟨i-p-1,by lia⟩;rw[hm,List.getElem?_cons_succ,List.getElem?_drop]at hz ⊢;rw[Array.getElem?_toList];exact L.at_ _ z hz
theorem TB.plain{t:SetTable}{hs:List Int}(T:TB t hs) (b:Bool):TB { t with plain:=b } hs:=⟨T.sz,T.up,T.le,T.dm,T.pw,T.few,T.pr⟩
theorem TB.fit{t:SetTable}{es:Array (Int×Value)}(T:TB t (cZ es)):t.fits es.size=true:=by
 have lens:(cZ es).length=es.size:=by simp[cZ]
 unfold SetTable.fits fill;rw[T.dm,T.sz,lens];have:=T.few;rw[T.sz,lens]at this;simpa using this
theorem sf{h:Heap}{a:Addr}{o:Obj}{es:Array (Int×Value)}{ep:Nat}{t:SetTable}(ho:h.get? a=some o) (hd:o.data=.set es ep t) (es':Array (Int×Value)) (t':SetTable) :
  (h.update a (Obj.putSet es' t')).get? a=some { o with data:=.set es' (ep+1) t' }:=by
 have:=Heap.get?_update_self (Obj.putSet es' t') ho (by rw[putSet_of es' t' hd];rfl);rw[putSet_of es' t' hd]at this;exact this
theorem pq{es:Array (Int×Value)}:∀{l:List Nat},(∀k∈l,k<es.size)->(l.filterMap fun k=>es[k]?)=l.map fun k=>es.getD k (0,.none)
 |[],_=>rfl
 |k::l,h=>by
  have hk:=h k (.head _);rw[List.filterMap_cons,Array.getElem?_eq_getElem hk,List.map_cons,pq fun j hj=>h j (.tail _ hj)];simp[Array.getD,hk]
theorem oB{l:List τ}{k:Nat}(h:k<l.length) (d:τ):l[k]?=some (l.getD k d):=by rw[List.getD_eq_getElem?_getD,List.getElem?_eq_getElem h];rfl
theorem j6(l:List τ) (d:τ):(List.range l.length).map (fun k=>l.getD k d)=l:=by
 refine List.ext_getElem? fun i=>?_;rw[List.getElem?_map];rcases Nat.lt_or_ge i l.length with q|q
 ·rw[List.getElem?_range q,oB q d];rfl
 ·rw[List.getElem?_eq_none (by rw[List.length_range];exact q),List.getElem?_eq_none q];rfl
theorem Fm{a:Addr}{xs:List τ}{x:τ}{v:Value}{Q:Bool->Shared->Prop}(hr:κ.room A) (hx:κ.is s.heap x v) (hS:i6 κ s.heap a xs) (few:xs.length<1000) (kp:∀h' z v,Heap.SameBut a s.heap h'->κ.is s.heap z v->κ.is h' z v)
  (h:∀b h',Heap.SameBut a s.heap h'->(x∈xs->i6 κ h' a xs)->(x∉xs->i6 κ h' a (xs++[x]))->Q b { s with heap:=h' }):wpAny (model prog w) A (setAddHashed a v (κ.hash x)) Q E s:=by
 obtain⟨o,es,ep,t,zs,q,pm⟩:=hS;have lens:(cZ es).length=es.size:=by simp[cZ]
 have lz:es.size=xs.length:=by rw[q.el.len,pm.length_eq]
 obtain⟨n0,n1,f0,f1⟩:=q.tb.free (κ.hash x);have hm:t.mask<=8000:=by have:=q.small;lia
 obtain⟨r,rfl⟩:=κ.ref hx;have es0:s={ s with heap:=s.heap }:=by cases s;rfl
 unfold setAddHashed setAddHashedIn;refine wpAny_holding (wpAny_bind (wpAny_setState_of q.get q.data q.tb.fit ?_));dsimp only;rw[show byScan (.ref r) es=false by unfold byScan;rfl];simp only[Bool.false_eq_true,if_false];unfold setSearch;refine wpAny_bind (CP hr hx q.get q.data q.el q.tb f0 f1 (fun hz i=>?_) (fun hz=>?_) 100000 0 none rfl (Nat.zero_le _) (by lia) (by unfold turns;lia) (fun l hl=>by lia))
 ·refine wpAny_pure ?_;rw[es0];exact h _ s.heap (Heap.SameBut.refl a s.heap) (fun _=>⟨o,es,ep,t,zs,q,pm⟩) fun hn=>absurd (pm.mem_iff.mp hz) hn
 ·have hn:x∉xs:=fun z=>hz (pm.mem_iff.mpr z);have fl:t.place.size+1<=t.mask:=by
   have:=q.roomy;have:=q.tb.sz;obtain⟨k,k3,hk⟩:=q.tb.pw;have:2 ^ 3<=2 ^ k:=Nat.pow_le_pow_right (by decide) k3
   lia
  obtain⟨p,hp,e2,T1,l1,_,m1,z1⟩:=q.tb.put f0 f1 fl;rw[lens]at hp;dsimp only;refine wpAny_bind (wpAny_setState_of q.get q.data q.tb.fit ?_);dsimp only;generalize ht:t.put (pth t.mask (κ.hash x) n0).j=tp at *
  obtain⟨t1,p'⟩:=tp;dsimp only at e2 T1 l1 m1 z1 ⊢;subst e2;have pz:p'<=zs.length:=by rw[<-q.el.len];exact hp
  have hso:cZ (insertAt es p' (κ.hash x,.ref r))=(cZ es).take p'++κ.hash x::(cZ es).drop p':=by unfold cZ;rw[iF];simp[List.map_take,List.map_drop]
  have iz:(insertAt es p' (κ.hash x,.ref r)).size=es.size+1:=fN _ _ _ hp;have nd1:(zs.take p'++x::zs.drop p').Nodup:=by
   rw[List.perm_middle.nodup_iff,List.take_append_drop,List.nodup_cons];exact⟨hz,q.nd⟩
  have pm1:(zs.take p'++x::zs.drop p').Perm (xs++[x]):=by
   refine List.perm_middle.trans ?_;rw[List.take_append_drop];exact(List.Perm.cons _ pm).trans (List.perm_append_singleton _ _).symm
  have go:∀t2:SetTable,TB t2 (cZ (insertAt es p' (κ.hash x,.ref r)))->t2.led=t.led->t2.mask=t.mask->t2.place.size=t.place.size+1->wpAny (model prog w) A (do
     storeSet a (insertAt es p' (κ.hash x,.ref r)) t2
     if !false&&t2.tooFull then setRelay a (grown (es.size+1))
     return true) Q E s:=by
   intro t2 T2 ld mk sz2;refine wpAny_bind (wpAny_storeSet_of q.get q.data ?_ (fits_of_scanBound (by unfold scanBound;lia)));have ho1:=sf q.get q.data (insertAt es p' (κ.hash x,.ref r)) t2;have sb1:=Heap.SameBut.update s.heap a (Obj.putSet (insertAt es p' (κ.hash x,.ref r)) t2);generalize hh1:s.heap.update a (Obj.putSet (insertAt es p' (κ.hash x,.ref r)) t2)=h1 at *
   have el1:Els κ h1 (insertAt es p' (κ.hash x,.ref r)) (zs.take p'++x::zs.drop p'):=(sZ q.el hx pz).keep fun z v hz=>kp _ z v sb1 hz;have tf:t2.tooFull=decide ((es.size+1)*5>=t.mask*3):=by
    unfold tooFull fill;rw[T2.dm,sz2,q.tb.sz,lens,mk];simp
   by_cases c:(es.size+1)*5>=t.mask*3
   ·rw[tf,decide_eq_true c];simp only[Bool.not_false,Bool.and_true,if_true];refine wpAny_bind ?_;unfold setRelay;refine wpAny_bind (wpAny_setState_of (s:={ s with heap:=h1 }) ho1 rfl T2.fit ?_);dsimp only;have gr:grown (es.size+1)=(es.size+1)*4:=by unfold grown;rw[if_neg (by lia)]
    rw[gr];obtain⟨e,e3,ee,el,eb⟩:=oU (n:=(es.size+1)*4) (by lia);obtain⟨t3,order,er,ld3,_,mk3,po,sz3,T3⟩:=Ag (t:=t2) (hs:=cZ (insertAt es p' (κ.hash x,.ref r))) (wanted:=(es.size+1)*4) (by simp only[cZ,List.length_map,Array.length_toList];rw[iz];lia) (by lia) (by lia);have ls:(cZ (insertAt es p' (κ.hash x,.ref r))).length=es.size+1:=by simp[cZ,iz]
    rw[ls]at po sz3;rw[if_neg (by rw[ee,sizeLine_eq];lia)];have ea:(insertAt es p' (κ.hash x,.ref r)).map (·.1)=(cZ (insertAt es p' (κ.hash x,.ref r))).toArray:=by apply Array.toList_inj.mp;simp[cZ]
    rw[ea,er];have inr:∀k∈order.toList,k<(insertAt es p' (κ.hash x,.ref r)).size:=fun k hk=>by rw[iz];exact List.mem_range.mp (po.mem_iff.mp hk)
    have eo:(order.filterMap fun k=>(insertAt es p' (κ.hash x,.ref r))[k]?).toList=order.toList.map fun k=>(insertAt es p' (κ.hash x,.ref r)).getD k (0,.none):=by
     rw[Array.toList_filterMap,pq inr]
    generalize he2:(order.filterMap fun k=>(insertAt es p' (κ.hash x,.ref r))[k]?)=es2 at *
    have z2:es2.size=es.size+1:=by rw[<-Array.length_toList,eo,List.length_map,po.length_eq,List.length_range]
    refine wpAny_bind ?_;show wpAny _ _ (do
     let es':=order.filterMap fun k=>(insertAt es p' (κ.hash x,.ref r))[k]?
     if es'.size != (insertAt es p' (κ.hash x,.ref r)).size then unsupported "internal:set-table-lost-an-element"
     pure (es',t3)) _ _ _
    dsimp only;rw[he2,if_neg (by rw[z2,iz];simp)];refine wpAny_pure ?_;dsimp only;refine wpAny_storeSet_of ho1 rfl ?_ (fits_of_scanBound (by unfold scanBound;lia));have ho2:=sf (h:=h1) ho1 rfl es2 t3;refine wpAny_pure (h _ _ (sb1.trans (Heap.SameBut.update _ a _)) (fun z=>absurd z hn) fun _=>⟨_,es2,_,t3,order.toList.map fun k=>(zs.take p'++x::zs.drop p').getD k x,⟨ho2,q.ex,rfl,?_,?_,?_,?_,?_,?_⟩,?_⟩)
    ·refine⟨by rw[z2,List.length_map,po.length_eq,List.length_range],fun i z hz'=>?_⟩;rw[List.getElem?_map]at hz';cases c2:order.toList[i]? with
     |none=>rw[c2]at hz';cases hz'
     |some k =>
      rw[c2]at hz';have hk:=inr k (List.mem_of_getElem? c2);have hk':k<(zs.take p'++x::zs.drop p').length:=by rw[<-el1.len];exact hk
      obtain⟨v2,g2,q2⟩:=el1.at_ k z (by rw[oB hk' x];exact hz');refine⟨v2,?_,kp _ z v2 (sb1.trans (Heap.SameBut.update _ a _)) ?_⟩
      ·rw[<-Array.getElem?_toList,eo,List.getElem?_map,c2];simp[Array.getD_eq_getD_getElem?,g2]
      ·obtain⟨v3,g3,q3⟩:=(sZ q.el hx pz).at_ k z (by rw[oB hk' x];exact hz');rw[g2]at g3;cases g3;exact q3
    ·refine((po.map fun k=>(zs.take p'++x::zs.drop p').getD k x).nodup_iff).mpr ?_;rw[<-iz,el1.len,j6];exact nd1
    ·have:cZ es2=order.toList.map fun k=>(cZ (insertAt es p' (κ.hash x,.ref r))).getD k 0:=by
      unfold cZ;rw[eo,List.map_map];refine List.map_congr_left fun k hk=>?_;have hk:=inr k hk;simp[Array.getD,hk,List.getD]
     rw[this];exact T3
    ·rw[ld3,ld];exact q.led
    ·have:=mk3;rw[ee]at this;rw[z2];lia
    ·right;have:=mk3;rw[ee]at this;rw[z2];rcases eb with eb|eb<;>lia
    ·refine(po.map _).trans ?_;rw[<-iz,el1.len,j6];exact pm1
   ·rw[tf,decide_eq_false c];simp only[Bool.not_false,Bool.and_false,Bool.false_eq_true,if_false];refine wpAny_pure (h _ _ sb1 (fun z=>absurd z hn) fun _=>⟨_,_,_,t2,_,⟨ho1,q.ex,rfl,el1,nd1,T2,by rw[ld];exact q.led,by rw[iz,mk];lia,?_⟩,pm1⟩);rw[mk,iz];have:=q.small;lia
  rw[<-hso]at T1
  by_cases pl:t1.plain=true
  ·rw[if_pos pl];refine wpAny_bind (κ.byV hr hx fun b=>?_);cases b with
   |true=>simp only[if_true];exact go t1 T1 l1 m1 z1
   |false=>simp only[Bool.false_eq_true,if_false];exact go _ (T1.plain false) l1 m1 z1
  ·rw[if_neg pl];refine wpAny_bind (wpAny_pure ?_);simp only[if_true];exact go t1 T1 l1 m1 z1
end L2
namespace L2
open PySem PySem.Spec PyProof.Rows PySem.SeqAt
inductive KD where
 |int (i:Int)|str (x:Str)|tup (ks:List KD)
 deriving Inhabited
def KAt(h:Heap):Nat->KD->Value->Prop
 |_,.int i,v=>∃t,v=.int i t
 |_,.str x,v=>∃t,v=.str x t
 |0,.tup _,_=>False
 |n+1,.tup ds,v=>∃(a:Addr) (its:Array Value),v=.ref a/\IsTup h a its/\its.size=ds.length/\∀(i:Nat) d u,ds[i]?=some d->its[i]?=some u->KAt h n d u
def hK(w:World):Nat->KD->Int
 |_,.int i=>hashInt i
 |_,.str x=>hashStr w x
 |0,.tup _=>0
 |n+1,.tup ds=>reduceHash (Builtin.Tuple.tupleHashOf (ds.map (hK w n)))
theorem lY{h:Heap}{n:Nat}{i:Int}{v:Value}:KAt h n (.int i) v↔∃t,v=.int i t:=by cases n<;>exact .rfl
theorem lQ{h:Heap}{n:Nat}{i:Str}{v:Value}:KAt h n (.str i) v↔∃t,v=.str i t:=by cases n<;>exact .rfl
theorem wK{h h':Heap}{a:Addr}{its:Array Value}(t:IsTup h a its) (k:∀o,o.cls=.type "tuple"->h.get? a=some o->h'.get? a=some o):IsTup h' a its :=
 let⟨o,ho,hc,hd⟩:=t
 ⟨o,k _ hc ho,hc,hd⟩
theorem KAt.upT{h h':Heap}(k:∀b xs,IsTup h b xs->IsTup h' b xs):∀{n:Nat}{d:KD}{v:Value},KAt h n d v->KAt h' n d v:=by
 intro n
 induction n with
 |zero=>intro d v q;cases d<;>exact q
 |succ n ih =>
  intro d v q;cases d with
  |int _=>exact q
  |str _=>exact q
  |tup ds =>
   obtain⟨a,its,e,t,z,r⟩:=q;exact⟨a,its,e,k a _ t,z,fun i d u h1 h2=>ih (r i d u h1 h2)⟩
theorem KAt.up{h h':Heap}(k:∀b o,o.cls=.type "tuple"->h.get? b=some o->h'.get? b=some o) {n:Nat} {d:KD} {v:Value} (q:KAt h n d v):KAt h' n d v:=q.upT fun b xs t=>wK t (k b)
theorem KAt.same{h:Heap}:∀(n:Nat) {d e:KD}{v:Value},KAt h n d v->KAt h n e v->d=e:=by
 intro n
 induction n with
 |zero =>
  intro d e v h1 h2;cases d with
  |int i=>cases e with
   |int j=>obtain⟨_,rfl⟩:=h1;obtain⟨_,z⟩:=h2;cases z;rfl
   |str j=>obtain⟨_,rfl⟩:=h1;obtain⟨_,z⟩:=h2;cases z
   |tup _=>exact h2.elim
  |str i=>cases e with
   |int j=>obtain⟨_,rfl⟩:=h1;obtain⟨_,z⟩:=h2;cases z
   |str j=>obtain⟨_,rfl⟩:=h1;obtain⟨_,z⟩:=h2;cases z;rfl
   |tup _=>exact h2.elim
  |tup _=>exact h1.elim
 |succ n ih =>
  intro d e v h1 h2;cases d with
  |int i=>cases e with
   |int j=>obtain⟨_,rfl⟩:=h1;obtain⟨_,z⟩:=h2;cases z;rfl
   |str j=>obtain⟨_,rfl⟩:=h1;obtain⟨_,z⟩:=h2;cases z
   |tup _=>obtain⟨_,rfl⟩:=h1;obtain⟨_,_,z,_⟩:=h2;cases z
  |str i=>cases e with
   |int j=>obtain⟨_,rfl⟩:=h1;obtain⟨_,z⟩:=h2;cases z
   |str j=>obtain⟨_,rfl⟩:=h1;obtain⟨_,z⟩:=h2;cases z;rfl
   |tup _=>obtain⟨_,rfl⟩:=h1;obtain⟨_,_,z,_⟩:=h2;cases z
  |tup ds=>cases e with
   |int j=>obtain⟨_,rfl⟩:=h2;obtain⟨_,_,z,_⟩:=h1;cases z
   |str j=>obtain⟨_,rfl⟩:=h2;obtain⟨_,_,z,_⟩:=h1;cases z
   |tup es =>
    obtain⟨a1,its,e1,⟨o,ho,hc,c,hd⟩,z,r⟩:=h1;obtain⟨a2,its2,e2,⟨o2,ho2,hc2,c2,hd2⟩,z2,r2⟩:=h2;subst e1;cases e2;rw[ho]at ho2;cases ho2;rw[hd]at hd2;cases hd2;congr 1;refine List.ext_getElem? fun i=>?_;rcases Nat.lt_or_ge i ds.length with q|q
    ·have q2:i<es.length:=by lia
     rw[List.getElem?_eq_getElem q,List.getElem?_eq_getElem q2];have q3:i<its.size:=by lia
     exact congrArg some (ih (r i _ _ (List.getElem?_eq_getElem q) (Array.getElem?_eq_getElem q3)) (r2 i _ _ (List.getElem?_eq_getElem q2) (Array.getElem?_eq_getElem q3)))
    ·rw[List.getElem?_eq_none q,List.getElem?_eq_none (by lia)]
def drK:Nat->KD->Nat
 |_,.int _=>1
 |_,.str _=>1
 |0,.tup _=>0
 |n+1,.tup ds=>(ds.map (drK n)).sum+1
section
variable{prog:Program}{w:World}{A:Around}{E:Value->Shared->Prop}{s:Shared}
theorem KAt.eq:∀(n:Nat) {A:Around}{d e:KD}{v u:Value},A.units+n<cLine->KAt s.heap n d v->KAt s.heap n e u->∃b:Bool,(b=true↔d=e)/\EqAt A s v u b:=by
 intro n
 induction n with
 |zero =>
  intro A d e v u hu q1 q2;cases d with
  |tup _=>exact q1.elim
  |int i=>obtain⟨t,rfl⟩:=q1;cases e with
   |tup _=>exact q2.elim
   |int j=>obtain⟨t',rfl⟩:=q2;exact⟨i==j,by simp,EqAt.int_int _ _ _ _⟩
   |str j=>obtain⟨t',rfl⟩:=q2;exact⟨false,by simp,EqAt.int_str _ _ _ _⟩
  |str i=>obtain⟨t,rfl⟩:=q1;cases e with
   |tup _=>exact q2.elim
   |int j=>obtain⟨t',rfl⟩:=q2;exact⟨false,by simp,EqAt.str_int _ _ _ _⟩
   |str j=>obtain⟨t',rfl⟩:=q2;exact⟨i==j,by simp,EqAt.str_str _ _ _ _⟩
 |succ n ih =>
  intro A d e v u hu q1 q2;cases d with
  |int i=>obtain⟨t,rfl⟩:=q1;cases e with
   |int j=>obtain⟨t',rfl⟩:=q2;exact⟨i==j,by simp,EqAt.int_int _ _ _ _⟩
   |str j=>obtain⟨t',rfl⟩:=q2;exact⟨false,by simp,EqAt.int_str _ _ _ _⟩
   |tup _=>obtain⟨a,its,rfl,t,_⟩:=q2;exact⟨false,by simp,EqAt.int_tuple _ _ t (by lia)⟩
  |str i=>obtain⟨t,rfl⟩:=q1;cases e with
   |int j=>obtain⟨t',rfl⟩:=q2;exact⟨false,by simp,EqAt.str_int _ _ _ _⟩
   |str j=>obtain⟨t',rfl⟩:=q2;exact⟨i==j,by simp,EqAt.str_str _ _ _ _⟩
   |tup _=>obtain⟨a,its,rfl,t,_⟩:=q2;exact⟨false,by simp,EqAt.str_tuple _ _ t (by lia)⟩
  |tup ds =>
   obtain⟨a,its,rfl,t1,z1,r1⟩:=id q1;cases e with
   |int j=>obtain⟨t',rfl⟩:=q2;exact⟨false,by simp,EqAt.tuple_int _ _ t1 (by lia)⟩
   |str j=>obtain⟨t',rfl⟩:=q2;exact⟨false,by simp,EqAt.tuple_str _ _ t1 (by lia)⟩
   |tup es =>
    obtain⟨b,its2,rfl,t2,z2,r2⟩:=id q2
    by_cases ab:a=b
    ·subst ab;exact⟨true,by simp[KAt.same (n+1) q1 q2],EqAt.same _⟩
    ·have item:∀j,∃b:Bool,∀(h1:j<its.size) (h2:j<its2.size),(b=true↔ds[j]?=es[j]?)/\EqAt A.in1 s its[j] its2[j] b:=fun j=>by
      by_cases h1:j<its.size
      ·by_cases h2:j<its2.size
       ·obtain⟨b,b1,b2⟩:=ih (A:=A.in1) (show A.units+1+n<cLine by lia) (r1 j _ _ (List.getElem?_eq_getElem (by lia)) (Array.getElem?_eq_getElem h1)) (r2 j _ _ (List.getElem?_eq_getElem (by lia)) (Array.getElem?_eq_getElem h2));exact⟨b,fun _ _=>⟨by rw[List.getElem?_eq_getElem (by lia),List.getElem?_eq_getElem (by lia),b1];simp,b2⟩⟩
       ·exact⟨true,fun _ h=>absurd h h2⟩
      ·exact⟨true,fun h=>absurd h h1⟩
     have rc:=RcAt.tuples (A:=A) (s:=s) (e:=fun j=>(item j).choose) t1 t2 (by lia) fun j h1 h2=>((item j).choose_spec h1 h2).2;refine⟨_,?_,EqAt.of_refs ab rc⟩;rw[Bool.and_eq_true,List.all_eq_true,beq_iff_eq];constructor
     ·rintro⟨h1,h2⟩;congr 1;refine List.ext_getElem? fun i=>?_;rcases Nat.lt_or_ge i ds.length with q|q
      ·exact((item i).choose_spec (by lia) (by lia)).1.mp (h1 i (List.mem_range.mpr (by lia)))
      ·rw[List.getElem?_eq_none q,List.getElem?_eq_none (by lia)]
     ·intro z;cases z;refine⟨fun i hi=>?_,by lia⟩;have hi:=List.mem_range.mp hi;exact((item i).choose_spec (by lia) (by lia)).1.mpr rfl
theorem KAt.hash:∀(n:Nat) {A:Around}{s:Shared}{E:Value->Shared->Prop}{d:KD}{v:Value}{Q:Int->Shared->Prop},A.units+n<cLine->KAt s.heap n d v->Q (hK w n d) { s with toks:=s.toks+drK n d }->wpAny (model prog w) A (pyHash v) Q E s:=by
 intro n
 induction n with
 |zero =>
  intro A s E d v Q hu q h;cases d with
  |int i=>obtain⟨t,rfl⟩:=q;exact wpAny_pyHash_int h
  |str i=>obtain⟨t,rfl⟩:=q;exact wpAny_pyHash_str h
  |tup _=>exact q.elim
 |succ n ih =>
  intro A s E d v Q hu q h;cases d with
  |int i=>obtain⟨t,rfl⟩:=q;exact wpAny_pyHash_int h
  |str i=>obtain⟨t,rfl⟩:=q;exact wpAny_pyHash_str h
  |tup ks =>
   obtain⟨a,its,rfl,tp,z,r⟩:=q;obtain⟨o,ho,hc,c,hd⟩:=tp;have hT:s.TypeIs (.ref a) "tuple":=⟨o,ho,hc⟩;have hu0:A.units<cLine:=by lia
   unfold pyHash pyHashByItsType;refine wpAny_bind (wpAny_cRoomFor_or (.inr hu0) ?_);refine wpAny_bind (wpAny_specialOf hT F.slot_tuple_hash.lookup ?_);show wpAny _ _ (if(some (Value.builtin "tuple.__hash__")==some Value.none)=true then _ else _) Q E s;rw[if_neg (by rw[beq_builtin_none];exact Bool.false_ne_true)];refine wpAny_bind (wpAny_specialOf hT F.slot_tuple_hash.lookup ?_);show wpAny _ _ (callSpecialIfBoundUnlessNone? (.ref a) "__hash__" _ >>= _) Q E s;refine wpAny_bind (wpAny_callSpecialIfBoundUnlessNone?_slot hT F.slot_tuple_hash (wpAny_call_entry F.slot_tuple_hash hT F.entry_tuple_hash ?_ (F.args_tuple_hash_1 _)));show wpAny _ _ (Builtin.Tuple.tupleItemsOf (.ref a) >>= _) _ _ s;refine wpAny_bind (wpAny_tupleItemsOf ho hd ?_);refine wpAny_bind ?_;rw[<-Array.forIn_toList];refine wpAny_forIn_list _ (fun aK (b:Array Int) s'=>∃m,m<=ks.length/\aK=its.toList.drop m/\b.toList=(ks.take m).map (hK w n)/\s'={ s with toks:=s.toks+((ks.take m).map (drK n)).sum }) _ ?_ ?_ _ _ ⟨0,Nat.zero_le _,rfl,rfl,rfl⟩
   ·rintro x aK b s' ⟨m,hm,hr,hb,rfl⟩;have lt:m<its.size:=by
     rcases Nat.lt_or_ge m its.size with q|q
     ·exact q
     ·rw[List.drop_eq_nil_of_le (by rw[Array.length_toList];exact q)]at hr;cases hr
    rw[List.drop_eq_getElem_cons (by rw[Array.length_toList];exact lt)]at hr;obtain⟨rfl,rfl⟩:=List.cons.inj hr;have km:ks[m]?=some (ks[m]'(by lia)):=List.getElem?_eq_getElem _;refine wpAny_bind (ih (show A.in1.units+n<cLine by show A.units+1+n<cLine;lia) (r m _ _ km (by rw[Array.getElem?_eq_getElem lt];simp)) ?_);refine wpAny_pure ⟨m+1,by lia,rfl,?_,?_⟩
    ·rw[Array.toList_push,hb,List.take_add_one,km,List.map_append];rfl
    ·rw[List.take_add_one,km,List.map_append,List.sum_append,<-Nat.add_assoc];simp
   ·rintro b s' ⟨m,hm,hr,hb,rfl⟩;have:m=ks.length:=by
     rcases Nat.lt_or_ge m its.size with q|q
     ·rw[List.drop_eq_getElem_cons (by rw[Array.length_toList];exact q)]at hr;cases hr
     ·lia
    subst this;rw[List.take_length]at hb ⊢;show wpAny _ _ (retInt (Builtin.Tuple.tupleHashOf b.toList)) _ _ _;rw[hb];refine wpAny_ret_mkInt ?_;show wpAny _ _ (if(decide (-(2:Int) ^ 63<=Builtin.Tuple.tupleHashOf (ks.map (hK w n)))&&decide (Builtin.Tuple.tupleHashOf (ks.map (hK w n))<2 ^ 63))=true then _ else _) Q E _;have h':Q (reduceHash (Builtin.Tuple.tupleHashOf (ks.map (hK w n)))) { s with toks:=s.toks+((ks.map (drK n)).sum+1) }:=h;rw[<-Nat.add_assoc]at h';unfold reduceHash at h'
    by_cases hr2:(decide (-(2:Int) ^ 63<=Builtin.Tuple.tupleHashOf (ks.map (hK w n)))&&decide (Builtin.Tuple.tupleHashOf (ks.map (hK w n))<2 ^ 63))=true
    ·rw[if_pos hr2];rw[if_pos hr2]at h';exact wpAny_pure h'
    ·rw[if_neg hr2];rw[if_neg hr2]at h';exact wpAny_bind (wpAny_rule (wpAny_pure h'))
end
section
variable{prog:Program}{w:World}{A:Around}{E:Value->Shared->Prop}{s:Shared}
theorem qN{a:Addr}{its:Array Value}{Q:Option (Array Value)->Shared->Prop}(t:IsTup s.heap a its) (h:Q (some its) s):wpAny (model prog w) A (seqItems? (.ref a)) Q E s:=by
 obtain⟨o,ho,hc,c,hd⟩:=t;unfold seqItems?;refine wpAny_bind (wpAny_load ho ?_);rw[hd];exact wpAny_pure h
theorem KAt.item{h:Heap}{n:Nat}{ks:List KD}{its:Array Value}(z:its.size=ks.length) (r:∀(i:Nat) d u,ks[i]?=some d->its[i]?=some u->KAt h n d u) {x:Value}(hx:x∈its.toList):∃k,KAt h n k x:=by
 obtain⟨i,hi⟩:=List.mem_iff_getElem?.mp hx;rw[Array.getElem?_toList]at hi;have lt:=(Array.getElem?_eq_some_iff.mp hi).1;exact⟨_,r i _ _ (List.getElem?_eq_getElem (by lia)) hi⟩
theorem KAt.quiet:∀(f n:Nat) {k:KD}{v:Value}{Q:Bool->Shared->Prop},n<=f->KAt s.heap n k v->Q true s->wpAny (model prog w) A (eqIsQuiet f v) Q E s:=by
 intro f
 induction f with
 |zero =>
  intro n k v Q hn q h;obtain rfl:n=0:=by lia
  cases k with
  |int i=>obtain⟨t,rfl⟩:=q;exact wpAny_pure h
  |str i=>obtain⟨t,rfl⟩:=q;exact wpAny_pure h
  |tup _=>exact q.elim
 |succ f ih =>
  intro n k v Q hn q h;cases k with
  |int i=>obtain⟨t,rfl⟩:=lY.mp q;exact wpAny_pure h
  |str i=>obtain⟨t,rfl⟩:=lQ.mp q;exact wpAny_pure h
  |tup ks =>
   cases n with
   |zero=>exact q.elim
   |succ n =>
    obtain⟨a,its,rfl,tp,z,r⟩:=q;have hT:s.TypeIs (.ref a) "tuple":=by obtain⟨o,ho,hc,_⟩:=tp;exact⟨o,ho,hc⟩
    unfold eqIsQuiet;refine wpAny_bind (wpAny_specialOf hT F.slot_tuple_eq.lookup ?_);show wpAny _ _ (isInstance (.ref a) (.type "tuple") >>= _) _ _ s;refine wpAny_bind (wpAny_isInstance hT isSubtype_tuple_tuple ?_);simp only[Bool.not_true,Bool.false_eq_true,if_false];refine wpAny_bind (qN tp ?_);refine wpAny_bind ?_;show wpAny _ _ (forIn its _ _) _ _ s;rw[<-Array.forIn_toList];refine wpAny_forIn_list _ (fun aK b s'=>s'=s/\b=(none,())/\∀x∈aK,x∈its.toList) _ ?_ ?_ _ _ ⟨rfl,rfl,fun _ z=>z⟩
    ·rintro x aK b s' ⟨rfl,rfl,hr⟩;obtain⟨k,hk⟩:=KAt.item z r (hr x (.head _));refine wpAny_bind (ih n (by lia) hk ?_);simp only[Bool.not_true,Bool.false_eq_true,if_false];exact wpAny_pure ⟨rfl,rfl,fun y hy=>hr y (.tail _ hy)⟩
    ·rintro b s' ⟨rfl,rfl,_⟩;exact wpAny_pure h
theorem KAt.noCls:∀(f n:Nat) {k:KD}{v:Value}{Q:Bool->Shared->Prop},n<=f->KAt s.heap n k v->Q false s->wpAny (model prog w) A (ofAClassStatement f v) Q E s:=by
 intro f
 induction f with
 |zero =>
  intro n k v Q hn q h;obtain rfl:n=0:=by lia
  cases k with
  |int i=>obtain⟨t,rfl⟩:=q;exact wpAny_pure h
  |str i=>obtain⟨t,rfl⟩:=q;exact wpAny_pure h
  |tup _=>exact q.elim
 |succ f ih =>
  intro n k v Q hn q h;cases k with
  |int i=>obtain⟨t,rfl⟩:=lY.mp q;exact wpAny_pure h
  |str i=>obtain⟨t,rfl⟩:=lQ.mp q;exact wpAny_pure h
  |tup ks =>
   cases n with
   |zero=>exact q.elim
   |succ n =>
    obtain⟨a,its,rfl,tp,z,r⟩:=q;have hT:s.TypeIs (.ref a) "tuple":=by obtain⟨o,ho,hc,_⟩:=tp;exact⟨o,ho,hc⟩
    unfold ofAClassStatement;refine wpAny_bind (wpAny_typeOf hT ?_);dsimp only;rw[if_pos (by rfl)];refine wpAny_bind (wpAny_pure ?_);simp only[Bool.not_true,Bool.false_eq_true,if_false];refine wpAny_bind (qN tp ?_);dsimp only;refine wpAny_bind ?_;rw[<-Array.forIn_toList];refine wpAny_forIn_list _ (fun aK b s'=>s'=s/\b=(none,())/\∀x∈aK,x∈its.toList) _ ?_ ?_ _ _ ⟨rfl,rfl,fun _ z=>z⟩
    ·rintro x aK b s' ⟨rfl,rfl,hr⟩;obtain⟨k,hk⟩:=KAt.item z r (hr x (.head _));refine wpAny_bind (ih n (by lia) hk ?_);simp only[Bool.false_eq_true,if_false];exact wpAny_pure ⟨rfl,rfl,fun y hy=>hr y (.tail _ hy)⟩
    ·rintro b s' ⟨rfl,rfl,_⟩;exact wpAny_pure h
theorem KAt.byV:∀(f n:Nat) {k:KD}{v:Value}{Q:Bool->Shared->Prop},KAt s.heap n k v->(∀b,Q b s)->wpAny (model prog w) A (hashByValue f v) Q E s:=by
 intro f
 induction f with
 |zero =>
  intro n k v Q q h;cases k with
  |int i=>obtain⟨t,rfl⟩:=lY.mp q;exact wpAny_pure (h _)
  |str i=>obtain⟨t,rfl⟩:=lQ.mp q;exact wpAny_pure (h _)
  |tup _=>cases n with
   |zero=>exact q.elim
   |succ n=>obtain⟨a,its,rfl,_⟩:=q;exact wpAny_pure (h _)
 |succ f ih =>
  intro n k v Q q h;cases k with
  |int i=>obtain⟨t,rfl⟩:=lY.mp q;exact wpAny_pure (h _)
  |str i=>obtain⟨t,rfl⟩:=lQ.mp q;exact wpAny_pure (h _)
  |tup ks =>
   cases n with
   |zero=>exact q.elim
   |succ n =>
    obtain⟨a,its,rfl,tp,z,r⟩:=q;have hT:s.TypeIs (.ref a) "tuple":=by obtain⟨o,ho,hc,_⟩:=tp;exact⟨o,ho,hc⟩
    unfold hashByValue;refine wpAny_bind (wpAny_specialOf hT F.slot_tuple_hash.lookup ?_);dsimp only;refine wpAny_bind (qN tp ?_);refine wpAny_bind ?_;show wpAny _ _ (forIn its _ _) _ _ s;rw[<-Array.forIn_toList];refine wpAny_forIn_list _ (fun aK b s'=>s'=s/\b=(none,())/\∀x∈aK,x∈its.toList) _ ?_ ?_ _ _ ⟨rfl,rfl,fun _ z=>z⟩
    ·rintro x aK b s' ⟨rfl,rfl,hr⟩;obtain⟨k,hk⟩:=KAt.item z r (hr x (.head _));refine wpAny_bind (ih n hk fun b=>?_);cases b with
     |true =>
      simp only[Bool.not_true,Bool.false_eq_true,if_false];exact wpAny_pure ⟨rfl,rfl,fun y hy=>hr y (.tail _ hy)⟩
     |false =>
      simp only[Bool.not_false,if_true];exact wpAny_pure (wpAny_pure (h _))
    ·rintro b s' ⟨rfl,rfl,_⟩;exact wpAny_pure (h _)
end
def nI(h0 h:Heap):Prop:=∀b o,h0.get? b=some o->h.get? b=some o
theorem KAt.kept{h0 h:Heap}{n:Nat}{d:KD}{v:Value}(q:KAt h0 n d v) (k:nI h0 h):KAt h n d v:=q.up fun b o _ e=>k b o e
def tK(prog:Program) (w:World) (n:Nat) (hn:n<=8) (h0:Heap) (V:Value->Prop):TK prog w (List KD) where
 is h ks v:=nI h0 h/\KAt h0 n (.tup ks) v/\V v
 hash ks:=hK w n (.tup ks)
 room A:=A.units+n<cLine
 pyHash hr hx h:=KAt.hash n hr (hx.2.1.kept hx.1) (h _ (Nat.le_add_right _ _))
 eqB hr hx hy:=by
  obtain⟨b,h1,h2⟩:=KAt.eq n hr (hx.2.1.kept hx.1) (hy.2.1.kept hy.1);exact⟨b,by rw[h1];simp,h2⟩
 quiet _ hx h:=KAt.quiet 8 n hn (hx.2.1.kept hx.1) h
 noCls _ hx h:=KAt.noCls 8 n hn (hx.2.1.kept hx.1) h
 byV _ hx h:=KAt.byV 8 n (hx.2.1.kept hx.1) h
 ref {h x v} hx:=by
  obtain⟨_,hx,_⟩:=hx;cases n with
  |zero=>exact hx.elim
  |succ n=>obtain⟨a,_,e,_⟩:=hx;exact⟨a,e⟩
end L2
namespace L2
open PySem PySem.Spec PyProof.Rows
open Classical in
def eG{τ:Type}(xs:List τ) (x:τ):List τ:=if x∈xs then xs else xs++[x]
def dN{τ:Type}(xs:List τ):List τ:=xs.foldl eG []
section
variable{τ:Type}
theorem uj(xs:List τ) (x:τ):(eG xs x).length<=xs.length+1:=by unfold eG;split<;>simp
theorem uB(xs:List τ) (x y:τ):y∈eG xs x↔y∈xs∨y=x:=by
 unfold eG;split
 ·rename_i h;exact⟨.inl,fun q=>q.elim id fun e=>e▸h⟩
 ·simp
theorem mN:∀(xs zs:List τ),(xs.foldl eG zs).length<=zs.length+xs.length
 |[],_=>Nat.le_refl _
 |x::xs,zs=>by
  have:=mN xs (eG zs x);have:=uj zs x;simp only[List.foldl_cons,List.length_cons];lia
theorem m5:∀(xs zs:List τ) (y:τ),y∈xs.foldl eG zs↔y∈zs∨y∈xs
 |[],_,_=>by simp
 |x::xs,zs,y=>by
  rw[List.foldl_cons,m5 xs,uB,List.mem_cons,or_assoc]
theorem kY(xs:List τ) (y:τ):y∈dN xs↔y∈xs:=by rw[dN,m5];simp
theorem fU(xs:List τ):(dN xs).length<=xs.length:=by have:=mN xs [];simpa[dN]using this
theorem ug(xs:List τ) (i:Nat) (h:i<xs.length):dN (xs.take (i+1))=eG (dN (xs.take i)) xs[i]:=by
 rw[List.take_succ_eq_append_getElem h,dN,List.foldl_append];rfl
theorem wj{xs:List τ}(h:xs.Nodup) (x:τ):(eG xs x).Nodup:=by
 unfold eG;split
 ·exact h
 ·rename_i c;rw[List.nodup_append];exact⟨h,by simp,fun a ha b hb=>by rw[List.mem_singleton]at hb;rintro rfl;exact c (hb▸ha)⟩
theorem qo:∀(xs zs:List τ),zs.Nodup->(xs.foldl eG zs).Nodup
 |[],_,h=>h
 |x::xs,zs,h=>qo xs _ (wj h x)
theorem tF(xs:List τ):(dN xs).Nodup:=qo xs [] .nil
end
section
variable{prog:Program}{w:World}{A:Around}{R:Result->Shared->Prop}{I:Addr}{fp wr:List Addr}{G:Array GenState->Array GenState->Prop}{P:Nat->Value->Prop}{St:Nat->Shared->Prop}
theorem FP{V:Value->Prop}{n:Nat}{hn:n<=8}{h0:Heap}{xs:List (List KD)}(W:WalksS prog w A.in1 I fp wr G xs.length P St) (S:Addr) (hSf:S∉fp)
  (hfr:∀b∈S::wr,h0.get? b=none) (hu:A.in1.units+n<cLine) (hval:∀i v (h:i<xs.length),P i v->KAt h0 n (.tup xs[i]) v/\V v) (hb:xs.length<1000) :
  ∀(k i:Nat) (s:Shared),xs.length-i=k->i<=xs.length->St i s->nI h0 s.heap->i6 (tK prog w n hn h0 V) s.heap S (dN (xs.take i)) ->
   (∀s',Moved (S::wr) G s s'->nI h0 s'.heap->i6 (tK prog w n hn h0 V) s'.heap S (dN xs)->R (.ok (.ret .none)) s') ->
   codeAny (model prog w) A (.builtin "set.update.loop" ⟨[.ref S,.ref I],[]⟩) R s:=by
 have hSw:S∉wr:=fun h=>hSf (W.sub _ h);have hsub:∀b∈wr,b∈S::wr:=fun b hb=>List.mem_cons_of_mem _ hb;intro k
 induction k with
 |zero =>
  intro i s hk hi hst hK hS hR;have hin:i=xs.length:=by lia
  subst hin;refine codeAny_builtin F.entry_set_update_loop ?_;rw[Around.under_plainId F.plain_set_update_loop _];show wpAny _ A.in1 (pyNext (.ref I) >>= _) _ _ s;refine wpAny_bind (W.done s _ _ hst fun s' hm=>?_);show wpAny _ A.in1 (ret Value.none) _ _ s';rw[List.take_length]at hS;have hK':nI h0 s'.heap:=fun b o e=>hm.heap b o (fun q=>by rw[hfr b (hsub b q)]at e;cases e) (hK b o e);exact wpAny_pure (hR s' (hm.mono hsub) hK' (hS.mono (fun o e=>hm.heap S _ hSw e) fun z v q=>⟨hK',q.2⟩))
 |succ k ih =>
  intro i s hk hi hst hK hS hR;have hlt:i<xs.length:=by lia
  refine codeAny_builtin F.entry_set_update_loop ?_;rw[Around.under_plainId F.plain_set_update_loop _];show wpAny _ A.in1 (pyNext (.ref I) >>= _) _ _ s;refine wpAny_bind (W.item i s _ _ hlt hst fun v s' hP hst' hm=>?_);have hx:=hval i v hlt hP;have hK':nI h0 s'.heap:=fun b o e=>hm.heap b o (fun q=>by rw[hfr b (hsub b q)]at e;cases e) (hK b o e);have hS':i6 (tK prog w n hn h0 V) s'.heap S (dN (xs.take i)):=hS.mono (fun o e=>hm.heap S _ hSw e) fun z v q=>⟨hK',q.2⟩;show wpAny _ A.in1 (holding [v] (setAdd S v) >>= _) _ _ s';refine wpAny_bind (wpAny_holding ?_);unfold setAdd;refine wpAny_holding ?_;refine wpAny_bind ((tK prog w n hn h0 V).pyHash (x:=xs[i]) hu ⟨hK',hx⟩ fun tk htk=>?_);have hroom:(dN (xs.take i)).length<1000:=by have:=fU (xs.take i);rw[List.length_take]at this;lia
  have kpt:∀h',Heap.SameBut S s'.heap h'->nI h0 h':=fun h' sb b o e=>by
   rw[sb.2 b fun z=>by rw[z,hfr S (.head _)]at e;cases e];exact hK' b o e
  refine Fm (s:={ s' with toks:=tk }) (κ:=tK prog w n hn h0 V) hu ⟨hK',hx⟩ hS' hroom (fun h' z v sb q=>⟨kpt h' sb,q.2⟩) fun b h' hsb y1 y2=>?_;have hSi:i6 (tK prog w n hn h0 V) h' S (dN (xs.take (i+1))):=by
   rw[ug xs i hlt];unfold eG
   split
   ·rename_i c;exact y1 c
   ·rename_i c;exact y2 c
  refine wpAny_pure ⟨plainId_quiet F.plain_set_update_loop _,ih (i+1) _ (by lia) hlt (W.frame _ s' _ _ hst' htk fun b hb o e=>?_) (kpt h' hsb) hSi fun s'' hm'' hK'' hS''=>?_⟩
  ·rw[hsb.2 b (fun h:b=S=>hSf (by rw[<-h];exact hb))];exact e
  ·refine hR s'' (Moved.trans W.gtrans ((hm.mono hsub).then_heap htk fun b o hb e=>?_) hm'') hK'' hS'';rw[hsb.2 b (fun h:b=S=>hb (by rw[h];exact List.mem_cons_self))];exact e
end
section
variable{prog:Program}{w:World}{A:Around}{E:Value->Shared->Prop}{s:Shared}
theorem BE{V:Value->Prop}{n:Nat}{hn:n<=8}{h0 h:Heap}{a:Addr}(g:h.get? a=some (mC w)):i6 (tK prog w n hn h0 V) h a [] :=
 ⟨_,#[],0,_,[],⟨g,⟨rfl,rfl,rfl⟩,rfl,⟨rfl,fun i z hz=>by simp at hz⟩,.nil,⟨rfl,fun i j _ hj=>by simp[SetTable.fresh]at hj,fun i hi=>by simp[SetTable.fresh]at hi,rfl,⟨3,by lia,rfl⟩,by simp[SetTable.fresh],fun i h q=>by simp[cZ]at q⟩,rfl,by simp[SetTable.fresh],.inl (by simp[SetTable.fresh])⟩,.refl _⟩
set_option maxHeartbeats 3200000 in
theorem uD{n:Nat}{hn8:n<=8}{l:Addr}{items:Array Value}{xs:List (List KD)}{Q:Value->Shared->Prop}
  (hh:A.handled=none) (hu:A.units+n+8<cLine) (hl:s.heap.IsList l items) (hn:items.size=xs.length) (hi:∀(i:Nat) k u,xs[i]?=some k->items[i]?=some u->KAt s.heap n (.tup k) u) (hb:xs.length<1000)
  (h:∀(h':Heap) (tk:Nat),i6 (tK prog w n hn8 s.heap (·∈items)) h' s.heap.objs.size (dN xs)->nI s.heap h'->Q (.ref s.heap.objs.size) { s with heap:=h',toks:=tk }) :
  wpAny (model prog w) A (call (.type "set") [.ref l]) Q E s:=by
 obtain⟨c,tl,hmro⟩:=PySem.F.called_set.mro;have hmade:=PySem.F.called_set.made;have hsub:=PySem.F.called_set.sub;refine wpAny_call (codeAny_of_tree ?_);show wpAny _ _ (callAny (.type "set") _) _ _ _;refine wpAny_pure ⟨Code.quiet_builtin _ (by decide +kernel),codeAny_builtin PySem.F.entry_type_call ?_⟩;rw[Around.under_plain (weight_type_call_type "set" [.ref l] []) rfl];have h1:=PySem.F.called_set.notType;have h2:=PySem.F.called_set.canCreate;have hct:=PySem.F.typeCall_set_1 (.ref l)
 repeat (any_goals (first|assumption|wp_step))
 refine codeAny_mono (vC (.ref l) (E:=E) (Q₁:=fun obj s₁=>obj=.ref s.heap.objs.size/\s₁={ s with heap:=s.heap.push (mC w) }) ⟨rfl,rfl⟩) fun r s₁ hr=>?_;cases r with
 |error e=>exact hr
 |ok fl =>
  cases fl with
  |ret obj =>
   obtain⟨rfl,rfl⟩:=hr;have hS:(s.heap.push (mC w)).get? s.heap.objs.size=some (mC w):=Heap.get?_push_size _ rfl;have hT:Shared.TypeIs { s with heap:=s.heap.push (mC w) } (.ref s.heap.objs.size) "set":=⟨_,hS,rfl⟩;have hli:=PySem.F.called_set.init.lookup;have hbi:=PySem.F.called_set.init.bind (.ref s.heap.objs.size)
   repeat (any_goals (first|assumption|wp_step))
   refine codeAny_mono (codeAny_call_builtin (R:=wants (fun r s₂=>r=.none/\∃h' tk,s₂={ s with heap:=h',toks:=tk } /\
     i6 (tK prog w n hn8 s.heap (·∈items)) h' s.heap.objs.size (dN xs)/\nI s.heap h') E) PySem.F.called_set.init.plain PySem.F.entry_set_init (check_set_init_1 hT ?_)) fun r₂ s₂ hr₂=>?_
   ·obtain⟨ol,hol,hcl,nl,hdl⟩:=hl;obtain⟨ocls,odict,odata,oslots⟩:=ol;simp only at hcl hdl;subst hcl;subst hdl;have hol':(s.heap.push (mC w)).get? l=some { cls:=.type "list",dict:=odict,data:=.seq items nl,slots:=oslots }:=Heap.get?_push_of_some _ hol;have hsls:=PySem.F.sub_list_set;have hslf:=PySem.F.sub_list_frozenset;have hne:(Value.type "list"==Value.type "dict")=false:=by decide
    have hl1:(s.heap.push (mC w)).IsList l items:=⟨_,hol',rfl,nl,rfl⟩;unfold Builtin.«set.__init__» noKeywords Builtin.Frozenset.updateFrom;generalize hPI:pyIter=PI
    wp_walk
    subst hPI;refine wpAny_pyIter_list hl1 ?_;refine wpAny_bind (wpAny_runValue ?_);have hlS:l<s.heap.objs.size:=Heap.lt_size hol;have hh3:A.in1.in1.in1.handled=none:=by simp[hh]
    have hneI:l≠(s.heap.push (mC w)).objs.size:=by
     rw[Heap.size_push];exact Nat.ne_of_lt (Nat.lt_succ_of_lt hlS)
    have hSf:s.heap.objs.size∉[(s.heap.push (mC w)).objs.size,l]:=by
     rw[Heap.size_push];simp only[List.mem_cons,List.mem_singleton,List.not_mem_nil,or_false,not_or];exact⟨Nat.ne_of_lt (Nat.lt_succ_self _),Nat.ne_of_gt hlS⟩
    have W:=(Walks.list (prog:=prog) (w:=w) hh3 _ l hneI items).toS;rw[hn]at W;have frs:∀b,s.heap.objs.size<=b->s.heap.get? b=none:=fun b hb=>Heap.get?_none_of_le hb;refine FP (V:=(·∈items)) (n:=n) (hn:=hn8) (h0:=s.heap) (xs:=xs) W s.heap.objs.size hSf (fun b hb=>?_) (show A.units+1+1+1+n<cLine by lia) (fun i v hlt hv=>⟨hi i _ _ (List.getElem?_eq_getElem hlt) hv,Array.mem_of_getElem? hv⟩) hb (xs.length-0) 0 _ (by lia) (Nat.zero_le _) ?St0 ?hK0 ?hS0 ?hR
    case St0=>exact⟨⟨_,Heap.get?_push_size _ rfl,rfl,rfl⟩,(hl1.push _)⟩
    ·rcases List.mem_cons.mp hb with rfl|hb
     ·exact frs _ (Nat.le_refl _)
     ·rw[List.mem_singleton.mp hb,Heap.size_push];exact frs _ (Nat.le_succ _)
    case hK0=>exact fun b o e=>Heap.get?_push_of_some _ (Heap.get?_push_of_some _ e)
    case hS0=>exact BE (Heap.get?_push_of_some _ hS)
    case hR =>
     intro s' hm hK' hS';obtain⟨h',g',d',tk',os'⟩:=s';have eg:g'=s.gens:=hm.gens;have ed:d'=s.drawn:=hm.drawn;have eo:os'=s.os:=hm.os;subst eg;subst ed;subst eo;show wpAny _ _ _ _ _ _;refine wpAny_pure ?_;show wpAny _ _ (ret Value.none) _ _ _;exact wpAny_pure ⟨rfl,h',tk',rfl,hS',hK'⟩
   ·cases r₂ with
    |error e=>exact hr₂
    |ok fl₂ =>
     cases fl₂ with
     |ret r =>
      obtain⟨rfl,h',tk,rfl,hS',hk'⟩:=hr₂
      repeat (any_goals (first|assumption|wp_step))
      exact h _ _ hS' hk'
     |_=>exact hr₂.elim
  |_=>exact hr.elim
end
end L2
namespace L2
open PySem PySem.Spec PyProof.Rows PySem.SeqAt
open Classical in
mutual
def ltK:KD->KD->Bool
 |.int i,.int j=>decide (i<j)
 |.int _,.str _=>true
 |.int _,.tup _=>true
 |.str _,.int _=>false
 |.str a,.str b=>ltS a b
 |.str _,.tup _=>true
 |.tup _,.int _=>false
 |.tup _,.str _=>false
 |.tup a,.tup b=>aW a b
def aW:List KD->List KD->Bool
 |[],[]=>false
 |[],_::_=>true
 |_::_,[]=>false
 |a::as,b::bs=>if a=b then aW as bs else ltK a b
end
mutual
theorem zT:∀a:KD,ltK a a=false
 |.int i=>by simp[ltK]
 |.str a=>by simp only[ltK];exact xX a
 |.tup a=>by simp only[ltK];exact ir a
theorem ir:∀a:List KD,aW a a=false
 |[]=>by simp[aW]
 |a::as=>by simp only[aW,if_true];exact ir as
end
mutual
theorem yV:∀a b:KD,ltK a b=false->ltK b a=false->a=b
 |.int i,.int j,h1,h2=>by simp[ltK]at h1 h2;congr 1;lia
 |.int _,.str _,h1,_=>by simp[ltK]at h1
 |.int _,.tup _,h1,_=>by simp[ltK]at h1
 |.str _,.int _,_,h1=>by simp[ltK]at h1
 |.str a,.str b,h1,h2=>by simp only[ltK]at h1 h2;rw[zk h1 h2]
 |.str _,.tup _,h1,_=>by simp[ltK]at h1
 |.tup _,.int _,_,h1=>by simp[ltK]at h1
 |.tup _,.str _,_,h1=>by simp[ltK]at h1
 |.tup a,.tup b,h1,h2=>by simp only[ltK]at h1 h2;rw[fH a b h1 h2]
theorem fH:∀a b:List KD,aW a b=false->aW b a=false->a=b
 |[],[],_,_=>rfl
 |[],_::_,h1,_=>by simp[aW]at h1
 |_::_,[],_,h1=>by simp[aW]at h1
 |a::as,b::bs,h1,h2=>by
  simp only[aW]at h1 h2
  by_cases c:a=b
  ·subst c;rw[if_pos rfl]at h1 h2;rw[fH as bs h1 h2]
  ·rw[if_neg c]at h1;rw[if_neg fun z=>c z.symm]at h2;exact absurd (yV a b h1 h2) c
end
mutual
theorem A6:∀a b c:KD,ltK a b=true->ltK b c=true->ltK a c=true
 |.int i,.int j,.int k,h1,h2=>by simp[ltK]at h1 h2 ⊢;lia
 |.int _,.str _,.int _,_,h2=>by simp[ltK]at h2
 |.int _,.tup _,.int _,_,h2=>by simp[ltK]at h2
 |.int _,_,.str _,_,_=>by simp[ltK]
 |.int _,_,.tup _,_,_=>by simp[ltK]
 |.str _,.int _,_,h1,_=>by simp[ltK]at h1
 |.str a,.str b,.str c,h1,h2=>by simp only[ltK]at h1 h2 ⊢;exact uO h1 h2
 |.str _,.str _,.int _,_,h2=>by simp[ltK]at h2
 |.str _,.tup _,.int _,_,h2=>by simp[ltK]at h2
 |.str _,.tup _,.str _,_,h2=>by simp[ltK]at h2
 |.str _,_,.tup _,_,_=>by simp[ltK]
 |.tup _,.int _,_,h1,_=>by simp[ltK]at h1
 |.tup _,.str _,_,h1,_=>by simp[ltK]at h1
 |.tup _,.tup _,.int _,_,h2=>by simp[ltK]at h2
 |.tup _,.tup _,.str _,_,h2=>by simp[ltK]at h2
 |.tup a,.tup b,.tup c,h1,h2=>by simp only[ltK]at h1 h2 ⊢;exact iB a b c h1 h2
theorem iB:∀a b c:List KD,aW a b=true->aW b c=true->aW a c=true
 |_,[],[],_,h2=>by simp[aW]at h2
 |_,_::_,[],_,h2=>by simp[aW]at h2
 |[],_,_::_,_,_=>by simp[aW]
 |_::_,[],_::_,h1,_=>by simp[aW]at h1
 |a::as,b::bs,c::cs,h1,h2=>by
  simp only[aW]at h1 h2 ⊢
  by_cases e1:a=b
  ·subst e1;rw[if_pos rfl]at h1
   by_cases e2:a=c
   ·rw[if_pos e2]at h2 ⊢;exact iB as bs cs h1 h2
   ·rw[if_neg e2]at h2 ⊢;exact h2
  ·rw[if_neg e1]at h1
   by_cases e2:b=c
   ·subst e2;rw[if_neg e1];exact h1
   ·rw[if_neg e2]at h2;have h3:=A6 a b c h1 h2
    by_cases e3:a=c
    ·subst e3;rw[zT]at h3;cases h3
    ·rw[if_neg e3];exact h3
end
def zD:KeyOrd where
 α:=List KD
 blt:=aW
 irrefl:=ir
 trans:=iB
 negTrans a b c h:=by
  cases h1:aW a b with
  |true=>exact .inl rfl
  |false =>
   refine .inr ?_;cases h2:aW b a with
   |true=>exact iB _ _ _ h2 h
   |false=>rw[<-fH _ _ h1 h2];exact h
 total:=fH
def leK(a b:List KD):Bool:=not (aW b a)
def bP(ps:List (List KD)):List (List KD):=ps.mergeSort leK
theorem bx(ps:List (List KD)):(bP ps).Perm ps:=List.mergeSort_perm _ _
theorem lO(ps:List (List KD)):(bP ps).Pairwise fun a b=>leK a b=true :=
 List.pairwise_mergeSort (fun a b c h1 h2=>by
  simp only[leK,Bool.not_eq_true']at *
  cases h:aW c a with
  |false=>rfl
  |true =>
   rcases zD.negTrans _ b _ h with z|z
   ·exact absurd z (by rw[show zD.blt c b=aW c b from rfl,h2];simp)
   ·exact absurd z (by rw[show zD.blt b a=aW b a from rfl,h1];simp)) (fun a b=>by
  cases h:leK a b with
  |true=>rfl
  |false =>
   have h':aW b a=true:=by simpa[leK]using h
   cases h2:aW a b with
   |false=>simp[leK,h2]
   |true=>have:=iB _ _ _ h' h2;rw[ir]at this;cases this) ps
theorem oZ{ps qs:List (List KD)}(h:qs.Perm ps) (hs:qs.Pairwise fun a b=>leK a b=true):qs=bP ps :=
 List.Perm.eq_of_pairwise (le:=fun a b=>leK a b=true) (fun a b _ _ h1 h2=>fH _ _ (by simpa[leK]using h2) (by simpa[leK]using h1)) hs (lO ps) (h.trans (bx ps).symm)
mutual
def Cm:KD->KD->Prop
 |.int _,.int _=>True
 |.str _,.str _=>True
 |.tup a,.tup b=>Cms a b
 |_,_=>False
def Cms:List KD->List KD->Prop
 |a::as,b::bs=>Cm a b/\Cms as bs
 |_,_=>True
end
section
variable{prog:Program}{w:World}{A:Around}{E:Value->Shared->Prop}{s:Shared}
theorem vg{n:Nat}{ds es:List KD}{a b:Addr}{Q:Value->Shared->Prop}(hu:A.units+(n+1)<cLine) (q1:KAt s.heap (n+1) (.tup ds) (.ref a)) (q2:KAt s.heap (n+1) (.tup es) (.ref b)) (hc:Cms ds es)
  (ih:∀{A:Around} {E:Value->Shared->Prop} {d e:KD} {v u:Value} {Q:Value->Shared->Prop},A.units+n<cLine->KAt s.heap n d v->KAt s.heap n e u->Cm d e->Q (.bool (ltK d e)) s->wpAny (model prog w) A (richCompare .Lt v u) Q E s)
  (h:Q (.bool (aW ds es)) s):wpAny (model prog w) A (call (.builtin "tuple.__lt__") [.ref a,.ref b]) Q E s:=by
 obtain⟨_,its,e1,t1,z1,r1⟩:=q1;obtain⟨_,its2,e2,t2,z2,r2⟩:=q2;cases e1;cases e2;obtain⟨o1,g1,c1,n1,d1⟩:=id t1;obtain⟨o2,g2,c2,n2,d2⟩:=id t2;have T1:s.TypeIs (.ref a) "tuple":=⟨o1,g1,c1⟩;have T2:s.TypeIs (.ref b) "tuple":=⟨o2,g2,c2⟩;refine wpAny_call_entry F.slot_tuple_lt T1 F.entry_tuple_lt ?_ (F.args_tuple_lt_2 _ _);show wpAny _ _ (isInstance (.ref b) (.type "tuple") >>= _) _ _ s;refine wpAny_bind (wpAny_isInstance T2 isSubtype_tuple_tuple ?_);simp only[Bool.not_true,Bool.false_eq_true,if_false];refine wpAny_bind (wpAny_tupleItemsOf g1 d1 ?_);refine wpAny_bind (wpAny_tupleItemsOf g2 d2 ?_);refine wpAny_bind ?_;refine wpAny_forIn_list _ (fun aK r s'=>r.1=none/\s'=s/\∃m,m<=min its.size its2.size/\aK=(its.toList.zip its2.toList).drop m/\aW ds es=aW (ds.drop m) (es.drop m)/\Cms (ds.drop m) (es.drop m)) _ ?_ ?_ _ _ ⟨rfl,rfl,0,Nat.zero_le _,rfl,rfl,hc⟩
 ·rintro⟨x,y⟩ aK r s' ⟨hr,rfl,m,_,hz,hl,hcm⟩;have hlt:m<(its.toList.zip its2.toList).length:=by
   rcases Nat.lt_or_ge m (its.toList.zip its2.toList).length with q|q
   ·exact q
   ·rw[List.drop_eq_nil_of_le q]at hz;cases hz
  have hlt':m<its.size/\m<its2.size:=by
   rw[List.length_zip,Array.length_toList,Array.length_toList]at hlt;lia
  rw[List.drop_eq_getElem_cons hlt]at hz;injection hz with hxy hrest
  have hx:x=its[m]'hlt'.1:=by have:=congrArg Prod.fst hxy;simpa using this
  have hy:y=its2[m]'hlt'.2:=by have:=congrArg Prod.snd hxy;simpa using this
  subst hx hy;have m1:m<ds.length:=by lia
  have m2:m<es.length:=by lia
  have k1:=r1 m _ _ (List.getElem?_eq_getElem m1) (Array.getElem?_eq_getElem hlt'.1);have k2:=r2 m _ _ (List.getElem?_eq_getElem m2) (Array.getElem?_eq_getElem hlt'.2);rw[List.drop_eq_getElem_cons m1,List.drop_eq_getElem_cons m2]at hl hcm;simp only[aW,Cms]at hl hcm;obtain⟨bb,b1,b2⟩:=KAt.eq n (A:=A.in1) (show A.units+1+n<cLine by lia) k1 k2;refine wpAny_bind (b2 prog w _ _ ?_);cases bb with
  |true =>
   rw[if_pos (b1.mp rfl)]at hl;simp only[Bool.not_true,Bool.false_eq_true,if_false];exact wpAny_pure ⟨rfl,rfl,m+1,by lia,hrest,hl,hcm.2⟩
  |false =>
   have ne:¬ ds[m]=es[m]:=fun z=>by have:=b1.mpr z;cases this
   rw[if_neg ne]at hl;simp only[Bool.not_false,if_true];refine wpAny_bind (wpAny_rule ?_);refine wpAny_bind (ih (A:=A.in1) (show A.units+1+n<cLine by lia) k1 k2 hcm.1 ?_);rw[<-hl];exact wpAny_bind (wpAny_pure (wpAny_pure (wpAny_pure ⟨_,rfl,h⟩)))
 ·rintro⟨r1',r2'⟩ s' ⟨hr,rfl,m,hm,hz,hl,_⟩;simp only at hr;subst hr;have hge:min its.size its2.size<=m:=by
   rcases Nat.lt_or_ge m (its.toList.zip its2.toList).length with q|q
   ·rw[List.drop_eq_getElem_cons q]at hz;cases hz
   ·simpa[List.length_zip]using q
  refine wpAny_pure ⟨_,rfl,?_⟩;show Q (.bool (decide (its.size<its2.size))) s';have:aW ds es=decide (its.size<its2.size):=by
   rw[hl];rcases Nat.lt_or_ge its.size its2.size with q|q
   ·rw[decide_eq_true q,List.drop_eq_nil_of_le (by lia),List.drop_eq_getElem_cons (show m<es.length by lia)];simp[aW]
   ·rw[decide_eq_false (by lia),show es.drop m=[]from List.drop_eq_nil_of_le (by lia)];cases ds.drop m<;>simp[aW]
  rw[<-this];exact h
theorem E7(n:Nat):∀{A:Around}{E:Value->Shared->Prop}{d e:KD}{v u:Value}{Q:Value->Shared->Prop},A.units+n<cLine->KAt s.heap n d v->KAt s.heap n e u->Cm d e->Q (.bool (ltK d e)) s->wpAny (model prog w) A (richCompare .Lt v u) Q E s:=by
 have hI:∀{A:Around} {E:Value->Shared->Prop} {i j:Int} {t t':Tok} {Q:Value->Shared->Prop},Q (.bool (decide (i<j))) s->wpAny (model prog w) A (richCompare .Lt (.int i t) (.int j t')) Q E s:=fun h=>wpAny_lt_int h;have hS:∀{A:Around} {E:Value->Shared->Prop} {i j:Str} {t t':Tok} {Q:Value->Shared->Prop},Q (.bool (ltS i j)) s->wpAny (model prog w) A (richCompare .Lt (.str i t) (.str j t')) Q E s:=fun {A E i j t t' Q} h =>
  wpAny_richCompare_same (op:=.Lt) (T:="str") (typeIs_str s i t) (typeIs_str s j t') slot_str_lt (call_str_lt ⟨fun z=>(by cases z),h⟩)
 induction n with
 |zero =>
  intro A E d e v u Q hu q1 q2 hc h;cases d<;>cases e<;>first|exact hc.elim|exact q1.elim|skip
  ·obtain⟨t,rfl⟩:=q1;obtain⟨t',rfl⟩:=q2;exact hI (by simpa only[ltK]using h)
  ·obtain⟨t,rfl⟩:=q1;obtain⟨t',rfl⟩:=q2;exact hS (by simpa only[ltK]using h)
 |succ n ih =>
  intro A E d e v u Q hu q1 q2 hc h;cases d<;>cases e<;>first|exact hc.elim|skip
  ·obtain⟨t,rfl⟩:=q1;obtain⟨t',rfl⟩:=q2;exact hI (by simpa only[ltK]using h)
  ·obtain⟨t,rfl⟩:=q1;obtain⟨t',rfl⟩:=q2;exact hS (by simpa only[ltK]using h)
  ·rename_i ds es;obtain⟨a,its,rfl,t1,_⟩:=id q1;obtain⟨b,its2,rfl,t2,_⟩:=id q2;have T1:s.TypeIs (.ref a) "tuple":=by obtain⟨o,ho,hc,_⟩:=t1;exact⟨o,ho,hc⟩
   have T2:s.TypeIs (.ref b) "tuple":=by obtain⟨o,ho,hc,_⟩:=t2;exact⟨o,ho,hc⟩
   exact wpAny_richCompare_same_room (op:=.Lt) T1 T2 F.slot_tuple_lt (vg hu q1 q2 (by simpa only[Cm]using hc) ih ⟨fun z=>(by cases z),by simpa only[ltK]using h⟩) (by lia)
end
end L2
namespace L2
open PySem PySem.W PySem.Calls PyProof.Rows PySem.SeqAt
section
variable{prog:Program}{w:World}{A:Around}{E:Value->Shared->Prop}{s:Shared}
theorem D2{n:Nat}{k:KD}{v:Value}{Q:Value->Shared->Prop}(q:KAt s.heap n k v) (h:∀T,Q T s):wpAny (model prog w) A (typeOf v) Q E s:=by
 cases k with
 |int i=>obtain⟨t,rfl⟩:=lY.mp q;exact wpAny_pure (h _)
 |str i=>obtain⟨t,rfl⟩:=lQ.mp q;exact wpAny_pure (h _)
 |tup ks=>cases n with
  |zero=>exact q.elim
  |succ n =>
   obtain⟨a,its,rfl,⟨o,ho,hc,_⟩,_⟩:=q;exact wpAny_typeOf ⟨o,ho,hc⟩ (h _)
theorem wG{n:Nat}{ds es:List KD}{v u:Value}{Q:Bool->Shared->Prop}(hu:A.units+(n+1)<cLine) (q1:KAt s.heap (n+1) (.tup ds) v) (q2:KAt s.heap (n+1) (.tup es) u) (hc:Cms ds es) (h:Q (aW ds es) s):wpAny (model prog w) A (oneLt' true v u) Q E s:=by
 obtain⟨a,its,rfl,t1,_⟩:=id q1;obtain⟨b,its2,rfl,t2,_⟩:=id q2;have T1:s.TypeIs (.ref a) "tuple":=by obtain⟨o,ho,hc,_⟩:=t1;exact⟨o,ho,hc⟩
 rw[oneLt'_eq];simp only[if_true];refine wpAny_bind (wpAny_cRoomFor_or (.inr (by lia)) ?_);refine wpAny_bind (wpAny_callSpecialIfBound?_slot T1 F.slot_tuple_lt (vg hu q1 q2 hc (E7 n) ?_));exact wpAny_truthy_bool h
theorem Di(f:Bool) {n:Nat}{d e:KD}{v u:Value}{Q:Bool->Shared->Prop}(hu:A.units+n<cLine) (q1:KAt s.heap n d v) (q2:KAt s.heap n e u) (hc:Cm d e) (h:Q (ltK d e) s):wpAny (model prog w) A (oneLt' f v u) Q E s:=by
 cases f with
 |false=>exact kat_one _ _ (E7 n hu q1 q2 hc h)
 |true =>
  cases d with
  |int i=>cases e with
   |int j=>obtain⟨t,rfl⟩:=lY.mp q1;obtain⟨t',rfl⟩:=lY.mp q2;exact oneLt_int (by simpa only[ltK]using h)
   |_=>exact hc.elim
  |str i=>cases e with
   |str j=>obtain⟨t,rfl⟩:=lQ.mp q1;obtain⟨t',rfl⟩:=lQ.mp q2;exact oneLt_str (by simpa only[ltK,ltS]using h)
   |_=>exact hc.elim
  |tup ds=>cases e with
   |tup es=>cases n with
    |zero=>exact q1.elim
    |succ n=>exact wG hu q1 q2 (by simpa only[Cm]using hc) (by simpa only[ltK]using h)
   |_=>exact hc.elim
def SKd(κ:SortKind):Prop:=κ=general'∨κ=oneType'∨∃b,κ=tuples' b
theorem FH{κ:SortKind}(hκ:SKd κ) {n:Nat}{ds es:List KD}{v u:Value}{Q:Bool->Shared->Prop}(hu:A.units+(n+1)<cLine) (q1:KAt s.heap (n+1) (.tup ds) v) (q2:KAt s.heap (n+1) (.tup es) u) (hc:Cms ds es) (h:Q (aW ds es) s):wpAny (model prog w) A (keyLt' κ v u) Q E s:=by
 rcases hκ with rfl|rfl|⟨b,rfl⟩
 ·show wpAny _ _ (oneLt' false v u) _ _ _;exact Di false (d:=.tup ds) (e:=.tup es) hu q1 q2 (by simpa only[Cm]using hc) (by simpa only[ltK]using h)
 ·rw[keyLt'_oneType];exact wG hu q1 q2 hc h
 ·obtain⟨a,its,rfl,⟨o1,g1,c1,n1,d1⟩,z1,r1⟩:=q1;obtain⟨c,its2,rfl,⟨o2,g2,c2,n2,d2⟩,z2,r2⟩:=q2;refine kat_lt g1 d1 g2 d2 ?_;have go:∀k m,ds.length-m=k->m<=min its.size its2.size->aW ds es=aW (ds.drop m) (es.drop m)->Cms (ds.drop m) (es.drop m)->KatLex prog w A b (decide (its.size<its2.size)) Q ((its.toList.zip its2.toList).drop m) m s:=by
   intro k
   induction k with
   |zero =>
    intro m hk hm hl _;rw[List.drop_eq_nil_of_le (by rw[List.length_zip,Array.length_toList,Array.length_toList];lia)];refine kat_nil ?_;have:decide (its.size<its2.size)=aW ds es:=by
     rw[hl,List.drop_eq_nil_of_le (show ds.length<=m by lia)];rcases Nat.lt_or_ge m es.length with q|q
     ·rw[List.drop_eq_getElem_cons q,decide_eq_true (by lia)];simp[aW]
     ·rw[List.drop_eq_nil_of_le q,decide_eq_false (by lia)];simp[aW]
    rw[this];exact h
   |succ k ih =>
    intro m hk hm hl hcm;have m1:m<ds.length:=by lia
    rcases Nat.lt_or_ge m es.length with m2|m2
    ·have hz:m<(its.toList.zip its2.toList).length:=by rw[List.length_zip,Array.length_toList,Array.length_toList];lia
     rw[List.drop_eq_getElem_cons hz];have i1:m<its.size:=by lia
     have i2:m<its2.size:=by lia
     have e:(its.toList.zip its2.toList)[m]=(its[m],its2[m]):=by simp
     rw[e];have k1:=r1 m _ _ (List.getElem?_eq_getElem m1) (Array.getElem?_eq_getElem i1);have k2:=r2 m _ _ (List.getElem?_eq_getElem m2) (Array.getElem?_eq_getElem i2);rw[List.drop_eq_getElem_cons m1,List.drop_eq_getElem_cons m2]at hl hcm;simp only[aW,Cms]at hl hcm;obtain⟨bb,b1,b2⟩:=KAt.eq n (A:=A) (by lia) k1 k2;refine kat_cons (b2 prog w _ _ ?_);cases bb with
     |true =>
      rw[if_pos (b1.mp rfl)]at hl;exact kat_yes (ih (m+1) (by lia) (by lia) hl hcm.2)
     |false =>
      have ne:¬ ds[m]=es[m]:=fun z=>by have:=b1.mpr z;cases this
      rw[if_neg ne]at hl;exact kat_no (Di _ (by lia) k1 k2 hcm.1 (by rw[<-hl];exact h))
    ·rw[List.drop_eq_nil_of_le (by rw[List.length_zip,Array.length_toList,Array.length_toList];lia)];refine kat_nil ?_;have:decide (its.size<its2.size)=aW ds es:=by
      rw[hl,List.drop_eq_nil_of_le m2,List.drop_eq_getElem_cons m1,decide_eq_false (by lia)];simp[aW]
     rw[this];exact h
  exact go _ 0 rfl (Nat.zero_le _) rfl hc
theorem ly{β:Type}{f:Value->Sem β}{R:β->Prop}:∀(l:List Value) {Q:List β->Shared->Prop},(∀v∈l,∀Q':β->Shared->Prop,(∀r,R r->Q' r s)->wpAny (model prog w) A (f v) Q' E s)->(∀rs,(∀r∈rs,R r)->Q rs s)->wpAny (model prog w) A (l.mapM f) Q E s
 |[],Q,_,h=>by rw[List.mapM_nil];exact wpAny_pure (h [] fun _ z=>nomatch z)
 |v::l,Q,hf,h=>by
  rw[List.mapM_cons];refine wpAny_bind (hf v (.head _) _ fun r hr=>wpAny_bind (ly l (fun u hu=>hf u (.tail _ hu)) fun rs hrs=>wpAny_pure (h _ fun x hx=>?_)));rcases List.mem_cons.mp hx with rfl|hx
  ·exact hr
  ·exact hrs x hx
theorem EJ{vs:List Value}{n:Nat}(hv:∀v∈vs,∃k,KAt s.heap (n+1) (.tup k) v) {Q:SortKind->Shared->Prop}(h:∀ κ,SKd κ->Q κ s):wpAny (model prog w) A (keyKind' vs.toArray) Q E s:=by
 have one:∀(l:List Value) (Q':Option Value->Shared->Prop),(∀v∈l,∃n k,KAt s.heap n k v)->(∀r,Q' r s)->wpAny (model prog w) A (oneTypeOnly' l.toArray) Q' E s:=fun l Q' hl hq=>by
  rw[oneTypeOnly'_eq,List.mapM_toArray,map_eq_pure_bind];refine wpAny_bind (wpAny_bind (ly (R:=fun _=>True) l (fun v hv Q' hq=>let⟨n,k,q⟩:=hl v hv;D2 q fun T=>hq T trivial) fun rs _=>wpAny_pure ?_))
  split
  ·exact wpAny_pure (hq _)
  ·exact wpAny_pure (hq _)
 rw[keyKind'_eq,List.mapM_toArray,map_eq_pure_bind];refine wpAny_bind (wpAny_bind (ly (R:=fun r:Option Value=>∀f,r=some f->∃n k,KAt s.heap n k f) vs (fun v hv' Q' hq=>?_) fun rs hrs=>wpAny_pure ?_))
 ·obtain⟨ks,a,its,rfl,⟨o,ho,hc,c,hd⟩,z,r⟩:=hv v hv';show wpAny _ _ (typeOf (.ref a) >>= _) _ _ _;refine wpAny_bind (wpAny_typeOf ⟨o,ho,hc⟩ ?_);rw[if_neg (by decide)];refine wpAny_bind (listItems_at ho hd (wpAny_pure (hq _ fun f hf=>?_)));have lt:=(Array.getElem?_eq_some_iff.mp hf).1;exact⟨n,_,r 0 _ _ (List.getElem?_eq_getElem (by lia)) hf⟩
 ·split
  ·refine wpAny_bind (wpAny_rule ?_);rw[show(rs.toArray.filterMap id)=(rs.filterMap id).toArray by simp];refine wpAny_bind (one _ _ (fun v hv=>?_) fun r=>wpAny_pure (h _ (.inr (.inr ⟨_,rfl⟩))));obtain⟨r,hr,e⟩:=List.mem_filterMap.mp hv;exact hrs r hr v e
  ·split
   ·exact wpAny_pure (h _ (.inl rfl))
   ·refine wpAny_bind (one _ _ (fun v hv'=>let⟨k,q⟩:=hv v hv';⟨_,_,q⟩) fun r=>?_)
    split
    ·exact wpAny_pure (h _ (.inr (.inl rfl)))
    ·exact wpAny_pure (h _ (.inl rfl))
end
section
variable{prog:Program}{w:World}{A:Around}{E:Value->Shared->Prop}{O:KeyOrd}
theorem v8(vs:List Value):vs.toArray.zip vs.toArray=(vs.map fun v=>(v,v)).toArray:=by
 apply Array.ext';rw[Array.toList_zip];show vs.zip vs=_
 induction vs with
 |nil=>rfl
 |cons a l ih=>rw[List.zip_cons_cons,ih];rfl
theorem zi{s:Shared}{x:Addr}{vs:List Value}{n:Nat}{key:Value->O.α}{J:SortKind->Prop}{P:PySem.Fin->Shared->Prop}(hx:s.heap.get? x=some (seqObj "list" vs.toArray n)) (hz:vs.length<=sizeLine)
  (hk:∀s1 Q,2<=vs.length->sU x s s1->(∀ κ,J κ->Q κ s1)->wpAny (model prog w) A (keyKind' vs.toArray) Q (fun _ _=>False) s1)
  (hc:∀ κ,J κ->∀u∈vs,∀v∈vs,∀s1 Q,sU x s s1->Q (O.blt (key u) (key v)) s1->wpAny (model prog w) A (keyLt' κ u v) Q (fun _ _=>False) s1)
  (k:∀(us:List Value) c h',us.Perm vs->us.Pairwise (fun a b=>O.kle (key a) (key b))->(∀b o,b≠x->s.heap.get? b=some o->h'.get? b=some o)->h'.get? x=some (seqObj "list" us.toArray c)->P (.done (.ret .none)) { s with heap:=h' }) :
  wpAny (model prog w) A (Builtin.«list.sort» ⟨[.ref x],[]⟩) P E s:=by
 have lx:x<s.heap.objs.size:=Heap.lt_size hx;obtain⟨c1,h1⟩:∃c,(s.heap.update x (Obj.mapSeq fun _=>#[])).get? x=some (seqObj "list" #[] c):=⟨_,get?_update_seq hx (fun _=>#[])⟩;rw[list_sort_plain];refine wpAny_bind (listItems_at hx rfl (wpAny_bind (listUpdate_at hx rfl (wpAny_bind (seqEpoch_at h1 rfl (wpAny_bind (wpAny_newTuple (wpAny_bind (wpAny_newList (wpAny_holding ?_) (Nat.zero_le _))) ?_)))) ?_ (Nat.zero_le _))))
 rotate_left
 ·exact hz
 ·rw[List.size_toArray];exact hz
 generalize hh:((s.heap.update x (Obj.mapSeq fun _=>#[])).push (seqObj "tuple" vs.toArray 0)).push (seqObj "list" #[] 0)=h2;show wpAny _ A _ P E { s with heap:=h2 };have g2:h2.get? x=some (seqObj "list" #[] c1):=by
  rw[<-hh];exact Heap.get?_push_of_some _ (Heap.get?_push_of_some _ h1)
 have st:sU x s { s with heap:=h2 }:=fun b o ne e=>by
  show h2.get? b=some o;rw[<-hh];exact Heap.get?_push_of_some _ (Heap.get?_push_of_some _ (by rw[Heap.get?_update_ne _ _ _ _ ne];exact e))
 have fin:∀us:List Value,us.Perm vs->us.Pairwise (fun a b=>O.kle (key a) (key b))->P (.done (.ret .none)) { s with heap:=h2.update x (Obj.mapSeq fun _=>us.toArray) }:=fun us hp hr =>
  k us _ _ hp hr (fun b o ne e=>by rw[Heap.get?_update_ne _ _ _ _ ne];exact st b o ne e) (get?_update_seq g2 fun _=>us.toArray)
 dsimp only;rw[v8]
 by_cases few:vs.toArray.size<2
 ·rw[if_pos few,if_pos few];refine wpAny_bind (wpAny_pure ?_);rw[StateT.run_pure];refine wpAny_bind (wpAny_pure ?_);dsimp only;have few':vs.length<2:=by rw[List.size_toArray]at few;exact few
  have e0:(arrOf (SortSt.mk' general' (vs.map fun v=>(v,v)).toArray #[] 7 none)).map (·.2)=vs.toArray:=by
   show(vs.map fun v=>(v,v)).toArray.map (·.2)=_;rw[List.map_toArray,List.map_map];congr 1;exact List.map_id _
  rw[e0];refine wpAny_bind (seqEpoch_at g2 rfl (wpAny_bind (listUpdate_at g2 rfl ?_ (Nat.zero_le _) (by rw[List.size_toArray];exact Nat.le_succ_of_le hz))));simp only[failedOf,bne_self_eq_false,Bool.false_eq_true,if_false];exact wpAny_pure (fin _ (List.Perm.refl _) (by
   rcases vs with _|⟨a,_|⟨b,l⟩⟩
   ·exact .nil
   ·exact .cons (fun _ z=>nomatch z) .nil
   ·exact absurd few' (by simp)))
 ·rw[if_neg few,if_neg few];have two:2<=vs.length:=by rw[List.size_toArray]at few;lia
  refine wpAny_bind (wpAny_mono (hk { s with heap:=h2 } (fun q t=>J q/\t=({ s with heap:=h2 }:Shared)) two st fun κ hκ=>⟨hκ,rfl⟩) ?_ fun _ _ z=>z.elim);rintro κ _ ⟨hκ,rfl⟩;generalize ea:(vs.map fun v=>((v,v):Keyed))=a0;have ma:∀p∈a0,p.1∈vs/\p.2=p.1:=fun p hp=>by
   rw[<-ea]at hp;obtain⟨v,hv,rfl⟩:=List.mem_map.mp hp;exact⟨hv,rfl⟩
  have la:a0.length=vs.length:=by rw[<-ea,List.length_map]
  have hA:gC prog w A { s with heap:=h2 } κ (fun p:Keyed=>key p.1) a0:=fun p hp q hq Q z=>hc κ hκ _ (ma p hp).1 _ (ma q hq).1 _ Q st z;have R:=Cj (E:=E) (st:=SortSt.mk' κ a0.toArray #[] 7 none) (Q:=fun _ st'=>SB a0 κ st'/\Up (fun p:Keyed=>key p.1) (arrOf st') 0 a0.length) hA ⟨List.Perm.refl _,rfl,rfl⟩ rfl (by lia) fun st' a b=>⟨a,b⟩;refine wpAny_bind (wpAny_mono (show wpAny _ _ _ _ _ _ from R) ?_ fun _ _ z=>z);rintro⟨⟨⟩,u⟩ t ⟨rfl,hB,hU⟩;dsimp only;have hp:((arrOf u).toList.map (·.2)).Perm vs:=by
   have h:=hB.perm.map (fun p:Keyed=>p.2);rw[<-ea,List.map_map]at h;exact h.trans (.of_eq (List.map_id _))
  have hw:((arrOf u).toList.map (·.2)).Pairwise (fun a b=>O.kle (key a) (key b)):=by
   rw[List.pairwise_iff_getElem];intro i j hi hj hij;have sz:(arrOf u).size=a0.length:=hB.size;rw[List.length_map,Array.length_toList]at hi hj;have:=hU i j (Nat.zero_le _) (Nat.le_of_lt hij) (by lia);unfold kA at this;have e:∀i (h:i<(arrOf u).size),gA (arrOf u) i=(arrOf u)[i]/\((arrOf u)[i]).2=((arrOf u)[i]).1:=fun i h=>⟨by unfold gA;rw[Array.getElem?_eq_getElem h];rfl,(ma _ (hB.perm.mem_iff.mp (by simp))).2⟩;rw[(e i hi).1,(e j hj).1]at this;simp only[List.getElem_map,Array.getElem_toList,(e i hi).2,(e j hj).2];exact this
  have e0:(arrOf u).map (·.2)=((arrOf u).toList.map (·.2)).toArray:=by apply Array.ext';simp
  rw[e0];refine wpAny_bind (seqEpoch_at g2 rfl (wpAny_bind (listUpdate_at g2 rfl ?_ (Nat.zero_le _) ?_)))
  ·rw[hB.fail];simp only[bne_self_eq_false,Bool.false_eq_true,if_false];exact wpAny_pure (fin _ hp hw)
  ·rw[List.size_toArray,hp.length_eq];exact Nat.le_succ_of_le hz
theorem xZ{s:Shared}{vs:List Value}{key:Value->O.α}{J:SortKind->Prop}{P:PySem.Fin->Shared->Prop}(hz:vs.length<=sizeLine)
  (hk:∀s1 Q,2<=vs.length->(∀b o,s.heap.get? b=some o->s1.heap.get? b=some o)->(∀ κ,J κ->Q κ s1)->wpAny (model prog w) A.in1 (keyKind' vs.toArray) Q (fun _ _=>False) s1)
  (hc:∀ κ,J κ->∀u∈vs,∀v∈vs,∀s1 Q,(∀b o,s.heap.get? b=some o->s1.heap.get? b=some o)->Q (O.blt (key u) (key v)) s1->wpAny (model prog w) A.in1 (keyLt' κ u v) Q (fun _ _=>False) s1)
  (k:∀(us:List Value) x c h',us.Perm vs->us.Pairwise (fun a b=>O.kle (key a) (key b))->s.heap.objs.size<=x->(∀b o,s.heap.get? b=some o->h'.get? b=some o)->h'.get? x=some (seqObj "list" us.toArray c)->P (.done (.ret (.ref x))) { s with heap:=h' }) :
  wpAny (model prog w) A (newList vs >>= fun l=>holding [l] (call (.builtin "list.sort") [l] []) >>= fun _=>ret l) P E s:=by
 refine wpAny_bind (wpAny_newList ?_ hz);have new:(s.heap.push (seqObj "list" vs.toArray 0)).get? s.heap.objs.size=some (seqObj "list" vs.toArray 0):=Heap.get?_push_size _ rfl;have kp2:∀b o,s.heap.get? b=some o->(s.heap.push (seqObj "list" vs.toArray 0)).get? b=some o:=fun b o e=>Heap.get?_push_of_some _ e;show wpAny _ _ _ _ _ { s with heap:=s.heap.push (seqObj "list" vs.toArray 0) };have go:∀(t:Shared),sU s.heap.objs.size { s with heap:=s.heap.push (seqObj "list" vs.toArray 0) } t->∀b o,s.heap.get? b=some o->t.heap.get? b=some o:=fun t ht b o e=>ht b o (Nat.ne_of_lt (Heap.lt_size e)) (kp2 b o e);refine wpAny_bind (wpAny_holding (wpAny_call_entry slot_list_sort ⟨_,new,rfl⟩ entry_list_sort ?_ (args_list_sort _)));refine zi (key:=key) (J:=J) new hz (fun t Q' two ht q=>hk t Q' two (go t ht) q) (fun κ hκ u hu v hv t Q ht q=>hc κ hκ u hu v hv t Q (go t ht) q) fun us c h' hp hr hs hx=>?_;exact⟨_,rfl,wpAny_pure (k us _ c h' hp hr (Nat.le_refl _) (fun b o e=>go { s with heap:=h' } hs b o e) hx)⟩
end
end L2
namespace L2
open PySem PySem.Spec PyProof.Rows PySem.Calls PySem.SeqAt
mutual
def kd:KD->D
 |.int i=>.int i
 |.str x=>.str x
 |.tup ks=>.tup (kds ks)
def kds:List KD->List D
 |[]=>[]
 |k::ks=>kd k::kds ks
end
theorem iu:∀ks,kds ks=ks.map kd
 |[]=>by simp[kds]
 |k::ks=>by simp[kds,iu ks]
mutual
theorem Cc:∀{a b:KD},kd a=kd b->a=b
 |.int _,.int _,h=>by simp[kd]at h;rw[h]
 |.int _,.str _,h=>by simp[kd]at h
 |.int _,.tup _,h=>by simp[kd]at h
 |.str _,.int _,h=>by simp[kd]at h
 |.str _,.str _,h=>by simp[kd]at h;rw[h]
 |.str _,.tup _,h=>by simp[kd]at h
 |.tup _,.int _,h=>by simp[kd]at h
 |.tup _,.str _,h=>by simp[kd]at h
 |.tup a,.tup b,h=>by simp only[kd,D.tup.injEq]at h;rw[oz h]
theorem oz:∀{a b:List KD},kds a=kds b->a=b
 |[],[],_=>rfl
 |[],_::_,h=>by simp[kds]at h
 |_::_,[],h=>by simp[kds]at h
 |a::as,b::bs,h=>by
  simp only[kds,List.cons.injEq]at h;rw[Cc h.1,oz h.2]
end
def bT(ks:List KD):D:=.tup (kds ks)
theorem u0{a b:List KD}(h:bT a=bT b):a=b:=oz (by simpa[bT]using h)
theorem wx{a b:List (List KD)}(h:a.map bT=b.map bT):a=b:=(List.map_inj_right fun _ _ h=>u0 h).mp h
def dpK:Nat->KD->Prop
 |_,.int _=>True
 |_,.str _=>True
 |0,.tup _=>False
 |n+1,.tup ks=>∀k∈ks,dpK n k
open Classical in
def kOf(h:Heap) (n:Nat) (v:Value):List KD:=if q:∃ds,KAt h n (.tup ds) v then q.choose else[]
theorem oC{h:Heap}{n:Nat}{v:Value}{ds:List KD}(q:KAt h n (.tup ds) v):kOf h n v=ds:=by
 have e:∃ds,KAt h n (.tup ds) v:=⟨_,q⟩;unfold kOf;rw[dif_pos e];have:=KAt.same n e.choose_spec q;cases this;rfl
def Rws(ks:List (List KD)):Prop:=(∀k∈ks,dpK 9 (.tup k))/\∀a∈ks,∀b∈ks,Cms a b
theorem Rws.sub{ks js:List (List KD)}(h:Rws ks) (s:∀k∈js,k∈ks):Rws js:=⟨fun k hk=>h.1 k (s k hk),fun a ha b hb=>h.2 a (s a ha) b (s b hb)⟩
theorem jt{ps qs:List (List KD)}(h:ps.Perm qs):bP ps=bP qs:=oZ ((bx ps).trans h) (lO ps)
section
variable{X:Cx}{aa:List (Addr×Obj)}{s:Shared}{σ:St}{H:Hp}{M:DH}{K:PySem.W.Frag}
theorem yl(I:Inv X aa σ H s):∀(n:Nat) {k:KD}{v:V}{u:Value},dpK n k->Rep X.K M H (kd k) v->aD v u->KAt s.heap n k u:=by
 intro n
 induction n with
 |zero =>
  intro k v u hd r q;cases k with
  |int i=>simp only[kd,Rep]at r;subst r;exact q
  |str i=>simp only[kd,Rep]at r;subst r;exact q
  |tup _=>exact hd.elim
 |succ n ih =>
  intro k v u hd r q;cases k with
  |int i=>simp only[kd,Rep]at r;subst r;exact q
  |str i=>simp only[kd,Rep]at r;subst r;exact q
  |tup ks =>
   simp only[kd,Rep]at r;obtain⟨a,vs,rfl,t,rl⟩:=r;cases q;obtain⟨its,rv,tp,hz⟩:=I.tuple t.sq;refine⟨a,its.toArray,rfl,tp,?_,fun i d u h1 h2=>?_⟩
   ·rw[List.size_toArray,<-rv.length,<-rl.length,iu,List.length_map]
   ·obtain⟨v,g,r⟩:=rl.get (i:=i) (d:=kd d) (by rw[iu,List.getElem?_map,h1];rfl);obtain⟨u',g',r'⟩:=rv.get g;rw[List.getElem?_toArray,g']at h2;cases h2;exact ih (hd d (List.mem_of_getElem? h1)) r r'
theorem ie(I:Inv X aa σ H s) {n:Nat}{ks:List (List KD)}{vs:List V}{its:List Value}(hd:∀k∈ks,dpK n (.tup k)) (rl:ah X.K M H (ks.map bT) vs) (rv:ao vs its) {i:Nat}{k:List KD}{u:Value}(h1:ks[i]?=some k) (h2:its[i]?=some u):KAt s.heap n (.tup k) u:=by
 obtain⟨v,g,r⟩:=rl.get (i:=i) (d:=bT k) (by rw[List.getElem?_map,h1];rfl);obtain⟨u',g',r'⟩:=rv.get g;rw[g']at h2;cases h2;exact yl I n (k:=.tup k) (hd k (List.mem_of_getElem? h1)) (by simp only[kd];exact r) r'
theorem qq{τ:Type}{f:τ->D}{its us:List Value}(p:its.Perm us):∀{vs:List V}{ks:List τ},ao vs its->ah K M H (ks.map f) vs->∃(vs':List V) (ks':List τ),ao vs' us/\ah K M H (ks'.map f) vs'/\ks'.Perm ks:=by
 induction p with
 |nil=>intro vs ks rv rl;exact⟨vs,ks,rv,rl,.refl _⟩
 |cons x p ih =>
  intro vs ks rv rl;cases rv with
  |cons r t=>cases ks with
   |nil=>cases rl
   |cons k ks =>
    simp only[List.map_cons,ah]at rl;obtain⟨v,ws,e,r1,r2⟩:=rl;cases e;obtain⟨vs',ks',a,b,c⟩:=ih t r2;exact⟨_::vs',k::ks',.cons r a,ah.cons r1 b,c.cons _⟩
 |swap x y l =>
  intro vs ks rv rl;cases rv with
  |cons r t=>cases t with
   |cons r' t=>cases ks with
    |nil=>cases rl
    |cons k ks=>cases ks with
     |nil=>simp only[List.map_cons,List.map_nil,ah]at rl;obtain⟨v,ws,e,r1,r2⟩:=rl;cases e;cases r2
     |cons j ks =>
      simp only[List.map_cons,ah]at rl;obtain⟨v,ws,e,r1,v2,ws2,e2,r2,r3⟩:=rl;cases e;cases e2;exact⟨_::_::_,j::k::ks,.cons r' (.cons r t),ah.cons r2 (ah.cons r1 r3),.swap _ _ _⟩
 |trans _ _ ih1 ih2 =>
  intro vs ks rv rl;obtain⟨vs',ks',a,b,c⟩:=ih1 rv rl;obtain⟨vs2,ks2,a2,b2,c2⟩:=ih2 a b;exact⟨vs2,ks2,a2,b2,c2.trans c⟩
theorem evD{a:Expr}{ta:TEd}{Δ:DE}{R:D->DH->Prop}{Q:Value->Shared->Prop}(ha:PEd X a ta) (I:Inv X aa σ H s) (sr:SR X.K M H σ Δ) (hr:HR X.K M H) (q:ta Δ M R)
  (k:∀u s1 v H1 x M1,Inv X aa σ H1 s1->aD v u->R x M1->HR X.K M1 H1->Rep X.K M1 H1 x v->Ext M H M1 H1->Q u s1):wpAny (model X.prog X.w) X.A (eval a X.env) Q X.xe s :=
 thn (ha aa s σ H (fun v H1=>∃x M1,R x M1/\HR X.K M1 H1/\Rep X.K M1 H1 x v/\Ext M H M1 H1) I ⟨Δ,M,R,sr,hr,q,fun x M1 v H1 q1 e1 hr1 rv=>⟨x,M1,q1,hr1,rv,e1⟩⟩) fun u s1 ⟨v,H1,I1,r1,x,M1,q1,hr1,rv,e1⟩=>k u s1 v H1 x M1 I1 r1 q1 hr1 rv e1
theorem pW{A:Around}{E:Value->Shared->Prop}{P:PySem.Fin->Shared->Prop}{Q:VK}{ks:List (List KD)}{vs:List V}{its:List Value}(hu:A.in1.units+9<cLine) (I:Inv X aa σ H s) (hr:HR X.K M H) (hk:Rws ks) (rl:ah X.K M H (ks.map bT) vs) (rv:ao vs its) (hz:vs.length<=sizeLine)
  (q:∀x vs',H x=none->ah X.K M H ((bP ks).map bT) vs'->Q (.ref x) (upd H x (.lst vs'))) (k:∀x s',EP X aa σ Q (.ref x) s'->P (.done (.ret (.ref x))) s') :
  wpAny (model X.prog X.w) A (newList its >>= fun l=>holding [l] (call (.builtin "list.sort") [l] []) >>= fun _=>ret l) P E s:=by
 have hlk:ks.length=its.length:=by rw[<-rv.length,<-rl.length,List.length_map]
 have at_:∀u∈its,∃k∈ks,KAt s.heap 9 (.tup k) u:=fun u hu=>by
  obtain⟨i,hi⟩:=List.mem_iff_getElem?.mp hu;have lt:i<ks.length:=by rw[hlk];exact(List.getElem?_eq_some_iff.mp hi).1
  exact⟨_,List.getElem_mem lt,ie I hk.1 rl rv (List.getElem?_eq_getElem lt) hi⟩
 refine xZ (O:=zD) (key:=kOf s.heap 9) (J:=SKd) (by rw[<-rv.length];exact hz) (fun s1 Q' _ kp q'=>?_) (fun κ hκ u hu' v hv s1 Q' kp q'=>?_) fun us x c h' hp hw hx kp ho=>?_
 ·exact EJ (n:=8) (fun v hv=>let⟨k,_,z⟩:=at_ v hv;⟨k,z.up fun b o _ e=>kp b o e⟩) q'
 ·obtain⟨a,ha,qa⟩:=at_ u hu';obtain⟨b,hb,qb⟩:=at_ v hv;have q2:Q' (aW (kOf s.heap 9 u) (kOf s.heap 9 v)) s1:=q';rw[oC qa,oC qb]at q2;exact FH hκ (n:=8) hu (qa.up fun b o _ e=>kp b o e) (qb.up fun b o _ e=>kp b o e) (hk.2 a ha b hb) q2
 ·obtain⟨vs',ks',rv',rl',hk'⟩:=qq hp.symm rv rl;have I2:=I.laid (t':=s.toks) (o:=.lst vs') kp hx (show bh X.prog X.w _ h' x (.lst _)from⟨by rw[rv'.length,hp.length_eq,<-rv.length];exact hz,us,c,rv',ho⟩);have es:ks'=bP ks:=by
   refine oZ hk' ?_;have hl':ks'.length=us.length:=by rw[<-rv'.length,<-rl'.length,List.length_map]
   rw[List.pairwise_iff_getElem];intro i j hi hj hij;have:=List.pairwise_iff_getElem.mp hw i j (by lia) (by lia) hij;have d':∀k∈ks',dpK 9 (.tup k):=fun k hk2=>hk.1 k (hk'.mem_iff.mp hk2);have ki:=ie I d' rl' rv' (List.getElem?_eq_getElem hi) (List.getElem?_eq_getElem (show i<us.length by lia));have kj:=ie I d' rl' rv' (List.getElem?_eq_getElem hj) (List.getElem?_eq_getElem (show j<us.length by lia));rw[oC ki,oC kj]at this;have z:aW ks'[j] ks'[i]=false:=this;simp only[leK,z,Bool.not_false]
  subst es;exact k _ _ ⟨.ref x,_,I2,rfl,q x vs' (I.hok.fresh hx) rl'⟩
open Classical in
def gV:D->Option D
 |.lst ds=>if h:∃ks:List (List KD),ds=ks.map bT/\Rws ks then some (.lst ((bP h.choose).map bT))else none
 |.tup ds=>if h:∃ks:List (List KD),ds=ks.map bT/\Rws ks then some (.lst ((bP h.choose).map bT))else none
 |_=>none
theorem lD{ks:List (List KD)}(h:Rws ks):gV (.lst (ks.map bT))=some (.lst ((bP ks).map bT)):=by
 have e:∃js:List (List KD),ks.map bT=js.map bT/\Rws js:=⟨ks,rfl,h⟩;simp only[gV];rw[dif_pos e,<-wx e.choose_spec.1]
theorem mI(hu:X.A.units+64<cLine) {T:String}{o:Obj}{n:Nat}{l:Addr}{ks:List (List KD)}{vs:List V}{its:List Value}{Q:VK}(I:Inv X aa σ H s) (hr:HR X.K M H) (hk:Rws ks) (rl:ah X.K M H (ks.map bT) vs) (rv:ao vs its) (hz:vs.length<=sizeLine)
  (hT:T="list"∨T="tuple") (hg:s.heap.get? l=some o) (hcl:o.cls=.type T) (hd:o.data=.seq its.toArray n)
  (q:∀x vs',H x=none->ah X.K M H ((bP ks).map bT) vs'->Q (.ref x) (upd H x (.lst vs'))):wpAny (model X.prog X.w) X.A (call (.builtin "sorted") [.ref l]) (EP X aa σ Q) X.xe s:=by
 refine call_function_entry kind_sorted plain_sorted entry_sorted (args_sorted1 _) ?_;unfold Builtin.«sorted»;refine wpAny_bind (m:=checkCount "sorted" 1 1 _) (wpAny_pure ?_);refine wpAny_bind (wpAny_collect_seq l hT hg hcl hd (fun h1 kp0=>?_) (by rw[rv.length]at hz;simpa using hz));have I1:Inv X aa σ H { s with heap:=h1,toks:=s.toks }:=I.kept kp0;exact pW (show X.A.units+1+1+9<cLine by lia) I1 hr hk rl rv hz q fun x s' e=>⟨_,rfl,e⟩
theorem jR(hu:X.A.units+64<cLine):ck X (.builtin "sorted") (pY gV):=by
 intro aa s σ H M xs us ds dz Q I hr rv rp e k;obtain⟨d,rfl,e0⟩:=de e;clear e;obtain⟨v,rfl,r⟩:=m9 rp;obtain⟨u,rfl,ru⟩:=ao.one rv;cases d with
 |lst ds =>
  simp only[gV]at e0
  by_cases h:∃ks:List (List KD),ds=ks.map bT/\Rws ks
  ·rw[dif_pos h]at e0;obtain⟨e1,e2⟩:=h.choose_spec;generalize h.choose=ks at e0 e1 e2;subst e1;cases e0;obtain⟨l,vs,rfl,sq,rl⟩:=r;cases ru;obtain⟨its,rv,pl,hz⟩:=I.list (SqL.of sq);obtain⟨o,hg,hcl,n,hd⟩:=pl.isList;exact mI hu I hr e2 rl rv hz (.inl rfl) hg hcl hd fun x vs' hx r=>dY hr hx r k
  ·rw[dif_neg h]at e0;cases e0
 |tup ds =>
  simp only[gV]at e0
  by_cases h:∃ks:List (List KD),ds=ks.map bT/\Rws ks
  ·rw[dif_pos h]at e0;obtain⟨e1,e2⟩:=h.choose_spec;generalize h.choose=ks at e0 e1 e2;subst e1;cases e0;obtain⟨l,vs,rfl,sq,rl⟩:=r;cases ru;obtain⟨its,rv,⟨o,hg,hcl,n,hd⟩,hz⟩:=I.tuple sq;exact mI hu I hr e2 rl rv hz (.inr rfl) hg hcl hd fun x vs' hx r=>dY hr hx r k
  ·rw[dif_neg h]at e0;cases e0
 |_=>cases e0
end
theorem BW.b{prog:Program}{w:World}{τ:Type}{κ:TK prog w τ}{h:Heap}{a:Addr}{o:Obj}{es:Array (Int×Value)}{ep:Nat}{t:SetTable}{zs:List τ}(q:BW κ h a o es ep t zs) (hz:zs.length<1000):dj w h a o es ep t :=
 ⟨q.get,q.ex,q.data,by rw[q.el.len];unfold scanBound;lia,q.tb.fit,q.led,.inr q.tb.up⟩
section
variable{X:Cx}{aa:List (Addr×Obj)}{s:Shared}{σ:St}{H:Hp}{M:DH}{K:PySem.W.Frag}
theorem pU{h:Heap}{n:Nat}{ks:List (List KD)}{vs:List V}{its:List Value}(rv:ao vs its) (rl:ah K M H (ks.map bT) vs) (hk:∀(i:Nat) k u,ks[i]?=some k->its[i]?=some u->KAt h n (.tup k) u) :
  ∀(zs:List (List KD)) (us:List Value),us.length=zs.length->(∀(i:Nat) z u,zs[i]?=some z->us[i]?=some u->u∈its/\KAt h n (.tup z) u)->∃vs',ao vs' us/\ah K M H (zs.map bT) vs'
 |[],us,hl,_=>by
  have:us=[]:=List.length_eq_zero_iff.mp hl;subst this;exact⟨[],.nil,rfl⟩
 |_::_,[],hl,_=>by cases hl
 |z::zs,u::us,hl,h'=>by
  obtain⟨vs',a,b⟩:=pU rv rl hk zs us (Nat.succ.inj hl) fun i z u h1 h2=>h' (i+1) z u (by simpa using h1) (by simpa using h2);obtain⟨m,q⟩:=h' 0 z u rfl rfl;obtain⟨j,hj⟩:=List.mem_iff_getElem?.mp m;have hln:ks.length=its.length:=by rw[<-rv.length,<-rl.length,List.length_map]
  have lt:j<ks.length:=by rw[hln];exact(List.getElem?_eq_some_iff.mp hj).1
  have kj:=List.getElem?_eq_getElem lt;have e:=KAt.same n (hk j _ _ kj hj) q;obtain⟨v,g,r⟩:=rl.get (i:=j) (d:=bT ks[j]) (by rw[List.getElem?_map,kj];rfl);obtain⟨u',g',r'⟩:=rv.get g;rw[hj]at g';cases g';cases e;exact⟨v::vs',.cons r' a,ah.cons r b⟩
def dSU(ta:TEd):TEd:=fun Δ M Q=>ta Δ M fun x M1=>∃ks:List (List KD),rdM M1 x=.lst (ks.map bT)/\Rws ks/\(∀k∈ks,dpK 8 (.tup k))/\ks.length<1000/\Q (.lst ((bP (dN ks)).map bT)) M1
theorem Fz{a:Expr}{ta:TEd}{p0 p1 q0 q1:Pos}(hc:X.calm=true) (hu:X.A.units+64<cLine) (hgS:Gl X "sorted") (hmS:X.mg "sorted"=none) (hg:Gl X "set") (hm:X.mg "set"=none) (ha:QEd X a ta)
  (he0:starEach [.Call (.Name "set" p1) [a] [] q1] X.env=(false,eval (.Call (.Name "set" p1) [a] [] q1) X.env)::starEach [] X.env:=by rfl)
  (he1:starEach [a] X.env=(false,eval a X.env)::starEach [] X.env:=by rfl)
  (hp0:(backTo q0 (starEach [] X.env)).any (·.1)=false:=by rfl) (hp1:(backTo q1 (starEach [] X.env)).any (·.1)=false:=by rfl) :
  QEd X (.Call (.Name "sorted" p0) [.Call (.Name "set" p1) [a] [] q1] [] q0) (dSU ta):=by
 simp only[QEd.eq]at *
 intro aa s σ H Q I ⟨Δ,M,R,sr,hr,q,k⟩;refine wpAny_Call_Name_kw (di I hgS hmS (u:=.builtin "sorted") (by kernel_rfl) ?_ (by decide) (by decide));refine PyProof.Rows.callWith_builtin1 ?_ he0 hp0;rw[he0];show wpAny _ _ (spliced ((false,eval _ X.env)::backTo q0 (starEach [] X.env))) _ _ s;refine Calls.spliced_cons ?_;refine wpAny_Call_Name_kw (di I hg hm (u:=.type "set") (by kernel_rfl) ?_ (by decide) (by decide));refine PyProof.Rows.callWith_type1 ?_ he1 hp1;rw[he1];show wpAny _ _ (spliced ((false,eval a X.env)::backTo q1 (starEach [] X.env))) _ _ s;refine Calls.spliced_cons (evD ha I sr hr q fun u s1 v H1 x M1 I1 r1 ⟨ks,ex,hk,hk8,hl,q2⟩ hr1 rv0 e1=>?_);have rv:=rv0.rd hr1;refine Calls.spliced_nil ?_;rw[ex]at rv;obtain⟨l,vs,rfl,sq,rl⟩:=rv;cases r1;obtain⟨its,rvs,pl,hz⟩:=I1.list (SqL.of sq);have hn:ks.length=its.length:=by rw[<-rvs.length,<-rl.length,List.length_map]
 have hat:∀(i:Nat) k u,ks[i]?=some k->its[i]?=some u->KAt s1.heap 8 (.tup k) u:=fun i k u h1 h2=>ie I1 hk8 rl rvs h1 h2;refine uD (n:=8) (hn8:=Nat.le_refl _) (I1.ok.hd hc) (by lia) pl.isList (by simp[hn]) (fun i k u h1 h2=>hat i k u h1 (by simpa using h2)) hl fun h' tk hS kp=>?_;refine Calls.spliced_nil ?_;obtain⟨o,es,ep,t,zs,qs,pm⟩:=hS;have hzs:zs.length<1000:=by rw[pm.length_eq];exact Nat.lt_of_le_of_lt (fU ks) hl
 have I2:Inv X aa σ H1 { s1 with heap:=h',toks:=tk }:=I1.kept kp;refine call_function_entry kind_sorted plain_sorted entry_sorted (args_sorted1 _) ?_;unfold Builtin.«sorted»;refine wpAny_bind (m:=checkCount "sorted" 1 1 _) (wpAny_pure ?_);refine wpAny_bind (xm (A:=X.A.in1) (I1.ok.hd hc) (qs.b hzs) fun s3 es' hp kp0 eg eo=>?_);have I3:Inv X aa σ H1 s3:=I2.with kp0 eg eo
 obtain⟨vs2,rv2,rl2⟩:=pU rvs rl hat zs (es.toList.map (·.2)) (by rw[List.length_map,Array.length_toList,qs.el.len]) fun i z u h1 h2=>by
  obtain⟨v,g,_,k1,k2⟩:=qs.el.at_ i z h1;rw[List.getElem?_map,Array.getElem?_toList,g]at h2;cases h2;exact⟨by simpa using k2,k1⟩
 obtain⟨vs3,ks3,rv3,rl3,hp3⟩:=qq (hp.symm.map (·.2)) rv2 rl2;have pk:ks3.Perm (dN ks):=hp3.trans pm;have hk3:Rws ks3:=hk.sub fun k h=>(kY ks k).mp (pk.mem_iff.mp h);refine pW (show X.A.units+1+1+9<cLine by lia) I3 hr1 hk3 rl3 rv3 ?_ (fun p vs' hp r=>?_) fun x s' e=>⟨_,rfl,e⟩
 ·rw[<-rl3.length,List.length_map,pk.length_eq,sizeLine_eq];have:=fU ks;lia
 ·rw[jt pk]at r;exact dY hr1 hp r fun w H' a b c=>k _ _ _ _ q2 (e1.trans a) b c
end
end L2
namespace L2
open PySem PySem.Spec PyProof.Rows PySem.Calls PySem.SeqAt PySem.W
open Classical in
instance decKs:DecidableEq (List KD):=fun _ _=>propDecidable _
end L2
namespace L2
open PySem PySem.Spec PyProof.Rows PySem.Calls PySem.SeqAt
end L2
namespace L2
open PySem PySem.Spec PyProof.Rows
end L2
namespace L2
open PySem PySem.Spec PyProof.Rows PySem.Calls PySem.SeqAt
end L2
namespace L2
open PySem PySem.Spec PyProof.Rows
section
open PySem.Calls PySem.SeqAt
variable{X:Cx}{aa:List (Addr×Obj)}{s:Shared}{σ:St}{H:Hp}{M:DH}{K:PySem.W.Frag}
end
end L2
namespace L2
open PySem PySem.Spec PyProof.Rows PySem.Calls PySem.SeqAt
end L2
namespace L2
open PySem PySem.Spec PyProof.Rows PySem.Builtin PySem.Builtin.Str StrLaws
end L2
namespace L2
open PySem PySem.Spec PyProof.Rows
open AutoSeq1 (wpAny_loadPart')
theorem bh.is{P:Program}{w:World}{H:Hp}{h:Heap}{a:Addr}{o:HO}(x:bh P w H h a o):∃u,h.get? a=some u:=by
 cases o with
 |lst xs=>obtain⟨_,_,_,_,e⟩:=x;exact⟨_,e⟩
 |tup xs=>obtain⟨_,_,_,ob,e,_⟩:=x;exact⟨_,e⟩
 |dK kvs=>obtain⟨_,_,_,_,o,_,_,e,_⟩:=x;exact⟨_,e⟩
 |dT kvs=>obtain⟨_,_,_,_,o,_,_,e,_⟩:=x;exact⟨_,e⟩
 |set S n=>obtain⟨o,_,_,_,e,_⟩:=x;exact⟨_,e⟩
 |ins C dx fs=>obtain⟨_,_,_,e,_⟩:=x;exact⟨_,e⟩
 |own y=>exact x
 |xd fs=>obtain⟨_,⟨_,_,_,e,_⟩,_⟩:=x;exact⟨_,e⟩
 |rng lo hi=>obtain⟨_,_,_,e⟩:=x;exact⟨_,e⟩
 |frz ob u=>obtain⟨e,_⟩:=x;exact⟨_,e⟩
 |tbl ps=>exact⟨_,x⟩
 |met f y=>exact⟨_,x⟩
 |ext φ=>exact x.2.1
def rA:SpD:=fun _ _ _=>False
theorem vy{P:Program}{w:World}{K:PySem.W.Frag}{mg:Str->Option Value}{base:Heap}{CX:CXT}{k n:Nat}{f:Addr}{fd:FuncData}{ps:List Str}:bq P w K mg base CX k f fd ps (spD K n rA) :=
 ⟨fun vs H Q E h=>by obtain⟨_,_,_,_,_,_,h,_⟩:=h;exact h.elim,fun A outer s H args us vs Q E _ _ _ _ h=>by obtain⟨_,_,_,_,_,_,h,_⟩:=h;exact h.elim⟩
end L2
namespace L2
open PySem PySem.Spec PySem.Calls PyProof.Rows PySem.W PySem.Builtin PySem.Builtin.ObjectAttr PySem.Builtin.Getset_descriptor
end L2
namespace L2
open PySem PySem.Spec PyProof.Rows
section
variable{X:Cx}{aa:List (Addr×Obj)}{σ:St}{H:Hp}{s:Shared}
theorem Inv.track{a:Addr}{φ:Heap->Prop}(I:Inv X aa σ H s) (hn:H a=none) (ho:bh X.prog X.w (upd H a (.ext φ)) s.heap a (.ext φ)) (h0:X.s₀.heap.get? a=none) (hL:a≠X.env.locals) (hc:∀x c,X.env.cells.lookup x=some c->c≠a)
  (hp:∀p∈X.pn++aa,p.1≠a):Inv X aa σ (upd H a (.ext φ)) s:=by
 have ne:∀{b o},H b=some o->upd H a (.ext φ) b=some o:=fun {b o} q=>by
  by_cases z:b=a
  ·rw[z,hn]at q;cases q
  ·rw[aq z];exact q
 refine⟨I.ok,I.os,I.bare,⟨I.base.keep,I.base.slot,fun b o e n x=>?_,I.base.there,fun b xs q=>ne (I.base.tups b xs q),fun b o u q=>ne (I.base.frzs b o u q),fun b ps q=>?_⟩,I.loc,I.cell,?_,fun x c e=>?_,fun p z=>?_,fun b o e=>?_,I.len⟩
 ·have:b≠a:=fun z=>by rw[z,h0]at e;cases e
  rw[aq this];exact I.base.free b o e n x
 ·obtain⟨more,q'⟩:=I.base.tbls b ps q;exact⟨more,ne q'⟩
 ·rw[aq (Ne.symm hL)];exact I.free
 ·rw[aq (hc x c e)];exact I.freeC x c e
 ·obtain⟨h1,h2,h3⟩:=I.pin p z;exact⟨h1,by rw[aq (hp p z)];exact h2,h3⟩
 ·by_cases hb:b=a
  ·subst hb;rw[aA]at e;cases e;exact ho
  ·rw[aq hb]at e;exact(I.hok b o e).stay (fun c v _ r=>r) (fun c r=>ne r) fun c xs r=>ne r
end
def Fu(j:Nat) (E:fu):fu where
 nx:=fun Δ M=>∃M3,LeM M3 M/\E.nx (Δ.set j none) M3
 bk:=fun Δ M=>∃M3,LeM M3 M/\E.bk (Δ.set j none) M3
 ct:=fun Δ M=>∃M3,LeM M3 M/\E.ct (Δ.set j none) M3
 rt:=fun d M=>∃M3,LeM M3 M/\E.rt d M3
def Fg(pos:Pos):Option Addr->Obj
 |none=>PySem.W.tabObj #[]
 |some c=>PySem.W.tabObj #[rawInt pos.line,rawInt pos.col,.ref c]
def iW(P:Addr) (pos:Pos) (c:Option Addr) (h:Heap):Prop:=h.get? P=some (Fg pos c)
def CN(c:Addr) (q:Str) (h:Heap):Prop:=∃o vs t,h.get? c=some o/\o.data=.fields vs/\vs[1]?=some (.str q t)
def jK(P:Addr) (pos:Pos) (c:Option Addr):HD:=.ext (fun _=>iW P pos c) []
def Bh(c:Addr) (q:Str):HD:=.ext (fun _=>CN c q) []
def dM(P:Addr) (pos:Pos) (q:Str) (M:DH):Prop:=M P=some (jK P pos none)∨∃c,M P=some (jK P pos (some c))/\M c=some (Bh c q)
def aT(K:PySem.W.Frag) (P:Addr):PySem.W.Frag:=K.filter fun p=>p.1 != P
theorem bz{P a:Addr}(h:a≠P):∀K:PySem.W.Frag,(aT K P).lookup a=K.lookup a
 |[]=>rfl
 |(b,o)::K=>by
  have ih:=bz h K;unfold aT at ih ⊢
  by_cases hb:b=P
  ·rw[List.filter_cons_of_neg (by simp[hb]),ih,List.lookup_cons,beq_eq_false_iff_ne.mpr (fun e=>h (e.trans hb))]
  ·rw[List.filter_cons_of_pos (by simp[hb]),List.lookup_cons,List.lookup_cons,ih]
theorem lF{P:Addr}:∀K:PySem.W.Frag,(aT K P).lookup P=none
 |[]=>rfl
 |(b,o)::K=>by
  have ih:=lF (P:=P) K;unfold aT at ih ⊢
  by_cases hb:b=P
  ·rw[List.filter_cons_of_neg (by simp[hb]),ih]
  ·rw[List.filter_cons_of_pos (by simp[hb]),List.lookup_cons,beq_eq_false_iff_ne.mpr (fun e=>hb e.symm),ih]
theorem aR{K:PySem.W.Frag}{P:Addr}{h:Heap}(X:K.In h):(aT K P).In h:=fun a o e=>by
 by_cases ha:a=P
 ·subst ha;rw[lF]at e;cases e
 ·rw[bz ha]at e;exact X a o e
theorem cb.cut{K:PySem.W.Frag}{P f:Addr}{x:Str}{st:Stmt}{fd:FuncData}(i:cb K x st f fd) (hP:K.lookup P=some (PySem.W.tabObj #[])):cb (aT K P) x st f fd:=by
 obtain⟨a,⟨oc,od,kV,doc,pm,an,cdv,ct,osl,e,lk,hcd⟩,kp⟩:=i;have hf:f≠P:=fun z=>by rw[z,hP]at lk;cases lk
 have hg:mainGlobals≠P:=fun z=>by
  unfold PySem.W.nsIn at a;rw[z,hP]at a;cases a
 refine⟨?_,⟨oc,od,kV,doc,pm,an,cdv,ct,osl,e,(bz hf K).trans lk,?_⟩,?_⟩
 ·unfold PySem.W.nsIn at a ⊢;rw[bz hg];exact a
 ·cases cdv<;>try (exact hcd)
  rename_i c;have hc:c≠P:=fun z=>by
   unfold PySem.W.codeIn at hcd;rw[z]at hcd;simp only[hP]at hcd;cases hcd
  unfold PySem.W.codeIn at hcd ⊢;simp only[bz hc];exact hcd
 ·unfold PySem.W.keepIn;simp only[bz hf,lk]
def vz(P:Addr) (pos:Pos) (H:Hp):Prop:=H P=some (.ext (iW P pos none))/\∀b,b≠P->H b=none∨∃o xs,H b=some (.frz o (.lst xs))
theorem ur{P:Program}{w:World}{K:PySem.W.Frag}{mg mb:Str->Option Value}{CX:CXT}{k:Nat}{fa a T:Addr}{fd:FuncData}{x:Str}{sp:Sp}{s₁:Shared}{vs:List Value}{ns:List Int}{pos:Pos}
  (KX:K.In s₁.heap) (hns:s₁.heap.Ns mainGlobals mg) (hb:s₁.heap.Ns builtinsNs mb) (hbb:∀x:Str,x≠"__name__"->mb x=bootBuiltins x) (hlim:s₁.heap.NoLimit) (hg:s₁.gens=#[])
  (ha:s₁.heap.get? a=some { cls:=.type "list",data:=.seq vs.toArray }) (hi:IntsAre vs ns) (hl:ns.length<=sizeLine) (hr:cI k callerA)
  (hT:K.lookup T=some (PySem.W.tabObj #[])) (hct:isCodeTable s₁.heap T) (hbm:s₁.heap.BuiltinsAt mg T)
  (F:∀base:Heap,(aT K T).In base->base.Ns mainGlobals mg->base.BuiltinsAt mg T->bq P w (aT K T) mg base CX k fa fd [x] sp) (hbind:∀(s:Shared) (u:Value),BindsTo s fd ⟨[u],[]⟩ [(x,u)])
  (hsp:∀H:Hp,vz T pos H->SqL (aT K T) H a (ns.map V.int)->sp [.ref a] H (fun v H'=>v=.bl true/\∃c,H' T=some (.ext (iW T pos c))) fun _ _ _=>False)
  (hCX:∀H e s',CX [] H s₁ (fun _ _ _=>False) e s'->False) :
  codeAny (model P w) callerA (.call (.ref fa) ⟨[.ref a],[]⟩) (fun r s'=>r=.ok (.ret (.bool true))/\OldK s₁.heap s'.heap/\s'.os=s₁.os/\AllBare s'.gens) s₁:=by
 have rv:=mH hi;have lenV:=hi.length;have hTo:s₁.heap.get? T=some (PySem.W.tabObj #[]):=KX T _ hT;have haT:a≠T:=fun z=>by rw[z,hTo]at ha;cases ha
 have core:∀H:Hp,vz T pos H->SqL (aT K T) H a (ns.map V.int)->HOk P w H s₁.heap->(∀b,H b≠none->b=a∨b=T)->(H a≠none->K.lookup a=none) ->
   codeAny (model P w) callerA (.call (.ref fa) ⟨[.ref a],[]⟩) (fun r s'=>r=.ok (.ret (.bool true))/\OldK s₁.heap s'.heap/\s'.os=s₁.os/\AllBare s'.gens) s₁:=by
  intro H hO hS hok hA hK;have base_of:∀{b:Addr} {o:Obj},s₁.heap.get? b=some o->H b=none->(mE s₁.heap H).get? b=some o:=fun e n=>wY e n;have noA:∀{b:Addr} {o:Obj} {es:Array DictEntry} {ep:Nat},s₁.heap.get? b=some o->o.data=.dict es ep->H b=none:=fun {b o es ep} e d=>by
   cases q:H b with
   |none=>rfl
   |some u =>
    rcases hA b (by rw[q];simp)with e'|e'
    ·subst e';rw[ha]at e;cases e;have d':Data.seq vs.toArray _=Data.dict es ep:=d;cases d'
    ·subst e';rw[hTo]at e;cases e;have d':Data.fields #[]=Data.dict es ep:=d;cases d'
  have nsK:∀{b:Addr} {m:Str->Option Value},s₁.heap.Ns b m->(mE s₁.heap H).Ns b m:=fun {b m} ⟨o,es,ep,e,d,r⟩=>⟨o,es,ep,base_of e (noA e d),d,r⟩;have hKb:(aT K T).In (mE s₁.heap H):=fun b o e=>by
   have hbT:b≠T:=fun z=>by rw[z,lF]at e;cases e
   refine base_of (aR KX b o e) ?_;cases q:H b with
   |none=>rfl
   |some u =>
    rcases hA b (by rw[q];simp)with e'|e'
    ·subst e';rw[bz hbT,hK (by rw[q];simp)]at e;cases e
    ·exact absurd e' hbT
  have hM:Mod (aT K T) mg (mE s₁.heap H):=⟨hKb,nsK hns,⟨mb,nsK hb,hbb⟩,let⟨mc,h1,h2⟩:=hlim;⟨mc,nsK h1,h2⟩⟩;have e0:zf P w (aT K T) mg (mE s₁.heap H) callerA [] s₁ H:=⟨rfl,hM,fun b o e=>ya e,Nat.le_of_eq (uo _ _),trivial,fun b hb=>absurd (show b∈([]:List Addr)from hb) (by simp),hok,.of_eq hg⟩;have hbB:(mE s₁.heap H).BuiltinsAt mg T:=by
   obtain⟨bm,o,b1,b2,b3,b4,b5,b6,b7,b8⟩:=hbm;refine⟨bm,o,b1,b2,b3,b4,base_of b5 ?_,b6,b7,b8⟩;cases q:H bm with
   |none=>rfl
   |some u =>
    rcases hA bm (by rw[q];simp)with e'|e'
    ·rw[e',ha]at b5;cases b5;cases b8
    ·exact absurd e' b4
  refine codeAny_mono ((F _ hKb (nsK hns) hbB).run callerA [] s₁ H ⟨[.ref a],[]⟩ [.ref a] [.ref a] _ _ hr e0 (hbind s₁ (.ref a)) (.cons rfl .nil) (hsp H hO hS)) fun r s' h=>?_;cases r with
  |error e=>exact(hCX H e s' h).elim
  |ok fl =>
   cases fl with
   |next=>exact False.elim h
   |brk=>exact False.elim h
   |cont=>exact False.elim h
   |ret u =>
    obtain⟨v,H',os,bare,un,hok',r',q⟩:=h;obtain⟨rfl,c,hc⟩:=q;obtain rfl:u=Value.bool true:=r';obtain⟨et,_⟩:=hok' T _ hc;have keep:∀b o,b≠T->s₁.heap.get? b=some o->s'.heap.get? b=some o:=fun b o hbT e=>by
     cases q:H b with
     |none=>exact un.keep b o e q (by intro z;exact absurd (show b∈([]:List Addr)from z) (by simp)) (by simp)
     |some u =>
      rcases hO.2 b hbT with z|⟨ob,xs,z⟩
      ·rw[q]at z;cases z
      ·have z2:=un.frzs b ob _ z;obtain⟨e1,_⟩:=hok b _ z;obtain⟨e2,_⟩:=hok' b _ z2;rw[e]at e1;cases e1;exact e2
    have et':∃more,s'.heap.get? T=some (PySem.W.tabObj (#[]++more)):=by
     cases c with
     |none=>exact⟨#[],et⟩
     |some c=>exact⟨#[rawInt pos.line,rawInt pos.col,.ref c],et⟩
    refine⟨rfl,⟨fun b o e=>?_,fun b o e=>?_⟩,os,bare⟩
    ·by_cases hbT:b=T
     ·subst hbT;rw[hTo]at e;cases e;obtain⟨more,em⟩:=et';exact .inr (.inl ⟨hct,rfl,#[],more,rfl,em⟩)
     ·exact .inl (keep b o hbT e)
    ·by_cases hbT:b=T
     ·subst hbT;obtain⟨more,em⟩:=et';exact⟨_,em⟩
     ·exact⟨o,keep b o hbT e⟩
 have tok:bh P w (fun _=>none) s₁.heap T (.ext (iW T pos none)):=⟨hTo,⟨_,hTo⟩,fun h1 h2 e1 k=>k _ e1⟩;cases hk:K.lookup a with
 |some o =>
  have e:=KX a o hk;rw[ha]at e;cases e;refine core (fun b=>if b=T then some (.ext (iW T pos none))else none) ⟨if_pos rfl,fun b hb=>.inl (if_neg hb)⟩ (.inr ⟨_,vs.toArray,_,(bz haT K).trans hk,rfl,rfl,rfl,by rw[List.size_toArray,lenV];exact hl,by simpa using rv⟩) (fun b u z=>?_) (fun b z=>?_) fun z=>absurd (if_neg haT) z
  ·by_cases hb:b=T
   ·have z':=(if_pos hb).symm.trans z;cases z';subst hb;exact tok
   ·have z':=(if_neg hb).symm.trans z;cases z'
  ·by_cases hb:b=T
   ·exact .inr hb
   ·exact absurd (if_neg hb) z
 |none =>
  refine core (fun b=>if b=T then some (.ext (iW T pos none))else if b=a then some (.frz { cls:=.type "list",data:=.seq vs.toArray } (.lst (ns.map V.int)))else none) ⟨if_pos rfl,fun b hbT=>?_⟩ (.inl (.inr ⟨{ cls:=.type "list",data:=.seq vs.toArray },(if_neg haT).trans (if_pos rfl)⟩)) (fun b u z=>?_) (fun b z=>?_) fun _=>hk
  ·by_cases hb:b=a
   ·exact .inr ⟨_,_,(if_neg hbT).trans (if_pos hb)⟩
   ·exact .inl ((if_neg hbT).trans (if_neg hb))
  ·by_cases hbT:b=T
   ·have z':=(if_pos hbT).symm.trans z;cases z';subst hbT;exact tok
   ·by_cases hb:b=a
    ·have z':=((if_neg hbT).trans (if_pos hb)).symm.trans z;cases z';subst hb;exact⟨ha,by rw[List.length_map];exact hl,vs,_,rv,ha⟩
    ·have z':=((if_neg hbT).trans (if_neg hb)).symm.trans z;cases z'
  ·by_cases hbT:b=T
   ·exact .inr hbT
   ·by_cases hb:b=a
    ·exact .inl hb
    ·exact absurd ((if_neg hbT).trans (if_neg hb)) z
end L2
namespace L2
open PySem PySem.Spec PySem.Calls PyProof.Rows
section
variable{prog:Program}{w:World}{A:Around}{s:Shared}
theorem wM{f c' b:Addr}{name qual x:Str}{params:Arguments}{scope:Scope}{clos:List (Str×Addr)}{pm ctv:Value}{p1 p2 p3:Pos}{kj:Nat}{j:Int}{t:Tok}{its:List Value}
  (hf:s.heap.get? f=some (PySem.W.kla_obj name qual params (.Subscript (.Name x p1) (.Constant (.int 1) kj p2) p3) scope clos pm c' ctv)) (hcd:s.heap.CodeRec (.ref c') qual) (hlim:s.heap.NoLimit) (hroom:A.depth<recursionLimit)
  (hbind:∀v,bindArgs (PySem.W.kla_fn name qual params (.Subscript (.Name x p1) (.Constant (.int 1) kj p2) p3) scope clos pm (.ref c') ctv) ⟨[v],[]⟩=pure [(x,v)])
  (hx:scope.names.lookup x=some .local) (hcell:∀y∈scope.names,y.2≠.cell) (hco:scope.isCoroutine=false) (hgen:scope.isGenerator=false) (hk:scope.kind=.function) (hd:(x==("__debug__":Str))=false)
  (hb:IsTup s.heap b its.toArray) (hz:its.length<1000) (hj:its[1]?=some (.int j t)) :
  wpAny (model prog w) A (call (.ref f) [.ref b]) (fun v s'=>∃h' tk,s'={ s with heap:=h',toks:=tk }/\v=.int j t/\∀a o,s.heap.get? a=some o->h'.get? a=some o) (fun _ _=>False) s:=by
 refine wpAny_call (PySem.W.kla_callFunE hroom hf rfl hco hgen rfl hcd ?_);rw[hbind];refine wpAny_pure (wpAny_newFunctionEnv hcell (fun y hy=>by rw[List.mem_singleton.mp hy];exact hx) (fun h₁ hns hsb=>⟨hlim.fresh _ hsb,?_⟩) hk);have hk₁:∀b o,s.heap.get? b=some o->h₁.get? b=some o:=fun b o e=>hsb.extBut b o (Nat.ne_of_lt (Heap.lt_size e)) (Heap.get?_push_of_some _ e);refine PySem.W.kla_codeExpr ?_;refine Subscript_ (wpAny_Name (wpAny_loadName_local (m:=fun y=>[(x,Value.ref b)].reverse.lookup y) (v:=.ref b) hk ?_ hns (by simp[List.lookup]) ?_) hd)
 ·exact hx
 ·refine wpAny_Constant_int ?_;have hb1:IsTup h₁ b its.toArray:=let⟨o,e,r⟩:=hb;⟨o,hk₁ b o e,r⟩
  have hi:1<its.length:=(List.getElem?_eq_some_iff.mp hj).1;refine subscriptTail_builtinR (x:=Value.int j t) hb1.typeIs slot_tuple_getitem.lookup (getItem_tuple (k:=1) (j:=1) hb1 (by decide) (by decide) (seqIndex_of (by decide) ?_) (by simpa using hj) ⟨rfl,h₁,_,rfl,rfl,hk₁⟩) rfl;simp;lia
theorem qP{l f L:Addr}{o:Obj}{n:Nat}{T:String}{vs:List Value}{kz:List Int}{m:Str->Option Value}{Q:Value->Shared->Prop}{E:Value->Shared->Prop}
  (hT:T="list"∨T="tuple") (hg:s.heap.get? l=some o) (hcl:o.cls=.type T) (hd:o.data=.seq vs.toArray n) (hL:s.heap.Ns L m) (bv:kz.length=vs.length) (h64:vs.length<64)
  (turn:∀ (i:Nat) (v:Value) (k:Int),vs[i]? = some v → kz[i]? = some k → ∀ (h:Heap) (tk:Nat),(∀ b o,b ≠ L → s.heap.get? b = some o → h.get? b = some o) →
   wpAny (model prog w) A.in1.in1 (call (.ref f) [v]) (fun u s'=>∃h' tk' t',s'={ s with heap:=h',toks:=tk' }/\u=.int k t'/\∀a o,h.get? a=some o->h'.get? a=some o) (fun _ _=>False) { s with heap:=h,toks:=tk })
  (h:∀(h1:Heap) (D:Addr) (h':Heap) (tk:Nat) (out:Array Value) (c:Nat),(∀b o,s.heap.get? b=some o->h1.get? b=some o)->(∀b o,b≠L->h1.get? b=some o->h'.get? b=some o)->h'.Ns L m->h1.objs.size<=D->h'.get? D=some (seqObj "list" out c)->KskOut false kz vs out.toList->Q (.ref D) { s with heap:=h',toks:=tk }) :
  wpAny (model prog w) A (call (.builtin "sorted") [.ref l] [(Str.ofString "key",.ref f)]) Q E s:=by
 refine call_function_entry_kw kind_sorted plain_sorted entry_sorted (ksk_s1 _ _) ?_;unfold Builtin.«sorted»;refine wpAny_bind (m:=checkCount "sorted" 1 1 _) (wpAny_pure ?_);refine wpAny_bind (wpAny_collect_seq l hT hg hcl hd (fun h1 kp0=>?_) (by rw[List.size_toArray,sizeLine_eq];lia));have kp:∀b u,s.heap.get? b=some u->h1.get? b=some u:=kp0;refine wpAny_bind (wpAny_newList ?_ (by rw[sizeLine_eq];simp;lia));have hoL:(h1.push (seqObj "list" vs.toArray 0)).get? h1.objs.size=some (seqObj "list" vs.toArray 0):=Heap.get?_push_size _ rfl;have keep:∀b u,s.heap.get? b=some u->(h1.push (seqObj "list" vs.toArray 0)).get? b=some u:=fun b u e=>Heap.get?_push_of_some _ (kp b u e);have hLs:=hL.keeps keep;have hLl:L<h1.objs.size:=(hL.keeps kp).lt;refine wpAny_bind (wpAny_holding (wpAny_call_entry_kw slot_list_sort ⟨_,hoL,rfl⟩ entry_list_sort ?body (ksk_l1 _ _)))
 case body =>
  show wpAny (model prog w) A.in1.in1 (Builtin.«list.sort» ⟨[.ref h1.objs.size],[(Str.ofString "key",.ref f)]⟩) _ _ _;rw[ksk_t1];refine ksk_sort (h₀:=Att.noObjs (h1.push (seqObj "list" vs.toArray 0))) (L:=L) (m:=m) (news:=jW (Att.noObjs (h1.push (seqObj "list" vs.toArray 0))) h1 L) (kz:=kz) (vs:=vs) (Att.fr_all hLs) (fun p hp=>?_) hoL ?_ (Att.noObjs_get _ _) (fun p hp=>?_) bv h64 (fun i v k hv hk hh tk own F' N'=>?_) fun h' tk out c F' N' k'=>⟨_,rfl,?_⟩
  ·obtain⟨a1,a2,a3⟩:=gg hp;exact⟨Heap.get?_push_of_some _ a3,a1,Att.noObjs_get _ _⟩
  ·exact Nat.ne_of_gt hLl
  ·exact Nat.ne_of_lt (Heap.lt_size (gg hp).2.2)
  ·refine wpAny_mono (turn i v k hv hk hh tk fun b u hb e=>(N' (b,u) (List.mem_append_left _ (jn hb (Att.noObjs_get _ _) (kp b u e)))).1) (fun u s' ⟨h',tk',t',e1,e2,e3⟩=>?_) fun _ _ z=>z;subst e2;exact⟨h',tk',t',e1,rfl,F'.kept e3,N'.grown e3⟩
  ·refine wpAny_pure ⟨_,rfl,h h1 _ h' tk out c kp (fun b u hb e=>(N' (b,u) (.tail _ (jn hb (Att.noObjs_get _ _) e))).1) F'.ns (Nat.le_refl _) (N' _ (.head _)).1 k'⟩
end
def jA(P:Addr) (pos:Pos) (q:Str) (M M':DH):Prop:=M'=M∨∃c,M c=none/\M P=some (jK P pos none)/\M'=az (az M P (jK P pos (some c))) c (Bh c q)
theorem jA.tab{P:Addr}{pos:Pos}{q:Str}{M M':DH}(h:jA P pos q M M') (t:dM P pos q M):dM P pos q M':=by
 rcases h with rfl|⟨c,h1,h2,rfl⟩
 ·exact t
 ·refine .inr ⟨c,?_,ar⟩;have:P≠c:=fun z=>by rw[z,h1]at h2;cases h2
  rw[aw this,ar]
theorem jA.keep{P:Addr}{pos:Pos}{q:Str}{M M':DH}(h:jA P pos q M M') {a:Addr}{o:HD}(ha:a≠P) (e:M a=some o):M' a=some o:=by
 rcases h with rfl|⟨c,h1,h2,rfl⟩
 ·exact e
 ·have:a≠c:=fun z=>by rw[z,h1]at e;cases e
  rw[aw this,aw ha];exact e
section
variable{X:Cx}{aa:List (Addr×Obj)}{σ:St}{H:Hp}{s:Shared}{M:DH}{T c:Addr}{aS:Pos}{qual:Str}{params:Arguments}{body:Expr}{scope:Scope}{clos:List (Str×Addr)}{fl:Nat}
theorem xE{Q:Value->Shared->Prop}(I:Inv X aa σ H s) (hr:HR X.K M H) (hT:dM T aS qual M) (hC:PySem.W.CodeHd X.base c T) (hB:X.base.BuiltinsAt X.mg T) (hcode:X.env.code=.ref c) (hcl:closureFor scope X.env=pure clos)
  (h:∀(f c':Addr) (M':DH) (H':Hp) (s':Shared) (pm ctv:Value),Inv X aa σ H' s'->jA T aS qual M M'->Ext M H M' H'->HR X.K M' H'->s'.heap.get? f=some (PySem.W.kla_obj "<lambda>" qual params body scope clos pm c' ctv)->s'.heap.CodeRec (.ref c') qual->Q (.ref f) s') :
  wpAny (model X.prog X.w) X.A (makeFunction "<lambda>" qual params (.expr body) scope X.env [] [] [] aS fl) Q X.xe s:=by
 have hgs:s.heap.Ns mainGlobals X.mg:=I.mod.glob.keeps I.bk;have hCs:=hC.keeps I.bk;have hBs:=hB.keeps I.bk;rcases hT with hT|⟨c',hT,hc'⟩
 ·obtain⟨vs,hH,hv⟩:=hr T _ hT;obtain⟨tE,_,_⟩:=I.hok T _ hH;have tE:s.heap.get? T=some (PySem.W.tabObj #[]):=tE;have hgP:mainGlobals≠T:=fun z=>by
   obtain⟨o,es,ep,e,hd,_⟩:=hgs;rw[z,tE]at e;cases e;cases hd
  refine PySem.W.kla_makeFunction (mg:=X.mg) hcl I.ok.glob hgs hcode hCs tE trivial rfl hgP hBs fun c' ctv h' tk hx hge hlt hrec htb=>?_;have nT:bh X.prog X.w (upd H T (.ext (iW T aS (some c')))) h' T (.ext (iW T aS (some c'))):=⟨htb,⟨_,htb⟩,fun h1 h2 e k=>k _ e⟩;have I1:Inv X aa σ (upd H T (.ext (iW T aS (some c')))) { s with heap:=h',toks:=tk }:=I.write (by rw[hH];trivial) (.inl rfl) (fun b u hb e=>hx b u hb e) ⟨_,htb⟩ nT;have hn:H c'=none:=I.hok.fresh hge;have hTc:c'≠T:=fun z=>by rw[z,hH]at hn;cases hn
  have hMn:M c'=none:=hr.fresh hn;obtain⟨c2,oc,ovs,t,e2,hoc,hd,hv2⟩:=id hrec;cases e2;have hz:X.s₀.heap.objs.size<=s.heap.objs.size:=I.sz;have I2:Inv X aa σ (upd (upd H T (.ext (iW T aS (some c')))) c' (.ext (CN c' qual))) { s with heap:=h',toks:=tk }:=by
   refine I1.track (by rw[aq hTc];exact hn) ⟨⟨oc,ovs,t,hoc,hd,hv2⟩,⟨_,hoc⟩,fun h1 h2 ⟨o,vs,t,a1,a2,a3⟩ k=>⟨o,vs,t,k _ a1,a2,a3⟩⟩ ?_ ?_ ?_ ?_
   ·exact Heap.get?_none_of_le (Nat.le_trans hz hge)
   ·obtain⟨m,hm,_⟩:=I.loc;exact Nat.ne_of_gt (Nat.lt_of_lt_of_le hm.lt hge)
   ·intro x d e;obtain⟨v,o,ho,_⟩:=I.cell x d e;exact Nat.ne_of_lt (Nat.lt_of_lt_of_le (Heap.lt_size ho) hge)
   ·intro p hp;exact Nat.ne_of_lt (Nat.lt_of_lt_of_le (Heap.lt_size (I.pin p hp).1) hge)
  have I3:=I2.kept (h':=h'.push (PySem.W.kla_obj "<lambda>" qual params body scope clos ((X.mg "__name__").getD .none) c' ctv)) (t':=tk) fun b u e=>Heap.get?_push_of_some _ e;have e1:Ext M H (az M T (jK T aS (some c'))) (upd H T (.ext (iW T aS (some c')))):=Ext.write hT;have r1:=hr.put e1 ⟨[],aA,ah.nil⟩;have e2:Ext (az M T (jK T aS (some c'))) (upd H T (.ext (iW T aS (some c')))) (az (az M T (jK T aS (some c'))) c' (Bh c' qual)) (upd (upd H T (.ext (iW T aS (some c')))) c' (.ext (CN c' qual))):=Ext.own (by rw[aq hTc];exact hn);have r2:=r1.put e2 ⟨[],aA,ah.nil⟩;exact h h'.objs.size c' _ _ _ _ _ I3 (.inr ⟨c',hMn,hT,rfl⟩) (e1.trans e2) r2 (Heap.get?_push_size _ rfl) (hrec.keeps fun b u e=>Heap.get?_push_of_some _ e)
 ·obtain⟨vs,hH,hv⟩:=hr T _ hT;obtain⟨tE,_,_⟩:=I.hok T _ hH;have tE:s.heap.get? T=some (PySem.W.tabObj #[rawInt aS.line,rawInt aS.col,.ref c']):=tE;obtain⟨vs',hH',hv'⟩:=hr c' _ hc';obtain⟨⟨oc,ovs,t,hoc,hd,hv2⟩,_,_⟩:=I.hok c' _ hH';have hf:codeAmong aS #[rawInt aS.line,rawInt aS.col,Value.ref c'].toList=some (.ref c'):=codeAmong_snoc [] trivial rfl;have ht:TriplesOk #[rawInt aS.line,rawInt aS.col,Value.ref c'].toList:=TriplesOk_snoc aS.line aS.col (.ref c') [] trivial;refine PySem.W.kla_makeFunctionHit (mg:=X.mg) hcl I.ok.glob hgs hcode hCs tE ht hf hBs fun ctv h' tk hk hsz=>?_;have I3:=I.kept (h':=h'.push (PySem.W.kla_obj "<lambda>" qual params body scope clos ((X.mg "__name__").getD .none) c' ctv)) (t':=tk) fun b u e=>Heap.get?_push_of_some _ (hk b u e);exact h h'.objs.size c' M H _ _ _ I3 (.inl rfl) (Ext.refl _ _) hr (Heap.get?_push_size _ rfl) ⟨c',oc,ovs,t,rfl,Heap.get?_push_of_some _ (hk _ _ hoc),hd,hv2⟩
end
def jH(a:Int×Int):D:=.tup [.int a.1,.int a.2]
def wX(T:Addr) (aS:Pos) (q:Str) (t:TAd):TEd:=fun Δ M Q=>t Δ M fun ds M1=>∃arcs:List (Int×Int),ds=[.tup (arcs.map jH)]/\arcs.length<64/\dM T aS q M1 /\
 ∀(arcs':List (Int×Int)) (M2:DH),arcs'.Perm arcs->arcs'.Pairwise (fun x y=>x.2<=y.2)->jA T aS q M1 M2->Q (.lst (arcs'.map jH)) M2
theorem k9{α β:Type}{f:α->β}{l1 l2:List β}(h:l1.Perm l2):∀L:List α,l2=L.map f->∃L':List α,L'.Perm L/\l1=L'.map f:=by
 induction h with
 |nil=>intro L e;cases L with
  |nil=>exact⟨[],.nil,rfl⟩
  |cons a L=>cases e
 |cons x _ ih=>intro L e;cases L with
  |nil=>cases e
  |cons a L =>
   rw[List.map_cons,List.cons.injEq]at e;obtain⟨L',p,e2⟩:=ih L e.2;exact⟨a::L',p.cons a,by rw[List.map_cons,e.1,e2]⟩
 |swap x y l=>intro L e;cases L with
  |nil=>cases e
  |cons a L=>cases L with
   |nil=>simp at e
   |cons b L =>
    simp only[List.map_cons,List.cons.injEq]at e;exact⟨b::a::L,.swap a b L,by simp[e.1,e.2.1,e.2.2]⟩
 |trans _ _ ih1 ih2 =>
  intro L e;obtain⟨L2,p2,e2⟩:=ih2 L e;obtain⟨L1,p1,e1⟩:=ih1 L2 e2;exact⟨L1,p1.trans p2,e1⟩
section
variable{X:Cx}{aa:List (Addr×Obj)}{σ:St}{H:Hp}{s:Shared}{M:DH}
theorem zm{a:Int×Int}{v:V}{u:Value}(I:Inv X aa σ H s) (r:Rep X.K M H (jH a) v) (ru:aD v u):∃b t1 t2,u=.ref b/\IsTup s.heap b [Value.int a.1 t1,Value.int a.2 t2].toArray:=by
 unfold jH at r;rw[Rep]at r;obtain⟨b,vs,rfl,ta,rl⟩:=r;cases ru;obtain⟨v1,v2,rfl,r1,r2⟩:=rl.two;obtain rfl:v1=.int a.1:=by simpa only[Rep]using r1
 obtain rfl:v2=.int a.2:=by simpa only[Rep]using r2
 obtain⟨its,rv,ht,_⟩:=I.tuple ta.sq;obtain⟨u1,u2,rfl,⟨t1,rfl⟩,⟨t2,rfl⟩⟩:=ao.two rv;exact⟨b,t1,t2,rfl,ht⟩
theorem xH{K:PySem.W.Frag}:∀{arcs:List (Int×Int)}{vs:List V}{its:List Value},ah K M H (arcs.map jH) vs->ao vs its ->
  ∃L:List ((Int×Int)×V×Value),L.map (·.1)=arcs/\L.map (·.2.1)=vs/\L.map (·.2.2)=its/\∀x∈L,Rep K M H (jH x.1) x.2.1/\aD x.2.1 x.2.2
 |[],vs,its,h,r=>by
  have:vs=[]:=by simpa[ah]using h
  subst this;cases r;exact⟨[],rfl,rfl,rfl,fun _ z=>by cases z⟩
 |a::arcs,vs,its,h,r=>by
  rw[List.map_cons,ah]at h;obtain⟨v,ws,rfl,h1,h2⟩:=h;cases r with
  |cons r1 r2 =>
   obtain⟨L,e1,e2,e3,hL⟩:=xH h2 r2;refine⟨(a,v,_)::L,by rw[List.map_cons,e1],by rw[List.map_cons,e2],by rw[List.map_cons,e3],fun x hx=>?_⟩;rcases List.mem_cons.mp hx with rfl|hx
   ·exact⟨h1,r1⟩
   ·exact hL x hx
theorem sQ{K:PySem.W.Frag}:∀{L:List ((Int×Int)×V×Value)},(∀x∈L,Rep K M H (jH x.1) x.2.1/\aD x.2.1 x.2.2)->ah K M H ((L.map (·.1)).map jH) (L.map (·.2.1))/\ao (L.map (·.2.1)) (L.map (·.2.2))
 |[],_=>⟨ah.nil,.nil⟩
 |x::L,h=>by
  obtain⟨a,b⟩:=sQ (L:=L) fun y hy=>h y (.tail _ hy);exact⟨ah.cons (h x (.head _)).1 a,.cons (h x (.head _)).2 b⟩
end
theorem tq{α:Type}{a c:Nat}(hac:a<=c) {p:Nat->Bool}(hp:∀k,p k=(decide (a<=k)&&decide (k<c))):∀(xs:List α) (n:Nat),((xs.zipIdx n).filterMap fun q=>if p q.2=true then none else some q.1)=xs.take (a-n)++xs.drop (c-n)
 |[],n=>by simp
 |x::xs,n=>by
  rw[List.zipIdx_cons,List.filterMap_cons,tq hac hp xs (n+1),hp]
  by_cases h1:n<a
  ·rw[show a-n=(a-(n+1))+1 by lia,show c-n=(c-(n+1))+1 by lia,List.take_succ_cons,List.drop_succ_cons];simp[show ¬ a<=n by lia]
  ·by_cases h2:n<c
   ·rw[show a-n=0 by lia,show a-(n+1)=0 by lia,show c-n=(c-(n+1))+1 by lia,List.drop_succ_cons];simp[show a<=n by lia,h2]
   ·rw[show a-n=0 by lia,show a-(n+1)=0 by lia,show c-n=0 by lia,show c-(n+1)=0 by lia];simp[h2]
section
variable{prog:Program}{w:World}{A:Around}{s:Shared}{E:Value->Shared->Prop}
theorem mv{l sl:Addr}{items:List Value}{n:Nat}{vl vu:Value}{a c:Nat}{Q:Unit->Shared->Prop}
  (e:s.heap.get? l=some { cls:=.type "list",data:=.seq items.toArray n })
  (hs:s.heap.IsSliceOf sl vl vu .none) (pl:IsPart vl (some (a:Int))) (pu:IsPart vu (some (c:Int))) (hac:a<=c) (hc:c<=items.length)
  (hsz:items.length<=sizeLine) (h:∀f:Array Value->Array Value,f items.toArray=(items.take a++items.drop c).toArray->Q () { s with heap:=s.heap.update l (Obj.mapSeq f) }) :
  wpAny (model prog w) A (delItem (.ref l) (.ref sl)) Q E s:=by
 have hl:s.heap.IsList l items.toArray:=PySem.IsL.isList e;obtain⟨os,hos,hcs,hds⟩:=id hs;have hTs:s.TypeIs (.ref sl) "slice":=⟨os,hos,hcs⟩;have hstep:¬ ((rawPart none==rawInt 0)=true):=Bool.false_ne_true;refine wpAny_delItem_slot hl.typeIs (by decide) F.slot_list_delitem (wpAny_call_entry F.slot_list_delitem hl.typeIs F.entry_list_delitem ?_ (F.args_list_delitem_2 _ _));show wpAny _ _ (Builtin.List.listSubscript? (.ref sl) >>= _) _ _ s;refine wpAny_bind ?_;unfold Builtin.List.listSubscript?;refine wpAny_bind (wpAny_specialOf hTs slice_no_index ?_);simp only[Option.isNone_none,if_true];refine wpAny_pure ?_;show wpAny _ _ (typeOf (.ref sl) >>= _) _ _ s;refine wpAny_bind (wpAny_typeOf hTs ?_)
 first
  |rw[if_neg (by decide)]
  |refine PySem.W.KFB.if_not (by decide) ?_
 rw[listSliceParts_eq];refine wpAny_bind (wpAny_bind (wpAny_field hos hds (x:=.none) rfl (wpAny_bind (wpAny_listPart .none ?_))));rw[if_neg hstep];refine wpAny_bind (wpAny_field hos hds (x:=vl) rfl (wpAny_bind (wpAny_listPart pl ?_)));refine wpAny_bind (wpAny_field hos hds (x:=vu) rfl (wpAny_bind (wpAny_listPart pu (wpAny_pure ?_))));unfold Builtin.List.listItems;refine wpAny_bind (wpAny_bind (wpAny_seqItems e rfl (wpAny_pure ?_)));refine wpAny_bind (wpAny_of_eq ((sliceIndices_raw (some (a:Int)) (some (c:Int)) none items.toArray.size (by simp)).trans (congrArg (pure:Int×Int×Int->Sem (Int×Int×Int)) (rn hac (by simpa using hc)))) ?_);refine wpAny_bind (wpAny_rule ?_);have key:∀p:Nat->Bool,(∀k,p k=(decide (a<=k)&&decide (k<c)))->(List.filterMap (fun q:Value×Nat=>if p q.2=true then none else some q.1) items.zipIdx)=items.take a++items.drop c:=fun p hp=>tq hac hp items 0;refine wpAny_bind (listUpdate_at e rfl ?_ (by simpa using hsz) ?_)
 ·refine wpAny_bind (wpAny_letGo (wpAny_pure ⟨_,rfl,h _ ?_⟩));refine congrArg List.toArray (key _ fun k=>?_);show(if(1:Int) > 0 then(decide ((a:Int)<=(k:Int))&&decide ((k:Int)<(c:Int))&&((k:Int)-(a:Int)) % 1==0)else _)=_;rw[if_pos (by decide),Int.emod_one];rw[Bool.eq_iff_iff];simp
 ·refine Nat.le_trans (Nat.le_of_eq (congrArg (fun l:List Value=>l.toArray.size) (key _ fun k=>?_))) ?_
  ·show(if(1:Int) > 0 then(decide ((a:Int)<=(k:Int))&&decide ((k:Int)<(c:Int))&&((k:Int)-(a:Int)) % 1==0)else _)=_;rw[if_pos (by decide),Int.emod_one];rw[Bool.eq_iff_iff];simp
  ·rw[List.size_toArray,List.length_append,List.length_take,List.length_drop]
   lia
end
section
variable{X:Cx}{pos:Pos}
def AS(to:TEd) (tl th:TOd):TSd:=fun E Δ M=>to Δ M fun o M2=>tl Δ M2 fun l M3=>th Δ M3 fun u M4=>∃a ds i j,o=.ref a/\l=some i/\u=some j/\M4 a=some (.lst ds)/\0<=i/\i<=j/\j<=ds.length/\E.nx Δ (az M4 a (.lst (ds.take i.toNat++ds.drop j.toNat)))
theorem Ct{o lo hi:Expr}{to:TEd}{tl th:TOd}{p p2:Pos}(ho:QEd X o to) (hl:QOd X (some lo) tl) (hu:QOd X (some hi) th):QSd X (.Delete [.Subscript o (.Slice (some lo) (some hi) none p2) p] pos) (AS to tl th):=by
 simp only[QEd.eq,QSd.eq,QOd.eq]at *
 intro aa s σ H D I hh;obtain⟨Δ,M,E,sr,hr,q,kk⟩:=hh;refine wpAny_Delete (wpAny_deleteEach_cons ?_);rw[arm_delete_Subscript];refine wpAny_bind (thn (ho aa s σ H _ I ⟨Δ,M,_,sr,hr,q,fun o M1 ov H1 q1 e1 hr1 ro=>(⟨o,M1,q1,e1,hr1,ro⟩:∃o M1,(tl Δ M1 fun l M3=>th Δ M3 fun u M4=>∃a ds i j,o=.ref a/\l=some i/\u=some j/\M4 a=some (.lst ds)/\0<=i/\i<=j/\j<=ds.length/\E.nx Δ (az M4 a (.lst (ds.take i.toNat++ds.drop j.toNat))))/\Ext M H M1 H1/\HR X.K M1 H1/\Rep X.K M1 H1 o ov)⟩) fun ov s1 ⟨x,H1,I1,r1,od,M1,q1,e1,hr1,ro⟩=>?_);refine wpAny_bind (wpAny_holding (wpAny_Slice (thn (hl aa s1 σ H1 _ I1 ⟨Δ,M1,_,sr.ext e1,hr1,q1,fun l M3 H3 q3 e3 hr3=>(⟨M3,q3,e3,hr3⟩:∃M3,(th Δ M3 fun u M4=>∃a ds i j,od=.ref a/\l=some i/\u=some j/\M4 a=some (.lst ds)/\0<=i/\i<=j/\j<=ds.length/\E.nx Δ (az M4 a (.lst (ds.take i.toNat++ds.drop j.toNat))))/\Ext M1 H1 M3 H3/\HR X.K M3 H3)⟩) fun vl s2 ⟨l,H2,I2,pl,M3,q2,e2,hr2⟩ =>
  thn (hu aa s2 σ H2 _ I2 ⟨Δ,M3,_,(sr.ext e1).ext e2,hr2,q2,fun u M4 H4 q4 e4 hr4=>(⟨M4,q4,e4,hr4⟩:∃M4,(∃a ds i j,od=.ref a/\l=some i/\u=some j/\M4 a=some (.lst ds)/\0<=i/\i<=j/\j<=ds.length/\E.nx Δ (az M4 a (.lst (ds.take i.toNat++ds.drop j.toNat))))/\Ext M3 H2 M4 H4/\HR X.K M4 H4)⟩) fun vu s3 ⟨u,H3,I3,pu,M4,⟨a,ds,i,j,eo,el,eu,em,b1,b2,b3,q4⟩,e3,hr3⟩=>?_)))
 rw[evalPart_none];refine wpAny_pure ?_;have I4:Inv X aa σ H3 { s3 with heap:=s3.heap.push { cls:=.type "slice",data:=.fields #[vl,vu,.none] } }:=I3.kept (t':=s3.toks) fun b ob q=>Heap.get?_push_of_some _ q;subst eo;subst el;subst eu;simp only[Rep]at ro;subst ro;cases r1;obtain⟨vs,hv,rl⟩:=hr3 a _ em;obtain⟨z,its,n,r,hl2,e⟩:=I4.lstM hv;obtain⟨i',rfl⟩:=Int.eq_ofNat_of_zero_le b1;obtain⟨j',rfl⟩:=Int.eq_ofNat_of_zero_le (Int.le_trans b1 b2);have hln:its.length=ds.length:=by rw[<-r.length,<-rl.length]
 refine wpAny_bind (wpAny_standAt (wpAny_bind (wpAny_holding (mv e (Heap.IsSliceOf.new ..) pl pu (by lia) (by lia) (by rw[<-r.length];exact z) fun f hf=>wpAny_release (wpAny_deleteEach_nil ?_)))));have hzz:(vs.take i'++vs.drop j').length<=sizeLine:=by
  rw[List.length_append,List.length_take,List.length_drop];lia
 have I5:=I4.lset (t':=s3.toks) (ys:=vs.take i'++vs.drop j') hv e hf (ao.append (r.take _) (r.drop _)) hzz;simp only[Int.toNat_natCast]at q4;exact⟨σ,_,I5,kk.nx Δ _ σ _ q4 (((e1.trans e2).trans e3).trans (Ext.write em)) (hr3.write em ((rl.take _).append (rl.drop _))) ((((sr.ext e1).ext e2).ext e3).ext (Ext.write em))⟩
end
section
variable{P:Program}{w:World}{K:PySem.W.Frag}{mg:Str->Option Value}{base:Heap}{f:Addr}{fd:FuncData}
theorem Fun.okRC{x qual:Str}{st:Stmt}{f c:Addr}{fd:FuncData}{N ps:List Str}{k n:Nat}{S:SpD}(F:Fun K x qual st f fd) (hc:fd.code=.ref c) (hn:ps.length=n) (Sc:aB N ps (ai st))
  (hbody:∀ (A:Around) (outer:List Env) (s:Shared) (H:Hp) (E:XK),cI k (A.deeper (envOfC qual (ai st) s.heap.objs.size f (.ref c))) →
   ∃t:TSd,QSs (nO CX0 P w K mg base N qual (ai st) f (.ref c) A outer s H E).nox (cD st) t/\∀ds M R (G:Prop),S ds M R->(t { nx:=fun _ M'=>R .non M',rt:=R } (eP N ds) M->G)->G):bq P w K mg base CX0 (k+1) f fd ps (spD K n S):=by
 obtain⟨oc,od,kV,doc,pm,an,cdv,ct,osl,rfl,lk,hcd⟩:=F.ex;obtain rfl:cdv=.ref c:=hc;refine AB lk hcd Sc (fun vs H Q E h=>by rw[hn];exact rZ h) fun A outer s H vs Q E hr h=>?_;obtain⟨t,ht,hq⟩:=hbody A outer s H E hr;obtain⟨ds,M,R,hl,r,hrr,q,k'⟩:=h;refine⟨_,(show xB _ _ _ from sh ht).nox,eP N ds,M,_,pC r,hrr,hq ds M R _ q id,⟨fun Δ' M' σ' H' q' e' hr' _=>k' .non M' .non H' q' e' hr' (by simp[Rep]),fun _ _ _ _ q'=>False.elim q',fun _ _ _ _ q'=>False.elim q',fun d M' v H' q' e' hr' rv=>k' d M' v H' q' e' hr' rv⟩⟩
theorem yC{h:Heap}{c T:Addr}{d:Option Addr}{vs:Array Value}{sl:Array (Option Value)}{file:Str}{tf tg tt:Tok}{flags text:Int}{inF:Bool}(X:(aT K T).In h) (hT:K.lookup T=some (PySem.W.tabObj #[])) (lc:K.lookup c=some ⟨.type "code",d,.fields vs,sl⟩)
  (h11:vs[11]?=some (.ref T)) (h18:vs.getD 18 .none=.str file tf) (h7:vs.getD 7 .none=.int flags tg) (h9:vs.getD 9 .none=.bool inF) (h10:vs.getD 10 .none=.int text tt):PySem.W.CodeHd h c T:=by
 have hne:c≠T:=fun z=>by rw[z,hT]at lc;cases lc
 exact⟨_,vs,file,tf,flags,tg,inF,text,tt,X c _ ((bz hne K).trans lc),rfl,rfl,h11,by rw[Array.getD_eq_getD_getElem?,h11];rfl,h18,h7,h9,h10,hne⟩
theorem z8{h:Heap}{fa f T c:Addr}{fd:FuncData}{st:Stmt}{sp:Sp}{lp:Program}{k:Nat}{p1:Str}{d:Option Addr}{vs:Array Value}{sl:Array (Option Value)}(X:K.In h) (G:h.Ns mainGlobals mg) (hfa:mg "law"=some (.ref fa)) (i:cb K "law" st f fd) (b:∀a,Bd "law" "law" st [p1] [a])
  (hT:K.lookup T=some (PySem.W.tabObj #[])) (lc:K.lookup c=some ⟨.type "code",d,.fields vs,sl⟩) (h11:vs[11]?=some (.ref T))
  (o:∀base:Heap,(aT K T).In base->base.BuiltinsAt mg T->bq lp w (aT K T) mg base CX0 k f fd [p1] sp) :
  ∃fd:FuncData,(∀(s:Shared) (v:Value),BindsTo s fd ⟨[v],[]⟩ [(p1,v)])/\isCodeTable h T/\∀base:Heap,(aT K T).In base->base.Ns mainGlobals mg->base.BuiltinsAt mg T->bq lp w (aT K T) mg base CX0 k fa fd [p1] sp:=by
 have e:=hfa.symm.trans (PySem.W.mg_of X G i.a);cases e;refine⟨fd,fun s v=>?_,⟨c,_,vs,X c _ lc,rfl,rfl,h11⟩,fun base hb _ hB=>o base hb hB⟩;obtain⟨oc,od,kV,doc,pm,an,cdv,ct,osl,rfl,lk,hcd⟩:=i.F.ex;exact .of_eq (b v kV doc pm an cdv ct)
end
def Ek(pos:Pos) (q:Str) (S:Addr->SpD):Prop:=∀(T:Addr) (ns:List Int) (R:D->DH->Prop),ns.length<=63->(∀m∈ns,Few m)->(∀M',dM T pos q M'->R (.bl true) M')->S T [.scr (ns.map .int)] (az noM T (jK T pos none)) R
theorem qB{K:PySem.W.Frag}{H:Hp}{a T:Addr}{pos:Pos}{ns:List Int}(hO:vz T pos H) (hS:SqL K H a (ns.map V.int)):ah K (az noM T (jK T pos none)) H [.scr (ns.map D.int)] [.ref a]:=by
 refine ah.cons ?_ ah.nil;simp only[Rep];refine⟨a,ns.map V.int,rfl,?_,pX ns⟩;rcases hS with h|h
 ·left;have haT:a≠T:=fun z=>by
   rcases h with h|⟨o,h⟩<;>rw[z,hO.1]at h<;>cases h
  rcases h with h|h
  ·rcases hO.2 a haT with z|⟨o,xs,z⟩<;>(rw[h]at z;cases z)
  ·exact⟨h,by rw[aw haT]⟩
 ·right;exact .inr h
theorem BO{S:Addr->SpD}{pos:Pos}{qn:Str}(hS:Ek pos qn S) {k:Nat}{x:Str}{l:PySem.W.OpenLaw}{q:Program}{loose:List Str}{XP:(Str->Option Value)->Heap->Prop}{YP:World->Heap->Prop}{d:DefRec}{K:Params->PySem.W.Frag}(hr:cI k callerA) (hn:l.most=some 63) (hdf:d.params.defaults=[])
  (hY:∀(w:World) (h:Heap),YP w h->(K w.params).In h)
  (F:∀ (w:World) (mg:Str → Option Value) (fa:Addr) (h:Heap),(K w.params).In h → h.Ns mainGlobals mg → mg d.name = some (.ref fa) →
   ∃T,(K w.params).lookup T=some (PySem.W.tabObj #[])/\∃fd:FuncData,(∀(s:Shared) (u:Value),BindsTo s fd ⟨[u],[]⟩ [(x,u)])/\isCodeTable h T/\∀base:Heap,(aT (K w.params) T).In base->base.Ns mainGlobals mg->base.BuiltinsAt mg T->bq l.prog w (aT (K w.params) T) mg base CX0 k fa fd [x] (spD (aT (K w.params) T) 1 (S T))) :
  PySem.W.WalkO q loose XP YP l.row.toRowW d [] (fun f vs=>PySem.call f vs):=by
 refine Att.attach_callB hn hdf fun w s₀ s₁ mg mb fa o pm cd doc a vs ns G Y ho hd hcd hmg hobj hints bv oK hg=>?_;have KX:=hY w _ Y;obtain⟨T,hT,fd,hb,hct,hF⟩:=F w mg fa _ KX G.T.g hmg;have hTo:=KX T _ hT;have hB:s₁.heap.BuiltinsAt mg T:=by
  obtain⟨bm,ob,b1,b2,b3,b4,b5,b6⟩:=G.T.bmain;refine⟨bm,ob,b1,b2,fun z=>?_,fun z=>?_,b3,b4,b5,b6⟩
  ·obtain⟨o,es,ep,e,hd,_⟩:=G.T.g;rw[z,e]at b3;cases b3;rw[hd]at b6;cases b6
  ·rw[z,hTo]at b3;cases b3;cases b4
 refine ur (pos:=pos) (CX:=CX0) (sp:=spD (aT (K w.params) T) 1 (S T)) KX G.T.g G.T.b G.T.builtins G.T.nolimit hg hobj hints (Nat.le_trans bv (by decide)) hr hT hct hB hF hb (fun H hO hq=>?_) fun _ _ _ z=>z;have hHR:HR (aT (K w.params) T) (az noM T (jK T pos none)) H:=fun a o e=>by
  by_cases z:a=T
  ·subst z;rw[ar]at e;cases e;exact⟨[],hO.1,ah.nil⟩
  ·rw[aw z]at e;cases e
 refine⟨[.scr (ns.map .int)],az noM T (jK T pos none),fun d M'=>d=.bl true/\dM T pos qn M',rfl,qB hO hq,hHR,hS T ns _ bv oK (fun _ h=>⟨rfl,h⟩),fun d M' v H' hd' _ hr' rv=>?_⟩;obtain⟨e,ht⟩:=hd';subst e;refine⟨by simpa only[Rep]using rv,?_⟩;rcases ht with ht|⟨c,ht,_⟩
 ·obtain⟨vs,hv,_⟩:=hr' T _ ht;exact⟨none,hv⟩
 ·obtain⟨vs,hv,_⟩:=hr' T _ ht;exact⟨some c,hv⟩
section
variable{X:Cx}{a:Expr}{t:TAd}{pos p kq aS p1 p2 p3:Pos}{kj:Nat}{T c:Addr}{qual x:Str}{params:Arguments}{scope:Scope}{clos:List (Str×Addr)}
theorem yk(hu:X.A.units+64<cLine) (hdep:X.A.in1.in1.depth<recursionLimit) (hg:Gl X "sorted") (hm:X.mg "sorted"=none) (ha:QAd X [a] t) (hC:PySem.W.CodeHd X.base c T) (hB:X.base.BuiltinsAt X.mg T) (hcode:X.env.code=.ref c) (hcl:closureFor scope X.env=pure clos) (hq:X.env.qual++"<lambda>"=qual)
  (hdef:defaultsOf params X.env=([],[]))
  (hbind:∀pm c' ctv v,bindArgs (PySem.W.kla_fn "<lambda>" qual params (.Subscript (.Name x p1) (.Constant (.int 1) kj p2) p3) scope clos pm (.ref c') ctv) ⟨[v],[]⟩=pure [(x,v)])
  (hx:scope.names.lookup x=some .local) (hcell:∀y∈scope.names,y.2≠.cell) (hco:scope.isCoroutine=false) (hgen:scope.isGenerator=false) (hk:scope.kind=.function) (hd:(x==("__debug__":Str))=false)
  (he:backTo pos (starEach [a] X.env)=(false,eval a X.env)::backTo pos (starEach [] X.env):=by rfl) (hpl:(backTo pos (starEach [a] X.env)).any (·.1)=false:=by rfl)
  (hall:(backToKw pos (keywordEach [⟨some "key",.Lambda params (.Subscript (.Name x p1) (.Constant (.int 1) kj p2) p3) scope aS,kq⟩] X.env)).all (·.1.isSome)=true:=by rfl)
  (hkw:(backToKw pos (keywordEach [⟨some "key",.Lambda params (.Subscript (.Name x p1) (.Constant (.int 1) kj p2) p3) scope aS,kq⟩] X.env)).any (·.1.isNone)=false:=by rfl)
  (hnm:(backToKw pos (keywordEach [⟨some "key",.Lambda params (.Subscript (.Name x p1) (.Constant (.int 1) kj p2) p3) scope aS,kq⟩] X.env)).filterMap (·.1)=[Str.ofString "key"]:=by rfl) :
  QEd X (.Call (.Name "sorted" p) [a] [⟨some "key",.Lambda params (.Subscript (.Name x p1) (.Constant (.int 1) kj p2) p3) scope aS,kq⟩] pos) (wX T aS qual t):=by
 simp only[QEd.eq,QAd.eq]at *
 intro aa s σ H Q I hh;obtain⟨Δ,M,R,sr,hr,q,k⟩:=hh;refine wpAny_Call_Name_kw (di (u:=.builtin "sorted") I hg hm (by kernel_rfl) (callWith_kw ?_ he hpl hall hkw));refine thn (ha pos aa s σ H _ I ⟨Δ,M,_,sr,hr,q,fun ds M1 vs H1 hq1 e1 hr1 rv=>(⟨ds,M1,hq1,e1,hr1,rv⟩:∃ds M1,(∃arcs:List (Int×Int),ds=[.tup (arcs.map jH)]/\arcs.length<64/\dM T aS qual M1 /\
  ∀(arcs':List (Int×Int)) (M2:DH),arcs'.Perm arcs->arcs'.Pairwise (fun x y=>x.2<=y.2)->jA T aS qual M1 M2->R (.lst (arcs'.map jH)) M2)/\Ext M H M1 H1/\HR X.K M1 H1/\ah X.K M1 H1 ds vs)⟩) fun us s1 ⟨vs,H1,I1,r1,ds,M1,⟨arcs,ed,h64,hT,q1⟩,e1,hr1,rv⟩=>?_
 subst ed;refine kws_cons (PySem.W.kla_eval hdef ?_);rw[hq];refine xE I1 hr1 hT hC hB hcode hcl fun f c' M2 H2 s2 pm ctv I2 ts e2 hr2 hf hcd=>kws_nil ?_;rw[hnm];obtain⟨v,rfl,r0⟩:=rv.one;have r0':=r0.ext e2;obtain⟨u,rfl,ru⟩:=ao.one r1;rw[Rep]at r0';obtain⟨l,ws,rfl,ta,rl⟩:=r0';cases ru;obtain⟨its,rvs,⟨o,hgo,hcl2,n,hdo⟩,hz⟩:=I2.tuple ta.sq;obtain⟨L,eL1,eL2,eL3,hL⟩:=xH rl rvs;obtain⟨m,hm2,_⟩:=id I2.loc;have bv:its.length=arcs.length:=by rw[<-eL3,<-eL1,List.length_map,List.length_map]
 show wpAny _ _ (call (.builtin "sorted") [.ref l] [(Str.ofString "key",.ref f)]) _ _ _;refine qP (L:=X.env.locals) (m:=m) (kz:=arcs.map (·.2)) (.inr rfl) hgo hcl2 hdo hm2 (by rw[List.length_map,bv]) (by lia) ?turn ?fin
 case turn =>
  intro i v kk hv hkk h tk keep;have hLd:∀(b:Addr) (ob:Obj),s2.heap.get? b=some ob->(∀es ep,ob.data≠.dict es ep)->b≠X.env.locals:=fun b ob e nd z=>by
   obtain⟨ol,es,ep,el,dl,_⟩:=hm2;rw[z,el]at e;cases e;exact nd es ep dl
  obtain⟨x0,hx0,ex0⟩:∃x0,L[i]?=some x0/\x0.2.2=v:=by
   rw[<-eL3,List.getElem?_map]at hv;cases e:L[i]? with
   |none=>rw[e]at hv;cases hv
   |some x0=>rw[e]at hv;exact⟨x0,rfl,Option.some.inj hv⟩
  have ek:x0.1.2=kk:=by
   rw[<-eL1,List.map_map,List.getElem?_map,hx0]at hkk;exact Option.some.inj hkk
  obtain⟨hx1,hx2⟩:=hL x0 (List.mem_of_getElem? hx0);obtain⟨b,t1,t2,eb,⟨ob,hob,hoc,hod⟩⟩:=zm I2 hx1 hx2;rw[<-ex0,eb,<-ek];obtain⟨no,hod⟩:=hod;have hbL:=hLd b ob hob fun es ep z=>by rw[hod]at z;cases z
  have hfL:=hLd f _ hf fun es ep z=>by cases z
  obtain⟨c2,oc,ovs,tc,ec,hoc2,hdc,hvc⟩:=id hcd;cases ec;have hcL:=hLd c' oc hoc2 fun es ep z=>by rw[hdc]at z;cases z
  have hlim:h.NoLimit:=by
   obtain⟨mc,h1,h2⟩:=I2.mod.nolimit;obtain⟨os0,es,ep,e0,d0⟩:=h1;have b1:=I2.ok.bs _ _ e0;have:cStatics≠X.env.locals:=Nat.ne_of_lt (Nat.lt_of_lt_of_le (Heap.lt_size b1.1) I2.ok.above);exact⟨mc,⟨os0,es,ep,keep _ _ this (I2.bk _ _ e0),d0⟩,h2⟩
  refine wpAny_mono (wM (s:={ s2 with heap:=h,toks:=tk }) (its:=[Value.int x0.1.1 t1,Value.int x0.1.2 t2]) (keep f _ hfL hf) ⟨c',oc,ovs,tc,rfl,keep _ _ hcL hoc2,hdc,hvc⟩ hlim ?_ (hbind pm c' ctv) hx hcell hco hgen hk hd ⟨ob,keep _ _ hbL hob,hoc,no,hod⟩ (by simp) rfl) (fun u s' ⟨h',tk',e1,e2,e3⟩=>⟨h',tk',t2,e1,e2,e3⟩) fun _ _ z=>z;exact hdep
 case fin =>
  intro h1 D h' tk out cc kp keep hns hge hD hout;have I3:Inv X aa σ H2 { s2 with heap:=h1,toks:=tk }:=I2.kept kp;obtain⟨ps,hp,eo,hpw⟩:=hout;have ez:(arcs.map (·.2)).zip its=L.map fun x=>(x.1.2,x.2.2):=by
   rw[<-eL1,<-eL3,List.map_map,List.zip_map'];rfl
  rw[ez]at hp;obtain⟨L',pL,ePs⟩:=k9 hp L rfl;have hL':∀x∈L',Rep X.K M2 H2 (jH x.1) x.2.1/\aD x.2.1 x.2.2:=fun x hx=>hL x (pL.mem_iff.mp hx);obtain⟨rp,rvv⟩:=sQ hL';have eo':out.toList=L'.map (·.2.2):=by rw[eo,ePs,List.map_map];rfl
  have hDn:H2 D=none:=I3.hok.fresh hge;have hLn:∀b,H2 b≠none->b≠X.env.locals:=fun b hb z=>hb (z▸I3.free);have hzl:(L'.map (·.2.1)).length<=sizeLine:=by rw[List.length_map,pL.length_eq,<-List.length_map (f:=(·.1)),eL1,sizeLine_eq];lia
  have hlt:∀b o,h1.get? b=some o->b≠D:=fun b o e z=>Nat.lt_irrefl _ (Nat.lt_of_lt_of_le (Heap.lt_size (z▸e)) hge);have newD:bh X.prog X.w (upd H2 D (.lst (L'.map (·.2.1)))) h' D (.lst (L'.map (·.2.1))):=⟨hzl,L'.map (·.2.2),cc,rvv,by rw[hD,<-eo',Array.toArray_toList]⟩;have I4:Inv X aa σ (upd H2 D (.lst (L'.map (·.2.1)))) { s2 with heap:=h',toks:=tk }:=by
   refine Inv.step (s:={ s2 with heap:=h1,toks:=tk }) (h':=h') (g':=s2.gens) (d':=s2.drawn) (t':=tk) (ch:=[]) I3 (fun _ z=>nomatch z) (fun b o hb _ _ e n=>keep b o hb e) (fun b o hb _ _ e n=>⟨o.slots,keep b o hb e⟩) (fun b o _ e n=>?_) (fun b o _ e=>?_) (fun b xs e=>?_) (fun b o u e=>?_) (fun b ps e=>?_) (fun m' hm'=>?_) (fun b o e=>?_) I2.bare
   ·rw[aq (hlt b o e)];exact n
   ·by_cases hb:b=X.env.locals
    ·obtain⟨ol,_,_,el,_⟩:=hns;exact⟨ol,hb▸el⟩
    ·exact⟨o,keep b o hb e⟩
   ·rw[aq (aL e hDn)];exact e
   ·rw[aq (aL e hDn)];exact e
   ·exact⟨#[],by rw[aq (aL e hDn),e];simp⟩
   ·have q1:=(hm2.keeps kp).eq_nsMap;have q2:=hm'.eq_nsMap;rw[q2,<-q1];exact hns
   ·by_cases hb:b=D
    ·subst hb;rw[aA]at e;cases e;exact newD
    ·rw[aq hb]at e;refine(I3.hok b o e).stay (fun b' u hb' eb=>keep b' u ?_ eb) (fun b' eb=>?_) fun b' xs eb=>?_
     ·rcases hb' with rfl|hb'
      ·exact hLn _ (by rw[e];simp)
      ·exact hLn _ (by rw[hb'];simp)
     ·rw[aq (aL eb hDn)];exact eb
     ·rw[aq (aL eb hDn)];exact eb
  have hr4:HR X.K M2 (upd H2 D (.lst (L'.map (·.2.1)))):=hr2.new hDn;have e4:Ext M2 H2 M2 (upd H2 D (.lst (L'.map (·.2.1)))):=Ext.new hr2 hDn;refine⟨.ref D,_,I4,rfl,k _ M2 _ _ (q1 (L'.map (·.1)) M2 (by rw[<-eL1];exact pL.map _) ?_ ts) ((e1.trans e2).trans e4) hr4 ?_⟩
  ·rw[ePs,List.pairwise_map]at hpw;rw[List.pairwise_map];exact hpw.imp fun h=>by simpa using h
  ·rw[Rep];exact⟨D,_,rfl,⟨aA,hr2.fresh hDn⟩,rp.ext e4⟩
end
end L2
namespace L2
open PySem PySem.Spec PyProof.Rows
section
variable{X:Cx}{a:Expr}{p p2 pos pos2:Pos}
def DQ(ta:TAd):TEd:=fun Δ M Q=>ta Δ M fun ds M1=>∃j:Int,ds=[.int j]/\0<=j/\j<=1000000/\∀l,M1 l=none->Q (.ref l) (az M1 l (.lst (gP 0 j.toNat)))
theorem nZ{ta:TAd}(bg:X.calm=true) (hg:Gl X "list") (hm:X.mg "list"=none) (hg2:Gl X "range") (hm2:X.mg "range"=none) (ha:QAd X [a] ta) (hs:starEach [a] X.env=[(false,eval a X.env)]:=by rfl)
  (hs2:starEach [.Call (.Name "range" p2) [a] [] pos2] X.env=[(false,eval (.Call (.Name "range" p2) [a] [] pos2) X.env)]:=by rfl):QEd X (.Call (.Name "list" p) [.Call (.Name "range" p2) [a] [] pos2] [] pos) (DQ ta):=by
 simp only[QEd.eq,QAd.eq]at *
 exact(om bg hg hm hg2 hm2 ha hs hs2).conv fun σ H Q hup=>hup.el fun Δ M R sr hr q k=>⟨Δ,M,_,sr,hr,q,fun ds M1 vs H1 ⟨j,e,h0,h1,q2⟩ e1 hr1 rp=>by
   subst e;obtain⟨v,ev,rv1⟩:=rp.one;have ev1:v=.int j:=by simpa only[Rep]using rv1
   subst ev1;subst ev;exact⟨j,rfl,h0,h1,fun l hl=>k _ _ _ _ (q2 l (hr1.fresh hl)) (e1.trans (Ext.own hl)) (hr1.own hl (o4 _)) (by simp only[Rep])⟩⟩
end
end L2
namespace My
open PySem PySem.Spec PyProof.Rows L2
noncomputable def top(i:Nat):Stmt:=PySem.Challenge.pw_wordwishes_k40_whole_plain_rows_and_draw.main.body.getD i (.Pass ⟨0,0,0,0⟩)
abbrev cO:Stmt:=top 1
abbrev fP:Stmt:=top 2
abbrev dw:Stmt:=top 5
abbrev gL:Stmt:=top 6
abbrev cp:Stmt:=top 7
abbrev eM:Stmt:=top 8
abbrev cG:Stmt:=top 10
abbrev aU:Stmt:=top 12
abbrev bK:Stmt:=top 13
abbrev cx:Stmt:=top 15
abbrev eO:Stmt:=top 16
abbrev aZ:Stmt:=top 17
abbrev cY:Stmt:=top 18
abbrev cE:Stmt:=top 19
abbrev jm:Stmt:=top 22
abbrev dD:Stmt:=top 24
abbrev cT:Stmt:=top 25
abbrev bO:Stmt:=top 26
abbrev cU:Stmt:=top 27
abbrev iO:Stmt:=top 28
abbrev iL:Stmt:=top 30
abbrev dS:Stmt:=top 31
abbrev jS:Stmt:=top 32
abbrev gn:Stmt:=top 33
abbrev mR:Stmt:=top 34
noncomputable abbrev iV:List Str:=["pairs","mark","reached","at","low","high"]
theorem dQ:aB iV ["pairs","mark"] (ai cO):=fsc
abbrev qk:List Str:=["order","one","other"]
theorem hJ:aB qk ["order","one","other"] (ai fP):=fsc
abbrev lV:List Str:=["order","turn","one","other"]
theorem fo:aB lV ["order","turn","one","other"] (ai dw):=fsc
abbrev rj:List Str:=["order","one","other"]
theorem jo:aB rj ["order","one","other"] (ai gL):=fsc
abbrev cv:List Str:=["row"]
theorem ff:aB cv ["row"] (ai cp):=fsc
abbrev eX:List Str:=["row"]
theorem jj:aB eX ["row"] (ai eM):=fsc
abbrev dF:List Str:=["order","row"]
theorem fB:aB dF ["order","row"] (ai cG):=fsc
abbrev bA:List Str:=["order","row"]
theorem cm:aB bA ["order","row"] (ai aU):=fsc
abbrev bu:List Str:=["order","row","plain","rows"]
theorem fj:aB bu ["order","row"] (ai bK):=fsc
abbrev cq:List Str:=["order","row","many"]
theorem gF:aB cq ["order","row"] (ai cx):=fsc
abbrev gK:List Str:=["mates","counts","begin","end"]
theorem ja:aB gK ["mates","counts","begin","end"] (ai eO):=fsc
abbrev aO:List Str:=["mates","many","counts","length","begin","end"]
theorem c8:aB aO ["mates"] (ai aZ):=fsc
abbrev jC:List Str:=["counts","row"]
theorem eE:aB jC ["counts","row"] (ai cY):=fsc
abbrev cz:List Str:=["order","row","mates","counts","arcs","stretches","begin","end","mate"]
theorem fk:aB cz ["order","row"] (ai cE):=fsc
abbrev lT:List Str:=["arcs","many","left","walk","begin","end","place"]
theorem fc:aB lT ["arcs","many"] (ai dD):=fsc
abbrev bU:List Str:=["strands","one","other"]
theorem fL:aB bU ["strands","one","other"] (ai cT):=fsc
abbrev bt:List Str:=["strands","pairs","other","there","walk","left","right","place"]
theorem fh:aB bt ["strands","pairs","other"] (ai bO):=fsc
abbrev bN:List Str:=["arcs","one","other","many","last","strands","pairs"]
theorem gY:aB bN ["arcs","one","other"] (ai cU):=fsc
abbrev um:List Str:=["order","one","other","together","arcs"]
theorem kh:aB um ["order","one","other"] (ai iO):=fsc
abbrev uH:List Str:=["_law_cell","_law_sizes","_law_found","_law_size","_law_seed"]
theorem lJ:aB uH ["_law_cell","_law_sizes"] (ai iL):=fsc
abbrev gc:List Str:=["_law_xs","_law_amount","_law_alphabet","_law_found","_law_k","_law_rest"]
theorem iC:aB gc ["_law_xs","_law_amount"] (ai dS):=fsc
abbrev og:List Str:=["_law_xs","_law_marks","_law_most"]
theorem pE:aB og ["_law_xs","_law_marks","_law_most"] (ai jS):=fsc
noncomputable abbrev iS:List Str:=["_law_order","_law_row_here","_law_found","_law_one"]
theorem kU:aB iS ["_law_order","_law_row_here"] (ai gn):=fsc
abbrev ka:List Str:=["_law_script","_law_cell","_law_xs","_law_marks","_law_pairs","_law_order","_law_one","_law_other","_law_made","_law_both","_law_first","_law_second"]
theorem wu:aB ka ["_law_script"] (ai mR):=fsc
structure Txt(mg:Str->Option Value):Prop where
 b_len:mg "len"=none
 b_tuple:mg "tuple"=none
 b_reversed:mg "reversed"=none
 b_range:mg "range"=none
 b_sorted:mg "sorted"=none
 b_set:mg "set"=none
 b_sum:mg "sum"=none
 b_list:mg "list"=none
 b_enumerate:mg "enumerate"=none
 b_all:mg "all"=none
set_option hygiene false in
local macro_rules|`(tactic| walk_at "rd")=>`(tactic| simp only[DQ,wX,AS,Fu,AL,dSU,Bt,tw,zR,B9,Fb,xf,lh,dC,BB,xp,Dj,Ay,Aq,dOp,dUn,rm,D1,wD,An,dCB,sX,Bl,DC,Ak,DL,Cf,xO,Df,Em,pI,Dk,vL,Az,vm,Eg,Aj,Ca,yS,wk,vE,B0,AF,Au,AA,ve,EN,EH,wa,HD.dKr.injEq,dDc,z7,HD.dT.injEq,HD.dK.injEq,DR,Dt,By,Cw,oA,vH,dLc,EL,wf,DG,
 Ad,Br,z6,zJ,yE,z4,zC,yL,Ce,yq,Ab,zQ,yG,EK,EM,D8,AO,Es,Dw,vD,CY,BY,CF,Bc,BX,A1,B3,Cy,BF,xy,xn,Eh,E1,Ef,DP,BQ,B6,DU,DD,Dr,xu,xR,xN,vX,Dl,DY,E5,Eu,Ed,Dh,D9,D4,AX,yu,uR,CH,ar,l7,
 eP,List.map_cons,List.map_nil,List.cons_append,List.nil_append,List.length_cons,List.length_nil,List.replicate,List.set_cons_zero,List.set_cons_succ,List.getElem?_cons_zero,List.getElem?_cons_succ,Option.some.injEq,exists_eq_left',exists_eq_left,D.int.injEq,D.bl.injEq,D.str.injEq,D.ref.injEq,D.tup.injEq,D.lst.injEq,true_and,and_true,if_true,decide_eq_true_eq,exists_and_left,Nat.zero_add,Nat.reduceAdd,Nat.reduceSub,EA,ET,u7,Ee,HD.lst.injEq,List.cons.injEq,or_true,true_or,and_self,↓reduceIte,Int.reduceLT,Int.reduceLE,Int.reducePow,Int.reduceNeg,Int.reduceToNat,Nat.reducePow,Nat.reduceLT,Nat.reduceLeDiff,Int.reduceAdd,Int.reduceMul,Int.reduceSub,Bool.false_eq_true,Bool.true_eq_false,if_false])
section
variable{P:Program}{w:World}{K:PySem.W.Frag}{mg:Str->Option Value}{base:Heap}{f:Addr}{fd:FuncData}
def aN(x:Str×Str):D:=.tup [.str x.1,.str x.2]
theorem kN{jh:List Str}{v:Int}(h0:0<=v) (h1:v<(jh.length:Int)):∃m∈jh,atI (jh.map D.str) v=some (.str m):=by
 obtain⟨n,rfl⟩:=Int.eq_ofNat_of_zero_le h0;have hn:n<jh.length:=by lia
 exact⟨jh[n],List.getElem_mem hn,cy (by simp[hn])⟩
theorem gQ{xs:List D}{n:Nat}:L2.dJ xs none (some (n:Int))=xs.take n:=by
 unfold L2.dJ;rw[HT.sIx_none,HT.sIx_nat,List.drop_zero,Nat.sub_zero]
 by_cases h:n<=xs.length
 ·rw[Nat.min_eq_left h]
 ·rw[Nat.min_eq_right (by lia),List.take_length,List.take_of_length_le (by lia)]
theorem j7{xs:List D}{n:Nat}:L2.dJ xs (some (n:Int)) none=xs.drop n:=by
 unfold L2.dJ;rw[HT.sIx_none,HT.sIx_nat]
 by_cases h:n<=xs.length
 ·rw[Nat.min_eq_left h,List.take_of_length_le (by simp)]
 ·rw[Nat.min_eq_right (by lia),Nat.sub_self,List.take_zero,List.drop_of_length_le (by lia)]
theorem kT{lo:Int}{n:Nat}:(gP lo n).length=n:=by simp[gP]
section
variable{σ:Type}
noncomputable def fC:List σ->List (List σ×σ×List σ)
 |[]=>[]
 |y::ys=>([],y,ys)::(fC ys).map fun c=>(y::c.1,c.2.1,c.2.2)
theorem fM{xs:List σ}:∀{c:List σ×σ×List σ},c∈fC xs->c.1.length+c.2.2.length+1=xs.length:=by
 induction xs with
 |nil=>intro c h;cases h
 |cons y ys ih =>
  intro c h;rcases List.mem_cons.mp h with rfl|h
  ·simp
  ·obtain⟨d,hd,rfl⟩:=List.mem_map.mp h;have:=ih hd;simp;lia
theorem yR{xs:List σ}:∀{c:List σ×σ×List σ},c∈fC xs->c.1++c.2.1::c.2.2=xs:=by
 induction xs with
 |nil=>intro c h;cases h
 |cons y ys ih =>
  intro c h;rcases List.mem_cons.mp h with rfl|h
  ·rfl
  ·obtain⟨d,hd,rfl⟩:=List.mem_map.mp h;simp[ih hd]
theorem xI(xs ys:List σ):fC (xs++ys)=((fC xs).map fun c=>(c.1,c.2.1,c.2.2++ys))++(fC ys).map fun c=>(xs++c.1,c.2.1,c.2.2):=by
 induction xs with
 |nil=>simp[fC]
 |cons x xs ih=>simp[fC,ih,List.map_map,Function.comp_def]
def Wf(R:σ->σ->Bool):Nat->List σ->Nat
 |_,[]=>1
 |0,_::_=>0
 |k+1,x::xs=>((fC xs).map fun c=>if R x c.2.1 then Wf R k c.1*Wf R k c.2.2 else 0).sum
def W(R:σ->σ->Bool) (xs:List σ):Nat:=Wf R xs.length xs
theorem AM{R:σ->σ->Bool}:∀{k:Nat}{xs:List σ},xs.length<=k->Wf R k xs=W R xs:=by
 have key:∀(n k j:Nat) (xs:List σ),xs.length<=n->xs.length<=k->xs.length<=j->Wf R k xs=Wf R j xs:=by
  intro n
  induction n with
  |zero =>
   intro k j xs h _ _;have:xs=[]:=List.eq_nil_of_length_eq_zero (by lia);subst this;simp[Wf]
  |succ n ih =>
   intro k j xs h hk hj;cases xs with
   |nil=>simp[Wf]
   |cons x xs =>
    simp only[List.length_cons]at h hk hj;obtain⟨k,rfl⟩:∃m,k=m+1:=⟨k-1,by lia⟩;obtain⟨j,rfl⟩:∃m,j=m+1:=⟨j-1,by lia⟩;simp only[Wf];congr 1;apply List.map_congr_left;intro c hc;have:=fM hc;rw[ih k j c.1 (by lia) (by lia) (by lia),ih k j c.2.2 (by lia) (by lia) (by lia)]
 intro k xs h;exact key k k xs.length xs h h (Nat.le_refl _)
theorem sF{R:σ->σ->Bool}:W R []=1:=by simp[W,Wf]
theorem oG{R:σ->σ->Bool}{x:σ}{xs:List σ}:W R (x::xs)=((fC xs).map fun c=>if R x c.2.1 then W R c.1*W R c.2.2 else 0).sum:=by
 show Wf R (xs.length+1) (x::xs)=_;simp only[Wf];congr 1;apply List.map_congr_left;intro c hc;have:=fM hc;rw[AM (by lia),AM (by lia)]
theorem g7{α:Type}{f:α->Nat}:∀{l:List α},(∀x∈l,f x=0)->(l.map f).sum=0
 |[],_=>by simp
 |x::l,h=>by
  simp only[List.map_cons,List.sum_cons,h x (.head _),g7 fun y hy=>h y (.tail _ hy)]
theorem vw{R:σ->σ->Bool}:∀(n:Nat) (xs:List σ),xs.length<=n->xs.length % 2=1->W R xs=0:=by
 intro n
 induction n with
 |zero=>intro xs h o;lia
 |succ n ih =>
  intro xs h o;cases xs with
  |nil=>simp at o
  |cons x xs =>
   simp only[List.length_cons]at h o;rw[oG];refine g7 fun c hc=>?_;have:=fM hc
   by_cases e:c.1.length % 2=1
   ·rw[ih c.1 (by lia) e];simp
   ·rw[ih c.2.2 (by lia) (by lia)];simp
theorem mM{α:Type}{f:α->Nat}{m:Nat}:∀{l:List α},(∀x∈l,f x<=m)->(l.map f).sum<=l.length*m
 |[],_=>by simp
 |x::l,h=>by
  simp only[List.map_cons,List.sum_cons,List.length_cons,Nat.add_mul,Nat.one_mul];have:=mM (l:=l) fun y hy=>h y (.tail _ hy);have:=h x (.head _)
  lia
theorem qx{xs:List σ}:(fC xs).length=xs.length:=by
 induction xs with
 |nil=>rfl
 |cons x xs ih=>simp[fC,ih]
theorem DF{R:σ->σ->Bool}:∀(n:Nat) (xs:List σ),xs.length<=n->n<=100->W R xs<=100 ^ xs.length:=by
 intro n
 induction n with
 |zero =>
  intro xs h _;have:xs=[]:=List.eq_nil_of_length_eq_zero (by lia);subst this;simp[sF]
 |succ n ih =>
  intro xs h hn;cases xs with
  |nil=>simp[sF]
  |cons x xs =>
   simp only[List.length_cons]at h ⊢;rw[oG];refine Nat.le_trans (mM (m:=100 ^ xs.length) fun c hc=>?_) ?_
   ·have:=fM hc
    by_cases e:R x c.2.1=true
    ·rw[if_pos e];refine Nat.le_trans (Nat.mul_le_mul (ih c.1 (by lia) (by lia)) (ih c.2.2 (by lia) (by lia))) ?_;rw[<-Nat.pow_add];exact Nat.pow_le_pow_right (by decide) (by lia)
    ·rw[if_neg e];exact Nat.zero_le _
   ·rw[qx,Nat.pow_succ,Nat.mul_comm];exact Nat.mul_le_mul_left _ (by lia)
end
inductive dA (ord:List (Str×Str)) (a:Str):Str->Prop
 |refl:dA ord a a
 |step {b c:Str}:dA ord a b->(b,c)∈ord->dA ord a c
theorem vk{ord:List (Str×Str)}{a x:Str}{L:List Str}(h0:a∈L) (hc:∀y∈ord,y.1∈L->y.2∈L) (h:dA ord a x):x∈L:=by
 induction h with
 |refl=>exact h0
 |step _ hm ih=>exact hc _ hm ih
def eC:SpD:=fun ds M R=>∃(ord:List (Str×Str)) (a:Str),ds=[.tup (ord.map aN),.str a]/\ord.length<=500 /\
 ∀L:List Str,a∈L->(∀y∈ord,y.1∈L->y.2∈L)->(∀x∈L,dA ord a x)->L.length<=ord.length+1->R (.lst (L.map .str)) M
abbrev tIn:TSd:=BB (wD (rm (dOp eqF (lh 4) (dOp ixD (lh 2) (lh 3)))) (rm (dOp (inE true) (lh 5) (lh 2)))) (xO (Cf (lh 2) (lh 5))) xp
theorem gj{q:Addr}{E:fu}{M:DH}(hq:M q=none) (ps:D) (a:Str) (ord:List (Str×Str)) (hord:ord.length<=500) (i:Nat) (L0:List Str) (hi:i<L0.length):∀(todo done:List (Str×Str)) (x4 x5:Option D) (L:List Str),ord=done++todo->(∃t,L=L0++t)->L.Nodup->(∀x∈L,dA ord a x)->(∀x∈L,x∈a::ord.map (·.2))->(∀y∈done,y.1=L0[i]->y.2∈L) ->
  (∀(y4 y5:Option D) (L':List Str),(∃t,L'=L0++t)->L'.Nodup->(∀x∈L',dA ord a x)->(∀x∈L',x∈a::ord.map (·.2))->(∀y∈ord,y.1=L0[i]->y.2∈L')->E.nx [some ps,some (.str a),some (.ref q),some (.int i),y4,y5] (az M q (.lst (L'.map .str)))) ->
  cN (mG (gT (dW 4) (gT (dW 5) sC)) 2) tIn E (todo.map aN) [some ps,some (.str a),some (.ref q),some (.int i),x4,x5] (az M q (.lst (L.map .str)))
 |[],done,x4,x5,L,ho,ht,hn,hs,hb,hd,k=>by
  simp only[List.map_nil,cN];exact k x4 x5 L ht hn hs hb (by rw[ho,List.append_nil];exact hd)
 |(b,c)::todo,done,x4,x5,L,ho,⟨t,ht⟩,hn,hs,hb,hd,k=>by
  have hiL:i<L.length:=by rw[ht];simp;lia
  have eL:L[i]=L0[i]:=by subst ht;simp[hi]
  have eat:atI (L.map D.str) (i:Int)=some (.str L[i]):=cy (by simp[hiL]);have bv:L.length<=ord.length+1:=by
   have:=eA L (a::ord.map (·.2)) hn hb;simpa using this
  simp only[List.map_cons,aN,cN,mG,gT,dW,sC,Option.bind_some];refine⟨_,rfl,?_⟩;walk_at "rd";refine⟨_,eat,?_⟩;walk_at "rd";have ho':ord=(done++[(b,c)])++todo:=by rw[ho];simp
  have hmem:(b,c)∈ord:=by rw[ho];simp
  refine lN (fun h=>?_) (fun h=>?_)
  ·have hbe:b=L0[i]:=by rw[<-eL];simpa using h
   refine⟨_,if_pos ⟨rfl,qj⟩,_,rfl,?_⟩;rw[lU]
   by_cases hc:c∈L
   ·simp only[hc,decide_true,Bool.xor_true,Bool.not_true,Bool.false_eq_true,if_false];exact gj hq ps a ord hord i L0 hi todo (done++[(b,c)]) _ _ L ho' ⟨t,ht⟩ hn hs hb (fun y hy hy1=>by
     rcases List.mem_append.mp hy with h|h
     ·exact hd y h hy1
     ·have:y=(b,c):=by simpa using h
      subst this;exact hc) k
   ·simp only[hc,decide_false,Bool.xor_false,if_true];refine⟨by rw[List.length_map];exact Nat.lt_of_lt_of_le (by lia:L.length<1000) (sz3 1000),?_⟩;have ea:L.map D.str++[D.str c]=(L++[c]).map D.str:=by simp
    rw[ea];refine gj hq ps a ord hord i L0 hi todo (done++[(b,c)]) _ _ (L++[c]) ho' ⟨t++[c],by rw[ht];simp⟩ ?_ (fun x hx=>?_) (fun x hx=>?_) (fun y hy hy1=>?_) k
    ·rw[List.nodup_append];refine⟨hn,by simp,fun u hu v hv=>?_⟩;have:v=c:=by simpa using hv
     subst this;rintro rfl;exact hc hu
    ·rcases List.mem_append.mp hx with h|h
     ·exact hs x h
     ·have:x=c:=by simpa using h
      subst this;exact dA.step (hs b (by rw[hbe,<-eL];exact List.getElem_mem hiL)) hmem
    ·rcases List.mem_append.mp hx with h|h
     ·exact hb x h
     ·have:x=c:=by simpa using h
      subst this;exact List.mem_cons_of_mem _ (List.mem_map.mpr ⟨_,hmem,rfl⟩)
    ·rcases List.mem_append.mp hy with h|h
     ·exact List.mem_append_left _ (hd y h hy1)
     ·have:y=(b,c):=by simpa using h
      subst this;simp
  ·exact gj hq ps a ord hord i L0 hi todo (done++[(b,c)]) _ _ L ho' ⟨t,ht⟩ hn hs hb (fun y hy hy1=>by
    rcases List.mem_append.mp hy with h'|h'
    ·exact hd y h' hy1
    ·have:y=(b,c):=by simpa using h'
     subst this;exact absurd (by rw[eL];simpa using hy1) h) k
theorem ip(F:Fun K "reached_from" "reached_from" cO f fd) (T:Txt mg) :bq P w K mg base CX0 1 f fd ["pairs","mark"] (spD K 2 eC):=by
 have nd:=dQ.nd;refine F.okR rfl dQ (fun cdv A outer s H E hr=>⟨_,(ak (aP (i:=2) nd rfl (Or.inl rfl) (fI (af (ae 1) aj)))
   (ak (aP (i:=3) nd rfl (Or.inl rfl) am)
   (ak (oe PassesOwn.never (a7 rR (ae 3) (aH cK rfl T.b_len (by kernel_rfl) (af (ae 2) aj)) nbh) (ak (fq PassesOwn.never rfl (aQ (ae 0)) (tu rfl (fY (bM (i:=4) nd rfl (Or.inl rfl)) (fY (bM (i:=5) nd rfl (Or.inl rfl)) tD))) (av (ft (BL (Da (a7 (uh hr.units) (ae 4) (cf cg (ae 2) (ae 3) (fun _ _=>rfl)) nbh) (yh (a7 p9 (ae 5) (ae 2) rfl)))) (av (dU (kG (ae 2) (ae 5)))) c0)))
   (av (EU (i:=3) nd rfl (Or.inl rfl) am Dc))))
   (av (oy (ae 2)))))),fun ds M R _ hS bk=>?_⟩)
 obtain⟨ord,a,rfl,ho,k⟩:=hS;refine bk ?_;clear bk;walk_at "rd";refine⟨sz3 1,fun q hq=>?_⟩;refine⟨fun m Δ M'=>∃(i:Nat) (L:List Str) (x4 x5:Option D),Δ=[some (D.tup (ord.map aN)),some (D.str a),some (D.ref q),some (D.int i),x4,x5]/\M'=az M q (.lst (L.map .str))/\i<=L.length/\L.Nodup/\a∈L/\(∀x∈L,dA ord a x)/\(∀x∈L,x∈a::ord.map (·.2))/\(∀y∈ord,∀j,j<i->L[j]?=some y.1->y.2∈L)/\m=ord.length+1-i,
  ⟨_,0,[a],none,none,rfl,rfl,Nat.zero_le _,by simp,by simp,fun x hx=>by
   have:x=a:=by simpa using hx
   subst this;exact dA.refl,fun x hx=>by
   have:x=a:=by simpa using hx
   subst this;simp,fun y _ j hj=>absurd hj (by lia),rfl⟩,?_⟩
 intro m Δ M' hI;refine shr fun _ bk=>?_;obtain⟨i,L,x4,x5,rfl,rfl,hiL,hn,ha,hs,hb,hp,rfl⟩:=hI;refine bk ?_;clear bk;have bv:L.length<=ord.length+1:=by
  have:=eA L (a::ord.map (·.2)) hn hb;simpa using this
 walk_at "rd";rw[List.length_map];refine lN (fun h=>?_) (fun h=>?_)
 ·have hi:i<L.length:=by lia
  intro hz;refine gj hq _ a ord ho i L hi ord [] x4 x5 L rfl ⟨[],by simp⟩ hn hs hb (fun y hy=>absurd hy (by simp)) (fun y4 y5 L' hL' hn' hs' hb' hd'=>?_);obtain⟨t,rfl⟩:=hL';walk_at "rd";refine⟨ord.length+1-(i+1),by lia,i+1,L++t,y4,y5,?_,rfl,by simp;lia,hn',List.mem_append_left _ ha,hs',hb',fun y hy j hj hjy=>?_,rfl⟩
  ·simp
  ·by_cases hji:j=i
   ·subst hji;refine hd' y hy ?_;rw[List.getElem?_append_left hi,List.getElem?_eq_getElem hi]at hjy;exact(Option.some.inj hjy).symm
   ·rw[List.getElem?_append_left (by lia)]at hjy;exact List.mem_append_left _ (hp y hy j (by lia) hjy)
 ·rw[ij hq];refine k L ha (fun y hy hy1=>?_) hs bv;obtain⟨j,hj,e⟩:=List.mem_iff_getElem.mp hy1;exact hp y hy j (by lia) (by rw[List.getElem?_eq_getElem hj,e])
def ax(x:Str×Int):D:=.tup [.str x.1,.int x.2]
theorem jZ{α:Type}{f:α->D}(hf:∀x y,f x=f y->x=y):∀{xs ys:List α},xs.map f=ys.map f->xs=ys
 |[],[],_=>rfl
 |[],_::_,h=>by simp at h
 |_::_,[],h=>by simp at h
 |x::xs,y::ys,h=>by
  simp only[List.map_cons,List.cons.injEq]at h;rw[hf _ _ h.1,jZ hf h.2]
theorem i7:∀x y,aN x=aN y->x=y:=fun⟨a,b⟩ ⟨c,d⟩ h=>by simpa[aN]using h
def kc(ord:List (Str×Str)) (t:Int) (a b:Str):Prop:=if t % 2=0 then dA ord a b else dA ord b a
open Classical in
def rB(ord:List (Str×Str)) (a b:Str):Bool:=decide (dA ord a b)
open Classical in
def lB(ord:List (Str×Str)) (t:Int) (a b:Str):Bool:=decide (kc ord t a b)
theorem rP{ord:List (Str×Str)}{a b:Str}:rB ord a b=true↔dA ord a b:=by simp[rB]
theorem lP{ord:List (Str×Str)}{t:Int}{a b:Str}:lB ord t a b=true↔kc ord t a b:=by simp[lB]
theorem zL{ord:List (Str×Str)}{t:Int}{a b:Str}(h:t % 2=0):lB ord t a b=rB ord a b:=by rw[Bool.eq_iff_iff,lP,rP,kc,if_pos h]
theorem CL{ord:List (Str×Str)}{t:Int}{a b:Str}(h:¬ t % 2=0):lB ord t a b=rB ord b a:=by rw[Bool.eq_iff_iff,lP,rP,kc,if_neg h]
def fO:SpD:=fun ds M R=>∃(ord:List (Str×Str)) (a b:Str),ds=[.tup (ord.map aN),.str a,.str b]/\ord.length<=500/\R (.bl (rB ord a b)) M
def dn:SpD:=fun ds M R=>∃(ord:List (Str×Str)) (t:Int) (a b:Str),ds=[.tup (ord.map aN),.int t,.str a,.str b]/\ord.length<=500/\R (.bl (lB ord t a b)) M
def dH:SpD:=fun ds M R=>∃(ord:List (Str×Str)) (x y:Str×Int),ds=[.tup (ord.map aN),ax x,ax y]/\ord.length<=500/\R (.bl (x.2+1==y.2&&lB ord x.2 x.1 y.1)) M
theorem me{ord:List (Str×Str)}{a b:Str}{M:DH}{R:D->DH->Prop}:fO [.tup (ord.map aN),.str a,.str b] M R↔ord.length<=500/\R (.bl (rB ord a b)) M :=
 ⟨fun⟨o,c,d,e,h1,h2⟩=>by
  simp only[List.cons.injEq,D.tup.injEq,D.str.injEq,and_true]at e;obtain⟨e1,e2,e3⟩:=e;rw[jZ i7 e1,e2,e3];exact⟨h1,h2⟩,fun h=>⟨ord,a,b,rfl,h⟩⟩
theorem i4{ord:List (Str×Str)}{t:Int}{a b:Str}{M:DH}{R:D->DH->Prop}:dn [.tup (ord.map aN),.int t,.str a,.str b] M R↔ord.length<=500/\R (.bl (lB ord t a b)) M :=
 ⟨fun⟨o,u,c,d,e,h1,h2⟩=>by
  simp only[List.cons.injEq,D.tup.injEq,D.str.injEq,D.int.injEq,and_true]at e;obtain⟨e1,e0,e2,e3⟩:=e;rw[jZ i7 e1,e0,e2,e3];exact⟨h1,h2⟩,fun h=>⟨ord,t,a,b,rfl,h⟩⟩
theorem n9{ord:List (Str×Str)}{a b:Str}{t u:Int}{M:DH}{R:D->DH->Prop}:dH [.tup (ord.map aN),.tup [.str a,.int t],.tup [.str b,.int u]] M R↔ord.length<=500/\R (.bl (t+1==u&&lB ord t a b)) M :=
 ⟨fun⟨o,⟨c,v⟩,⟨d,w⟩,e,h1,h2⟩=>by
  simp only[ax,List.cons.injEq,D.tup.injEq,D.str.injEq,D.int.injEq,and_true]at e;obtain⟨e1,⟨e2,e3⟩,e4,e5⟩:=e;rw[jZ i7 e1,e2,e3,e4,e5];exact⟨h1,h2⟩,fun h=>⟨ord,(a,t),(b,u),rfl,h⟩⟩
theorem oF(F:Fun K "at_most" "at_most" fP f fd) (T:Txt mg) (G8:FnD P w K mg base "reached_from" 1 2 eC):bq P w K mg base CX0 2 f fd ["order","one","other"] (spD K 3 fO):=by
 have nd:=hJ.nd;refine F.okR rfl hJ (fun cdv A outer s H E hr=>⟨_,(av (bG (nA E6 (ae 2) (qd G8 hr (af (ae 0) (af (ae 1) aj))) rfl))),fun ds M R _ hS bk=>?_⟩);obtain⟨ord,a,b,rfl,ho,k⟩:=hS;refine bk ?_;clear bk;walk_at "rd";refine⟨ord,a,rfl,ho,fun L h1 h2 h3 h4=>?_⟩;refine⟨_,if_pos ⟨rfl,qj⟩,?_⟩;rw[lU];have e:(false ^^ decide (b∈L))=rB ord a b:=by
  rw[Bool.false_xor,Bool.eq_iff_iff,rP,decide_eq_true_eq];exact⟨fun h=>h3 b h,fun h=>vk h1 h2 h⟩
 rw[e];exact k
theorem jI(F:Fun K "mark_leads" "mark_leads" dw f fd) (T:Txt mg) (Y3:FnD P w K mg base "at_most" 2 3 fO):bq P w K mg base CX0 3 f fd ["order","turn","one","other"] (spD K 4 dn):=by
 have nd:=fo.nd;refine F.okR rfl fo (fun cdv A outer s H E hr=>⟨_,(ak (ft (a7 (uh hr.units) (aI dO (ae 1) am) am nbh) (av (bG (qd Y3 hr (af (ae 0) (af (ae 2) (af (ae 3) aj)))))) c0)
   (av (bG (qd Y3 hr (af (ae 0) (af (ae 3) (af (ae 2) aj))))))),fun ds M R _ hS bk=>?_⟩)
 obtain⟨ord,t,a,b,rfl,ho,k⟩:=hS;refine bk ?_;clear bk;walk_at "rd";simp only[me];refine lN (fun h=>?_) (fun h=>?_)
 ·have h':t % 2=0:=by simpa using h
  rw[zL h']at k;exact⟨ho,k⟩
 ·have h':¬ t % 2=0:=by simpa using h
  rw[CL h']at k;exact⟨ho,k⟩
theorem pB(F:Fun K "cancel" "cancel" gL f fd) (T:Txt mg) (Y0:FnD P w K mg base "mark_leads" 3 4 dn):bq P w K mg base CX0 4 f fd ["order","one","other"] (spD K 3 dH):=by
 have nd:=jo.nd;refine F.okR rfl jo (fun cdv A outer s H E hr=>⟨_,(av (bG (Ew (nA (uh hr.units) (aI aY (cf cg (ae 1) am (fun _ _=>rfl)) am) (cf cg (ae 2) am (fun _ _=>rfl)) nbh) (EE (qd Y0 hr (af (ae 0) (af (cf cg (ae 1) am (fun _ _=>rfl)) (af (cf cg (ae 1) am (fun _ _=>rfl)) (af (cf cg (ae 2) am (fun _ _=>rfl)) aj))))))))),fun ds M R _ hS bk=>?_⟩);obtain⟨ord,⟨a,t⟩,⟨b,u⟩,rfl,ho,k⟩:=hS;refine bk ?_;clear bk;simp only[ax];walk_at "rd";simp only[i4];refine lN (fun h=>?_) (fun h=>?_)
 ·simp only[h,Bool.true_and]at k;exact⟨ho,k⟩
 ·simp only[h,Bool.false_and]at k;exact k
theorem zG{ord:List (Str×Str)}{t:Int}{a:Str}:lB ord t a a=true:=by
 rw[lP,kc];split<;>exact dA.refl
theorem yI{ord:List (Str×Str)}{t u:Int}{a b:Str}(h:¬ t % 2=u % 2):lB ord t a b=lB ord u b a:=by
 rw[Bool.eq_iff_iff,lP,lP,kc,kc]
 by_cases h1:t % 2=0
 ·have h2:¬ u % 2=0:=by lia
  rw[if_pos h1,if_neg h2]
 ·have h2:u % 2=0:=by lia
  rw[if_neg h1,if_pos h2]
theorem aF{α:Type}{g:GD}{tc:TTd}{te:TEd}{M:DH}{Q:List D->DH->Prop}(enc:α->D) (b:α->Bool) (y:α->D) (Ok:DE->Prop):∀(xs:List α) (Δ:DE) (acc:List D),
  (∀x∈xs,∀ Δ,Ok Δ->∃ Δ',g (enc x) Δ=some Δ'/\Ok Δ'/\(∀Q1:Bool->DH->Prop,Q1 (b x) M->tc Δ' M Q1)/\(b x=true->∀Q2:D->DH->Prop,Q2 (y x) M->te Δ' M Q2))->Ok Δ ->
  Q (acc++(xs.filter b).map y) M->c9 g tc te (xs.map enc) Δ M acc Q
 |[],Δ,acc,_,_,q=>by simpa[c9]using q
 |x::xs,Δ,acc,h,hΔ,q=>by
  rw[List.map_cons];simp only[c9];obtain⟨Δ',e,hΔ',h1,h2⟩:=h x (.head _) Δ hΔ;refine⟨Δ',e,h1 _ ?_⟩;have ih:=fun acc' q'=>aF (Q:=Q) enc b y Ok xs Δ' acc' (fun z hz=>h z (.tail _ hz)) hΔ' q';cases hb:b x with
  |true =>
   simp only[if_true];refine h2 hb _ (ih _ ?_);rw[List.filter_cons_of_pos hb]at q;simpa using q
  |false =>
   simp only[Bool.false_eq_true,if_false];refine ih _ ?_;rw[List.filter_cons_of_neg (by simp[hb])]at q;exact q
theorem oO{α:Type} [DecidableEq α] (f:α->D) (hf:∀x y,eqD (f x) (f y)=decide (x=y)):∀{a b:List α},dq (a.map f) (b.map f)=decide (a=b)
 |[],[]=>by simp[dq]
 |[],_::_=>by simp[dq]
 |_::_,[]=>by simp[dq]
 |x::a,y::b=>by
  rw[List.map_cons,List.map_cons,dq,oO f hf (a:=a) (b:=b),hf];simp
theorem iG{α:Type}(f:α->D) (hf:∀x,dLe (f x) 59=true) {a:List α}:bR (a.map f) 59=true:=by
 rw[hV];intro d hd;obtain⟨x,_,rfl⟩:=List.mem_map.mp hd;exact hf x
theorem zH{α:Type} [DecidableEq α] (f:α->D) (hf:∀x y,eqD (f x) (f y)=decide (x=y)) (hl:∀x,dLe (f x) 59=true) {a b:List α}:eqF (.lst (a.map f)) (.lst (b.map f))=some (.bl (decide (a=b))):=by
 have h1:dLe (.lst (a.map f)) 60=true:=iG f hl;have h2:dLe (.lst (b.map f)) 60=true:=iG f hl;simp only[eqF,h1,h2,and_self,if_true,eqD,oO f hf]
def cB(ord:List (Str×Str)) (x y:Str×Int):Bool:=x.2+1==y.2&&lB ord x.2 x.1 y.1
theorem jg{ord:List (Str×Str)}{x y:Str×Int}{M:DH}{R:D->DH->Prop}:dH [.tup (ord.map aN),ax x,ax y] M R↔ord.length<=500/\R (.bl (cB ord x y)) M:=n9 (a:=x.1) (b:=y.1) (t:=x.2) (u:=y.2)
def sg(row:List (Str×Int)) (i:Nat):Str×Int:=row.getD i ("",0)
theorem iD{row:List (Str×Int)}{i:Nat}(h:i<row.length):atI (row.map ax) (i:Int)=some (ax (sg row i)):=by
 refine cy ?_;rw[List.getElem?_map,List.getElem?_eq_getElem h];simp[sg,h]
def stD(s:Nat×Nat):D:=.tup [.int (s.1:Int),.int (s.2:Int)]
def stI(s:Nat×Nat):Int×Int:=((s.1:Int),(s.2:Int))
def kP(s:Nat×Nat):List KD:=[.int s.1,.int s.2]
theorem sP(l:List (Nat×Nat)):(l.map kP).map bT=l.map stD:=by
 rw[List.map_map];refine List.map_congr_left fun s _=>?_;show D.tup (kds _)=_;rw[iu];rfl
theorem Cu{l:List (Nat×Nat)}:Rws (l.map kP):=⟨fun k hk=>by
 obtain⟨r,_,rfl⟩:=List.mem_map.mp hk;intro j hj;simp only[kP,List.mem_cons,List.not_mem_nil,or_false]at hj;rcases hj with rfl|rfl<;>trivial,fun a ha b hb=>by
 obtain⟨r,_,rfl⟩:=List.mem_map.mp ha;obtain⟨s,_,rfl⟩:=List.mem_map.mp hb;simp[kP,Cms,Cm]⟩
theorem tM(l:List (Nat×Nat)):∃L:List (Nat×Nat),gV (.lst (l.map stD))=some (.lst (L.map stD))/\L.Perm l/\L.Pairwise fun a b=>a.1<=b.1:=by
 obtain⟨L,p,e⟩:=k9 (bx (l.map kP)) l rfl;have h:=lO (l.map kP);rw[e,List.pairwise_map]at h;refine⟨L,by rw[<-sP,lD Cu,e,sP],p,h.imp fun {a b} z=>?_⟩;rcases Nat.lt_or_ge b.1 a.1 with y|y
 ·have hn:¬ (KD.int (b.1:Int)=KD.int (a.1:Int)):=fun q=>by
   have:(b.1:Int)=(a.1:Int):=by simpa using q
   lia
  have:aW (kP b) (kP a)=true:=by
   simp only[kP,aW,if_neg hn,ltK];exact decide_eq_true (by lia)
  simp[leK,this]at z
 ·exact y
structure nX(R:Str×Int->Str×Int->Bool) (row:List (Str×Int)) (arcs:List (Nat×Nat)):Prop where
 len:2*arcs.length=row.length
 arc:∀a∈arcs,a.1<a.2/\a.2<row.length/\R (sg row a.1) (sg row a.2)=true
 pw:arcs.Pairwise fun a b=>a.1<b.1/\b.1≠a.2/\b.2≠a.2/\¬ (b.1<a.2/\a.2<b.2)
inductive Gp {T:Type}(c:T->T->Bool):List T->Prop
 |nil:Gp c []
 |step {a b:T} {xs ys:List T}:c a b=true->Gp c xs->Gp c ys->Gp c (a::(xs++b::ys))
inductive Kp {T:Type}(c:T->T->Bool):List T->List T->Prop
 |nil {g:List T}:Gp c g->Kp c g []
 |cons {t:T} {g r ts:List T}:Gp c g->Kp c r ts->Kp c (g++t::r) (t::ts)
def Cn{T:Type}(c:T->T->Bool) (r s:List T):Prop:=∃xs a b ys,r=xs++a::b::ys/\c a b=true/\s=xs++ys
def Rt{T:Type}(c:T->T->Bool):Nat->List T->List T->Prop
 |0,r,s=>r=s
 |n+1,r,s=>∃m,Rt c n r m/\Cn c m s
section
variable{T:Type}{c:T->T->Bool}
theorem ni{α:Type}{p q xs ys:List α}(h:p++q=xs++ys):(∃z,p=xs++z/\ys=z++q)∨∃z,xs=p++z/\q=z++ys:=by
 rcases List.append_eq_append_iff.mp h with⟨z,h1,h2⟩|⟨z,h1,h2⟩
 ·exact .inr ⟨z,h1,h2⟩
 ·exact .inl ⟨z,h1,h2⟩
theorem Gp.ins{a b:T}(hc:c a b=true):∀{g:List T},Gp c g->∀xs ys,g=xs++ys->Gp c (xs++a::b::ys):=by
 intro g hg
 induction hg with
 |nil =>
  intro xs ys e;obtain⟨rfl,rfl⟩:=List.append_eq_nil_iff.mp e.symm;exact Gp.step (xs:=[]) (ys:=[]) hc .nil .nil
 |@step u v p q huv hp hq ihp ihq =>
  intro xs ys e;cases xs with
  |nil =>
   rw[List.nil_append]at e ⊢;rw[<-e];exact Gp.step (xs:=[]) hc .nil (.step huv hp hq)
  |cons x xs =>
   rw[List.cons_append]at e;obtain⟨rfl,e1⟩:=List.cons.inj e;rcases ni e1 with⟨z,rfl,rfl⟩|⟨z,rfl,e2⟩
   ·have:=Gp.step huv (ihp xs z rfl) hq;simpa using this
   ·cases z with
    |nil =>
     rw[List.nil_append]at e2;subst e2;have:=Gp.step huv (ihp p [] (by simp)) hq;simpa using this
    |cons y z =>
     rw[List.cons_append]at e2;obtain⟨rfl,e3⟩:=List.cons.inj e2;have:=Gp.step huv hp (ihq z ys e3);simpa using this
theorem Kp.ins{a b:T}(hc:c a b=true):∀{r told:List T},Kp c r told->∀xs ys,r=xs++ys->Kp c (xs++a::b::ys) told:=by
 intro r told h
 induction h with
 |nil hg=>intro xs ys e;exact .nil (hg.ins hc xs ys e)
 |@cons t g r ts hg hr ih =>
  intro xs ys e;rcases ni e with⟨z,rfl,rfl⟩|⟨z,rfl,e2⟩
  ·have:=Kp.cons (t:=t) (hg.ins hc xs z rfl) hr;simpa using this
  ·cases z with
   |nil =>
    rw[List.nil_append]at e2;subst e2;have:=Kp.cons (t:=t) (hg.ins hc g [] (by simp)) hr;simpa using this
   |cons y z =>
    rw[List.cons_append]at e2;obtain⟨rfl,e3⟩:=List.cons.inj e2;have:=Kp.cons (t:=t) hg (ih z ys e3);simpa using this
theorem Kp.self:∀r:List T,Kp c r r
 |[]=>.nil .nil
 |t::r=>Kp.cons (g:=[]) .nil (Kp.self r)
theorem Rt.kp:∀{n:Nat}{r m told:List T},Rt c n r m->Kp c m told->Kp c r told
 |0,r,m,told,h,k=>by cases h;exact k
 |n+1,r,m,told,⟨m',h1,xs,a,b,ys,e1,hc,e2⟩,k=>by
  subst e1;exact h1.kp (k.ins hc xs ys e2)
theorem Rt.trans:∀{n m:Nat}{r s t:List T},Rt c n r s->Rt c m s t->Rt c (n+m) r t
 |n,0,r,s,t,h1,h2=>by cases h2;exact h1
 |n,m+1,r,s,t,h1,⟨x,h2,h3⟩=>⟨x,Rt.trans h1 h2,h3⟩
theorem Rt.ctx(xs ys:List T):∀{n:Nat}{r s:List T},Rt c n r s->Rt c n (xs++r++ys) (xs++s++ys)
 |0,r,s,h=>by cases h;rfl
 |n+1,r,s,⟨m,h1,us,a,b,vs,e1,hc,e2⟩=>⟨_,Rt.ctx xs ys h1,xs++us,a,b,vs++ys,by rw[e1];simp,hc,by rw[e2];simp⟩
theorem Gp.rt{g:List T}(h:Gp c g):∃n,Rt c n g []:=by
 induction h with
 |nil=>exact⟨0,rfl⟩
 |@step a b p q hc hp hq ihp ihq =>
  obtain⟨n,h1⟩:=ihp;obtain⟨m,h2⟩:=ihq;have r1:=h1.ctx [a] (b::q);have r2:Rt c 1 ([a]++[]++b::q) q:=⟨_,rfl,[],a,b,q,rfl,hc,rfl⟩;have e:a::(p++b::q)=[a]++p++b::q:=by simp
  exact⟨_,e▸(r1.trans r2).trans h2⟩
theorem Kp.rt{r told:List T}(h:Kp c r told):∃n,Rt c n r told:=by
 induction h with
 |nil hg=>exact hg.rt
 |@cons t g r ts hg hr ih =>
  obtain⟨n,h1⟩:=hg.rt;obtain⟨m,h2⟩:=ih;have r1:=h1.ctx [] (t::r);have r2:=h2.ctx [t] [];rw[List.append_nil,List.append_nil]at r2;exact⟨n+m,Rt.trans (s:=t::r) (by simpa using r1) (by simpa using r2)⟩
theorem xK{r told:List T}:(∃n,Rt c n r told)↔Kp c r told:=⟨fun⟨_,h⟩=>h.kp (Kp.self told),Kp.rt⟩
theorem Cn.len{r s:List T}(h:Cn c r s):r.length=s.length+2:=by
 obtain⟨xs,a,b,ys,rfl,_,rfl⟩:=h;simp;lia
theorem Rt.len:∀{n:Nat}{r s:List T},Rt c n r s->r.length=s.length+2*n
 |0,_,_,h=>by cases h;rfl
 |n+1,_,_,⟨m,h1,h2⟩=>by have:=h1.len;have:=h2.len;lia
def KpP(c:T->T->Bool) (row:List T) (lo:Nat):List Nat->Prop
 |[]=>Gp c (row.drop lo)
 |p::ps=>lo<=p/\p<row.length/\Gp c ((row.drop lo).take (p-lo))/\KpP c row (p+1) ps
theorem rq{row:List T}{lo p:Nat}{x:T}(h1:lo<=p) (hx:row[p]?=some x):row.drop lo=(row.drop lo).take (p-lo)++x::row.drop (p+1):=by
 have lt:p<row.length:=(List.getElem?_eq_some_iff.mp hx).1;have e:row.drop p=x::row.drop (p+1):=by
  rw[List.drop_eq_getElem_cons lt];rw[List.getElem?_eq_getElem lt]at hx;rw[Option.some.inj hx]
 have e2:row.drop lo=(row.drop lo).take (p-lo)++(row.drop lo).drop (p-lo):=(List.take_append_drop _ _).symm;rw[List.drop_drop,show lo+(p-lo)=p by lia,e]at e2;exact e2
theorem KpP.kp{row:List T}:∀{ps:List Nat}{lo:Nat},KpP c row lo ps->∀told,told.map some=ps.map (row[·]?)->Kp c (row.drop lo) told
 |[],lo,h,told,e=>by
  have:told=[]:=by simpa using e
  subst this;exact .nil h
 |p::ps,lo,⟨h1,h2,h3,h4⟩,told,e=>by
  cases told with
  |nil=>simp at e
  |cons t told =>
   simp only[List.map_cons,List.cons.injEq]at e;rw[rq h1 e.1.symm];exact .cons h3 (KpP.kp h4 told e.2)
theorem Kp.places{row:List T}{r told:List T}(h:Kp c r told):∀lo,r=row.drop lo->lo<=row.length->∃ps,KpP c row lo ps/\told.map some=ps.map (row[·]?)/\ps.Pairwise (·<·)/\∀p∈ps,lo<=p/\p<row.length:=by
 induction h with
 |nil hg=>intro lo e _;exact⟨[],by subst e;exact hg,rfl,.nil,fun _ z=>by cases z⟩
 |@cons t g r ts hg hr ih =>
  intro lo e hlo;have hx:row[lo+g.length]?=some t:=by
   have:(row.drop lo)[g.length]?=some t:=by rw[<-e];simp
   rwa [List.getElem?_drop]at this
  have lt:=(List.getElem?_eq_some_iff.mp hx).1;have er:r=row.drop (lo+g.length+1):=by
   have:=congrArg (List.drop (g.length+1)) e;rw[List.drop_drop]at this;rw[show lo+g.length+1=lo+(g.length+1)by lia,<-this,List.drop_append,List.drop_of_length_le (by lia)];simp
  obtain⟨ps,h1,h2,h3,h4⟩:=ih _ er (by lia);refine⟨(lo+g.length)::ps,⟨by lia,lt,?_,h1⟩,?_,?_,?_⟩
  ·have:=congrArg (List.take g.length) e;rw[List.take_left]at this;rw[show lo+g.length-lo=g.length by lia,<-this];exact hg
  ·simp only[List.map_cons,hx,h2]
  ·rw[List.pairwise_cons];exact⟨fun p hp=>by have:=(h4 p hp).1;lia,h3⟩
  ·intro p hp;rcases List.mem_cons.mp hp with rfl|hp
   ·exact⟨by lia,lt⟩
   ·have:=h4 p hp;lia
theorem sx(f:Nat->Bool):∀n,∃m,m<2 ^ n/\∀k,k<n->(m / 2 ^ k % 2=1↔f k=true)
 |0=>⟨0,by simp,fun k h=>by lia⟩
 |n+1=>by
  obtain⟨m,h1,h2⟩:=sx f n;have p2:2 ^ (n+1)=2*2 ^ n:=by rw[Nat.pow_succ];lia
  cases hf:f n with
  |false =>
   refine⟨m,by lia,fun k hk=>?_⟩;rcases Nat.lt_or_ge k n with q|q
   ·exact h2 k q
   ·obtain rfl:k=n:=by lia
    rw[Nat.div_eq_of_lt h1,hf];simp
  |true =>
   refine⟨2 ^ n+m,by lia,fun k hk=>?_⟩;rcases Nat.lt_or_ge k n with q|q
   ·rw[<-h2 k q];have e:2 ^ n=2 ^ k*(2*2 ^ (n-k-1)):=by
     rw[<-Nat.mul_assoc,<-Nat.pow_succ,<-Nat.pow_add];congr 1;lia
    rw[e,Nat.mul_add_div (Nat.two_pow_pos k),Nat.mul_add_mod]
   ·obtain rfl:k=n:=by lia
    rw[Nat.add_div_left _ (Nat.two_pow_pos k),Nat.div_eq_of_lt h1,hf];simp
theorem uE{n:Nat}{ps:List Nat}(h1:ps.Pairwise (·<·)) (h2:∀p∈ps,p<n):(List.range n).filter (fun k=>decide (k∈ps))=ps:=by
 have hp:((List.range n).filter (fun k=>decide (k∈ps))).Pairwise (·<·):=List.pairwise_lt_range.sublist List.filter_sublist;refine List.Perm.eq_of_pairwise (le:=(·<·)) (fun a b _ _ x y=>by lia) hp h1 ?_;rw[List.perm_iff_count];intro a;have n1:((List.range n).filter (fun k=>decide (k∈ps))).Nodup:=hp.imp fun h=>by lia
 have n2:ps.Nodup:=h1.imp fun h=>by lia
 rw[n1.count,n2.count];have:a∈(List.range n).filter (fun k=>decide (k∈ps))↔a∈ps:=by
  rw[List.mem_filter,List.mem_range,decide_eq_true_eq];exact⟨fun h=>h.2,fun h=>⟨h2 a h,h⟩⟩
 simp only[this]
end
def n5(n i:Nat):List Nat:=(List.range ((n-i) / 2)).map fun k=>i+1+2*k
def mts(R:Str×Int->Str×Int->Bool) (row:List (Str×Int)) (i:Nat):List Nat:=(n5 row.length i).filter fun m=>R (sg row i) (sg row m)
def jv(l:List Nat):D:=.lst (l.map fun(m:Nat)=>D.int (m:Int))
def uM(ms:List (List Nat)):D:=.lst (ms.map jv)
def iI:SpD:=fun ds M R=>∃(ord:List (Str×Str)) (row:List (Str×Int)),ds=[.tup (ord.map aN),.tup (row.map ax)]/\ord.length<=500/\row.length<=24/\R (uM ((List.range row.length).map (mts (cB ord) row))) M
theorem yJ{n i m:Nat}(h:m∈n5 n i):m<n:=by
 unfold n5 at h;obtain⟨k,hk,rfl⟩:=List.mem_map.mp h;have:=List.mem_range.mp hk
 lia
theorem FE{i n:Nat}(h:i<n):szR ((i:Int)+1) n 2=(n-i) / 2:=by
 unfold szR Builtin.Range.rangeSize;simp
 lia
theorem tW{i n:Nat}(h:i<n):n4 ((i:Int)+1) 2 (szR ((i:Int)+1) n 2)=(n5 n i).map fun(m:Nat)=>D.int (m:Int):=by
 rw[FE h];unfold n4 n5;rw[List.map_map];apply List.map_congr_left;intro k _;simp;lia
theorem mz(F:Fun K "mates_in" "mates_in" cx f fd) (T:Txt mg) (G0:FnD P w K mg base "cancel" 4 3 dH):bq P w K mg base CX0 5 f fd ["order","row"] (spD K 2 iI):=by
 have nd:=gF.nd;refine F.okR rfl gF (fun cdv A outer s H E hr=>⟨_,(ak (aP (i:=2) nd rfl (Or.inr rfl) (aH cK rfl T.b_len (by kernel_rfl) (af (ae 1) aj)))
   (av (bG (DT (ms:=[true,true,true]) (ag:=["at"]) (qz rfl (show fZ (ai cx) cq _ _=true from by decide +kernel)) rfl (gp rfl T.b_range (af (ae 2) aj)) (xF (i:=3) (show(cq++_).Nodup from by decide +kernel) rfl rfl rfl) (fun S _ _ _ _=>cL) (fun S _ _ _ _=>(gU (ms:=[true,true,false,true]) (ag:=["mate"]) (tY S (show aE (lH _ (ai cx)) (cq++(["at"]:List Str)) _ _=true from by decide +kernel)) rfl (sj rfl T.b_range (af (aI aY (ae 3) am) (af (ae 2) (af am aj)))) (ay (i:=4) (show((cq++(["at"]:List Str))++_).Nodup from by decide +kernel) rfl rfl) (fun _ _ _ _=>(dX (nW (qd G0 hr (af (ae 0) (af (cf cg (ae 1) (ae 3) (fun _ _=>rfl)) (af (cf cg (ae 1) (ae 4) (fun _ _=>rfl)) aj))))))) (fun _ _ _ _=>(ae 4)))))))),fun ds M R _ hS bk=>?_⟩)
 obtain⟨ord,row,rfl,ho,hl,k⟩:=hS;refine bk ?_;clear bk;walk_at "rd";rw[List.length_map];have hl':(gP 0 (row.length:Int).toNat)=(List.range row.length).map fun(k:Nat)=>D.int (0+(k:Int)):=rfl;rw[hl'];refine⟨by lia,by lia,by rw[List.length_map,List.length_range];exact sz3 _ (by lia),?_⟩;refine aF (fun(k:Nat)=>D.int (0+(k:Int))) (fun _=>true) (fun i=>jv (mts (cB ord) row i)) (fun Δ=>∃x,Δ=[some (D.tup (ord.map aN)),some (D.tup (row.map ax)),some (D.int row.length),x]) _ _ _ (fun i hi Δ hΔ=>?_) ⟨none,rfl⟩ ?_
 ·obtain⟨x,rfl⟩:=hΔ;have hi':=List.mem_range.mp hi;refine⟨_,rfl,⟨_,rfl⟩,fun Q1 q=>q,fun _ Q2 q=>?_⟩;rw[Int.zero_add];walk_at "rd";refine⟨_,_,_,⟨rfl,rfl,rfl⟩,Or.inl rfl,⟨by lia,by lia,by lia,by lia⟩,?_⟩;rw[tW hi'];refine⟨by rw[List.length_map];unfold n5;rw[List.length_map,List.length_range];exact sz3 _ (by lia),?_⟩;refine aF (fun(m:Nat)=>D.int (m:Int)) (fun m=>cB ord (sg row i) (sg row m)) (fun(m:Nat)=>D.int (m:Int)) (fun Δ=>∃x,Δ=[some (D.tup (ord.map aN)),some (D.tup (row.map ax)),none,some (D.int i),x]) _ _ _ (fun m hm Δ hΔ=>?_) ⟨none,rfl⟩ q;obtain⟨y,rfl⟩:=hΔ;have hm':m<row.length:=yJ hm;refine⟨_,rfl,⟨_,rfl⟩,fun Q1 q1=>?_,fun _ Q2 q2=>?_⟩
  ·walk_at "rd";refine⟨_,iD hi',_,iD hm',?_⟩;exact jg.mpr ⟨ho,_,rfl,q1⟩
  ·walk_at "rd";exact q2
 ·rw[List.nil_append,List.filter_eq_self.mpr (fun _ _=>rfl)];have e:(List.range row.length).map (fun i=>jv (mts (cB ord) row i))=((List.range row.length).map (mts (cB ord) row)).map jv:=by rw[List.map_map];rfl
  rw[e];exact k
def gO:SpD:=fun ds M R=>∃(ms:List (List Nat)) (p:Addr) (kvs:List (List Key×D)) (b e:Nat) (C:Nat->Nat->Nat),ds=[uM ms,.ref p,.int b,.int e]/\M p=some (.dT kvs) /\
 ∃hb:b<ms.length,(∀m∈ms[b],m<e->cX kvs [.inl ((b:Int)+1),.inl (m:Int)]=some (.int (C (b+1) m))/\cX kvs [.inl ((m:Int)+1),.inl (e:Int)]=some (.int (C (m+1) e))/\Few (C (b+1) m:Nat)/\Few (C (m+1) e:Nat))/\ms[b].length<=1000 /\
 R (.lst ((ms[b].filter fun m=>decide (m<e)).map fun(m:Nat)=>pD ((m:Int),(C (b+1) m*C (m+1) e:Nat)))) M
theorem qw(F:Fun K "splits" "splits" eO f fd) (T:Txt mg) :bq P w K mg base CX0 1 f fd ["mates","counts","begin","end"] (spD K 4 gO):=by
 have nd:=ja.nd;refine F.okR rfl ja (fun cdv A outer s H E hr=>⟨_,(av (bG (gU (ms:=[false,true,true,true]) (ag:=["mate"]) (aC rfl (show aE (ai eO) gK _ _=true from by decide +kernel)) rfl (aQ (cf cg (ae 0) (ae 2) (fun _ _=>rfl))) (ay (i:=4) (show(gK++_).Nodup from by decide +kernel) rfl rfl) (fun _ _ _ _=>(dX (a7 rR (ae 4) (ae 3) nbh))) (fun _ _ _ _=>(cJ (af (ae 4) (af (aI BZ (tT hr.units1 (ae 1) (af (aI aY (ae 2) am) (af (ae 4) aj)) (fun _ _=>rfl)) (tT hr.units1 (ae 1) (af (aI aY (ae 4) am) (af (ae 3) aj)) (fun _ _=>rfl))) aj))))))),fun ds M R _ hS bk=>?_⟩);obtain⟨ms,p,kvs,b,e,C,rfl,hM,hb,hC,hlb,k⟩:=hS;refine bk ?_;clear bk;walk_at "rd";have e1:ixD (rdM M (uM ms)) (D.int b)=some (jv ms[b]):=by
  show atI (ms.map jv) (b:Int)=_;exact cy (by rw[List.getElem?_map,List.getElem?_eq_getElem hb];rfl)
 refine⟨_,e1,_,rfl,fun hz=>⟨hz,?_⟩⟩;refine aF (fun(m:Nat)=>D.int (m:Int)) (fun m=>decide (m<e)) (fun(m:Nat)=>pD ((m:Int),(C (b+1) m*C (m+1) e:Nat))) (fun Δ=>∃x,Δ=[none,some (D.ref p),some (D.int b),some (D.int e),x]) _ _ _ (fun m hm Δ hΔ=>?_) ⟨none,rfl⟩ ?_
 ·obtain⟨x,rfl⟩:=hΔ;refine⟨_,rfl,⟨_,rfl⟩,fun Q1 q=>?_,fun hme Q2 q=>?_⟩
  ·walk_at "rd";have:decide ((m:Int)<(e:Int))=decide (m<e):=by simp
   rw[this];exact q
  ·obtain⟨c1,c2,c3,c4⟩:=hC m hm (by simpa using hme);walk_at "rd";simp only[hM];walk_at "rd";simp only[c1,c2];walk_at "rd";have hcm:jr (C (b+1) m:Int) (C (m+1) e:Int)=True:=D7 ⟨c3,c4⟩;simp only[hcm];walk_at "rd";refine⟨sz3 2,sz3 2,sz3 2,?_⟩;rw[Int.natCast_mul]at q;exact q
 ·exact k
theorem eZ{α:Type}{p:α->Bool}{g:α->Nat}:∀{l:List α},((l.filter p).map g).sum=(l.map fun x=>if p x=true then g x else 0).sum
 |[]=>rfl
 |x::l=>by
  cases h:p x with
  |true=>rw[List.filter_cons_of_pos h];simp[h,eZ (l:=l)]
  |false=>rw[List.filter_cons_of_neg (by simp[h])];simp[h,eZ (l:=l)]
theorem fW{f:Nat->Nat}{a:Nat}:∀{d:Nat},(∀k,a<=k->k<a+d->f k=0)->((List.range (a+d)).map f).sum=((List.range a).map f).sum
 |0,_=>rfl
 |d+1,h=>by
  rw[<-Nat.add_assoc,List.range_succ,List.map_append,List.sum_append,fW (d:=d) fun k h1 h2=>h k h1 (by lia)];simp[h (a+d) (by lia) (by lia)]
theorem pN{f:Nat->Nat}:∀(L:Nat),(∀k,k<L->k % 2=1->f k=0)->((List.range L).map f).sum=((List.range ((L+1) / 2)).map fun j=>f (2*j)).sum
 |0,_=>rfl
 |1,_=>by simp
 |L+2,h=>by
  rw[List.range_succ,List.range_succ,List.map_append,List.map_append,List.sum_append,List.sum_append,pN L fun k h1 h2=>h k (by lia) h2];rw[show(L+2+1) / 2=(L+1) / 2+1 by lia,List.range_succ,List.map_append,List.sum_append];simp only[List.map_cons,List.map_nil,List.sum_cons,List.sum_nil,Nat.add_zero]
  by_cases e:L % 2=1
  ·rw[h L (by lia) e,show 2*((L+1) / 2)=L+1 by lia];lia
  ·rw[h (L+1) (by lia) (by lia),show 2*((L+1) / 2)=L by lia];lia
theorem lR{σ:Type}(d:σ):∀(xs:List σ),fC xs=(List.range xs.length).map fun k=>(xs.take k,xs.getD k d,xs.drop (k+1))
 |[]=>rfl
 |x::xs=>by
  rw[fC,lR d xs,List.length_cons,List.range_succ_eq_map,List.map_cons,List.map_map,List.map_map];rfl
def seg(row:List (Str×Int)) (b e:Nat):List (Str×Int):=(row.drop b).take (e-b)
theorem eS{row:List (Str×Int)}{b e:Nat}(h:e<=row.length):(seg row b e).length=e-b:=by
 unfold seg;rw[List.length_take,List.length_drop];lia
theorem uV{row:List (Str×Int)}{b:Nat}:seg row b b=[]:=by unfold seg;simp
theorem rX{row:List (Str×Int)}:seg row 0 row.length=row:=by unfold seg;simp
theorem wb{row:List (Str×Int)}{b e:Nat}(h:b<e) (he:e<=row.length):seg row b e=sg row b::seg row (b+1) e:=by
 unfold seg;have hb:b<row.length:=by lia
 rw[List.drop_eq_getElem_cons hb,show e-b=(e-(b+1))+1 by lia,List.take_succ_cons];simp[sg,hb]
theorem vn{row:List (Str×Int)}{b e k:Nat}(h:b+k<=e):(seg row b e).take k=seg row b (b+k):=by
 unfold seg;rw[List.take_take,Nat.min_eq_left (by lia),show b+k-b=k by lia]
theorem xJ{row:List (Str×Int)}{b e k:Nat}:(seg row b e).drop k=seg row (b+k) e:=by
 unfold seg;rw[List.drop_take,List.drop_drop,show e-b-k=e-(b+k)by lia]
theorem C9{row:List (Str×Int)}{b e k:Nat}(h:b+k<e):(seg row b e).getD k ("",0)=sg row (b+k):=by
 unfold seg sg;rw[List.getD_eq_getElem?_getD,List.getElem?_take,if_pos (by lia),List.getElem?_drop,List.getD_eq_getElem?_getD]
section
variable{R:Str×Int->Str×Int->Bool}{row:List (Str×Int)}
theorem Dg{b e:Nat}(h:b<e) (he:e<=row.length):W R (seg row b e)=((List.range ((e-b) / 2)).map fun j=>if R (sg row b) (sg row (b+1+2*j))=true then W R (seg row (b+1) (b+1+2*j))*W R (seg row (b+1+2*j+1) e)else 0).sum:=by
 rw[wb h he,oG,lR (σ:=Str×Int) ("",0),List.map_map,eS he];have e1:((List.range (e-(b+1))).map ((fun c=>if R (sg row b) c.2.1=true then W R c.1*W R c.2.2 else 0)∘fun k=>((seg row (b+1) e).take k,(seg row (b+1) e).getD k ("",0),(seg row (b+1) e).drop (k+1)))).sum
  =((List.range (e-(b+1))).map fun k=>if R (sg row b) (sg row (b+1+k))=true then W R (seg row (b+1) (b+1+k))*W R (seg row (b+1+k+1) e)else 0).sum:=by
  congr 1;apply List.map_congr_left;intro k hk;have hk':=List.mem_range.mp hk;simp only[Function.comp_def];rw[C9 (by lia),vn (by lia),xJ];rfl
 rw[e1,pN _ fun k hk ho=>?_,show(e-(b+1)+1) / 2=(e-b) / 2 by lia]
 by_cases c:R (sg row b) (sg row (b+1+k))=true
 ·rw[if_pos c,vw _ (seg row (b+1) (b+1+k)) (Nat.le_refl _) (by rw[eS (by lia)];lia),Nat.zero_mul]
 ·rw[if_neg c]
theorem sV{b e:Nat}(h:b<e) (he:e<=row.length):(((mts R row b).filter fun m=>decide (m<e)).map fun m=>W R (seg row (b+1) m)*W R (seg row (m+1) e)).sum=W R (seg row b e):=by
 rw[Dg h he,eZ];unfold mts;rw[eZ];unfold n5;rw[List.map_map];rw[show(row.length-b) / 2=(e-b) / 2+((row.length-b) / 2-(e-b) / 2)by lia,fW fun k h1 h2=>?_]
 ·congr 1;apply List.map_congr_left;intro k hk;have hk':=List.mem_range.mp hk;simp only[Function.comp_def];rw[if_pos (show decide (b+1+2*k<e)=true by simp;lia)]
 ·simp only[Function.comp_def];rw[if_neg (show ¬ decide (b+1+2*k<e)=true by simp;lia),ite_self]
end
def tab(R:Str×Int->Str×Int->Bool) (row:List (Str×Int)) (L j b e:Nat):Option D:=if b<=e/\e<=row.length/\(e-b) % 2=0/\(e-b<L∨(e-b=L/\b<j))then some (.int (W R (seg row b e):Nat))else none
def Tab(R:Str×Int->Str×Int->Bool) (row:List (Str×Int)) (L j:Nat) (kvs:List (List Key×D)):Prop:=∀b e:Nat,cX kvs [.inl (b:Int),.inl (e:Int)]=tab R row L j b e
def l5(kvs:List (List Key×D)):Prop:=(kvs.map (·.1)).Nodup/\∀x∈kvs,∃(b e:Nat) (v:Int),x=([.inl (b:Int),.inl (e:Int)],.int v)
theorem l5.nil:l5 []:=⟨by simp,fun x h=>absurd h (by simp)⟩
theorem l5.put{kvs:List (List Key×D)}{b e:Nat}{v:Int}(h:l5 kvs):l5 (jB kvs [.inl (b:Int),.inl (e:Int)] (.int v)):=by
 unfold jB
 split
 ·refine⟨?_,fun x hx=>?_⟩
  ·rw[List.map_map];have e1:((fun x:List Key×D=>x.1)∘fun kv:List Key×D=>if kv.1=[Sum.inl (b:Int),Sum.inl (e:Int)]then(kv.1,D.int v)else kv)=fun x=>x.1:=by
    funext kv;simp only[Function.comp_def]
    split<;>rfl
   rw[e1];exact h.1
  ·obtain⟨y,hy,rfl⟩:=List.mem_map.mp hx;obtain⟨b',e',v',rfl⟩:=h.2 y hy
   split
   ·exact⟨_,_,_,rfl⟩
   ·exact⟨_,_,_,rfl⟩
 ·rename_i hn;refine⟨?_,fun x hx=>?_⟩
  ·rw[List.map_append,List.nodup_append];refine⟨h.1,by simp,fun u hu w hw=>?_⟩;obtain rfl:w=[Sum.inl (b:Int),Sum.inl (e:Int)]:=by simpa using hw
   rintro rfl;obtain⟨y,hy,ey⟩:=List.mem_map.mp hu;exact hn (List.any_eq_true.mpr ⟨y,hy,by simpa using ey⟩)
  ·rcases List.mem_append.mp hx with z|z
   ·exact h.2 x z
   ·exact⟨b,e,v,by simpa using z⟩
def du:SpD:=fun ds M Q=>∃(R:Str×Int->Str×Int->Bool) (row:List (Str×Int)),ds=[uM ((List.range row.length).map (mts R row))]/\row.length<=24 /\
 ∀p kvs,M p=none->Tab R row (row.length+1) 0 kvs->l5 kvs/\kvs.length<=325->Q (.ref p) (az M p (.dT kvs))
theorem iX{R:Str×Int->Str×Int->Bool}{row:List (Str×Int)}{L j L' j' b e:Nat}(h:∀d,d=e-b->b+d<=row.length->d % 2=0->((d<L∨(d=L/\b<j))↔(d<L'∨(d=L'/\b<j')))):tab R row L j b e=tab R row L' j' b e:=by
 unfold tab;have q:b<=e->e<=row.length->b+(e-b)<=row.length:=fun h1 h2=>by rw[Nat.add_sub_cancel' h1];exact h2
 exact ite_congr (propext ⟨fun⟨x,y,z,d⟩=>⟨x,y,z,(h _ rfl (q x y) z).mp d⟩,fun⟨x,y,z,d⟩=>⟨x,y,z,(h _ rfl (q x y) z).mpr d⟩⟩) (fun _=>rfl) fun _=>rfl
theorem AZ{R:Str×Int->Str×Int->Bool}{row:List (Str×Int)}{L b:Nat}(h1:b+L<=row.length) (h2:L % 2=0):tab R row L (b+1) b (b+L)=some (.int (W R (seg row b (b+L)):Nat)):=by
 unfold tab;have e:b+L-b=L:=Nat.add_sub_cancel_left ..;exact if_pos ⟨Nat.le_add_right _ _,h1,by rw[e];exact h2,.inr ⟨e,Nat.lt_succ_self b⟩⟩
theorem nL{b e b' e':Nat}:([Sum.inl (b:Int),Sum.inl (e:Int)]:List Key)=[Sum.inl (b':Int),Sum.inl (e':Int)]↔b=b'/\e=e':=by
 simp only[List.cons.injEq,Sum.inl.injEq,and_true,Int.natCast_inj]
theorem p8{α:Type}{f:α->Nat}:∀{l:List α},(l.map fun x=>((f x:Nat):Int)).sum=(((l.map f).sum:Nat):Int)
 |[]=>rfl
 |x::l=>by simp only[List.map_cons,List.sum_cons,p8 (l:=l),Int.natCast_add]
theorem oi{R:Str×Int->Str×Int->Bool}{row:List (Str×Int)}{i m:Nat}(h:m∈mts R row i):i+1<=m/\m<row.length/\(m-i) % 2=1:=by
 unfold mts n5 at h;obtain⟨k,hk,rfl⟩:=List.mem_map.mp (List.mem_filter.mp h).1;have:=List.mem_range.mp hk
 lia
theorem sR{R:Str×Int->Str×Int->Bool}{row:List (Str×Int)}{i:Nat}:(mts R row i).length<=row.length:=by
 unfold mts;refine Nat.le_trans (List.length_filter_le _ _) ?_;unfold n5;rw[List.length_map,List.length_range]
 lia
theorem sG{R:Str×Int->Str×Int->Bool}{xs:List (Str×Int)}(h:xs.length<=24):Few (W R xs:Nat):=by
 have h1:=DF (R:=R) 24 xs h (by decide);have h2:(100:Nat) ^ xs.length<=100 ^ 24:=Nat.pow_le_pow_right (by decide) h;have h3:W R xs<10 ^ 60:=Nat.lt_of_le_of_lt (Nat.le_trans h1 h2) (by decide);exact CK (by lia) (by lia)
theorem sL{p:Addr}{M:DH}{Q:DH->Prop}:∀(k done:Nat) (x:Option D) (kvs:List (List Key×D)),(∀b e:Nat,cX kvs [.inl (b:Int),.inl (e:Int)]=if b=e/\b<done then some (.int 1)else none)->kvs.length<=done->l5 kvs->done+k<=100 ->
  (∀kvs',(∀b e:Nat,cX kvs' [.inl (b:Int),.inl (e:Int)]=if b=e/\b<done+k then some (.int 1)else none)->kvs'.length<=done+k->l5 kvs'->Q (az M p (.dT kvs'))) ->
  kF (dW 6) (sX (lh 6) (sX (lh 6) Bl)) (dC (D.int 1)) p ((List.range' done k).map fun(j:Nat)=>D.int (0+(j:Int))) [none,none,none,none,none,none,x] (az M p (.dT kvs)) Q
 |0,done,x,kvs,h,hl,hk,hz,q=>by simpa[kF]using q kvs h hl hk
 |k+1,done,x,kvs,h,hl,hk,hz,q=>by
  rw[List.range'_succ,List.map_cons];simp only[kF];refine⟨_,rfl,?_⟩;rw[Int.zero_add];walk_at "rd";refine⟨sz3 2,Nat.lt_of_lt_of_le (by lia:kvs.length<1000) (sz3 1000),?_⟩;refine sL k (done+1) _ _ (fun b e=>?_) (Nat.le_trans (jf _ _ _) (by lia)) hk.put (by lia) fun kvs' h' hl' hk'=>q kvs' (fun b e=>by rw[h' b e,show done+1+k=done+(k+1)by lia]) (by lia) hk';rw[pJ,h b e]
  by_cases c:b=done/\e=done
  ·rw[if_pos (nL.mpr c),if_pos (by lia)]
  ·rw[if_neg (fun z=>c (nL.mp z))]
   by_cases g:b=e/\b<done
   ·rw[if_pos g,if_pos (by lia)]
   ·rw[if_neg g,if_neg (by lia)]
theorem gD(F:Fun K "stretch_counts" "stretch_counts" aZ f fd) (T:Txt mg) (G7:FnD P w K mg base "splits" 1 4 gO):bq P w K mg base CX0 2 f fd ["mates"] (spD K 1 du):=by
 have nd:=c8.nd;refine F.okR rfl c8 (fun cdv A outer s H E hr=>⟨_,(ak (aP (i:=1) nd rfl (Or.inl rfl) (aH cK rfl T.b_len (by kernel_rfl) (af (ae 0) aj)))
   (ak (Af (i:=2) (ms:=[false,false,false,false,false,false]) (ag:=["at"]) hr.units0 nd rfl rfl rfl (aC (n0:=0) rfl (show aE (ai aZ) aO _ _=true from by decide +kernel)) rfl (gp rfl T.b_range (af (aI aY (ae 1) am) aj)) (ay (i:=6) (show(aO++_).Nodup from by decide +kernel) rfl rfl) (fun _ _ _ _=>(af (ae 6) (af (ae 6) aj))) (fun _ _ _ _=>am))
   (ak (fq PassesOwn.never rfl (sj rfl T.b_range (af am (af (aI aY (ae 1) am) (af am aj)))) (bM (i:=3) nd rfl (Or.inl rfl)) (av (fq PassesOwn.never rfl (gp rfl T.b_range (af (aI aY (aI kE (ae 1) (ae 3)) am) aj)) (bM (i:=4) nd rfl (Or.inl rfl)) (ak (aP (i:=5) nd rfl (Or.inl rfl) (aI aY (ae 4) (ae 3)))
   (av (De hr.units1 (ae 2) (af (ae 4) (af (ae 5) aj)) (aH (DM rfl) rfl T.b_sum (by kernel_rfl) (af (gU (ms:=[false,false,false,false,false,false]) (ag:=["mate","count"]) (aC (n0:=0) rfl (show aE (ai aZ) aO _ _=true from by decide +kernel)) rfl (aQ (qd G7 hr (af (ae 0) (af (ae 2) (af (ae 4) (af (ae 5) aj)))))) (eY (n:=2) rfl (ba (ay (i:=6) (show(aO++_).Nodup from by decide +kernel) rfl rfl) (ba (ay (i:=7) (show(aO++_).Nodup from by decide +kernel) rfl rfl) eN))) (fun _ _ _ _=>cL) (fun _ _ _ _=>(ae 7))) aj))))))))
   (av (bG (ae 2)))))),fun ds M R _ hS bk=>?_⟩)
 obtain⟨r,row,rfl,hl,k⟩:=hS;refine bk ?_;clear bk;simp only[uM];walk_at "rd";simp only[List.length_map,List.length_range];refine⟨by lia,by lia,fun p hp=>?_⟩;have e0:gP 0 ((row.length:Int)+1).toNat=(List.range' 0 (row.length+1)).map fun(j:Nat)=>D.int (0+(j:Int)):=by
  rw[<-List.range_eq_range'];rfl
 rw[e0];refine sL (row.length+1) 0 none [] (fun b e=>by rw[if_neg (by lia)];rfl) (Nat.le_refl _) l5.nil (by lia) fun kvs h0 hl0 hk0=>?_;refine⟨_,_,_,⟨rfl,rfl,rfl⟩,Or.inl rfl,⟨by lia,by lia,by lia,by lia⟩,?_⟩;have hsz:szR 2 ((row.length:Int)+1) 2=row.length / 2:=by
  unfold szR Builtin.Range.rangeSize;simp
  lia
 rw[hsz];have hms:∀b,b<row.length->∃hb:b<((List.range row.length).map (mts r row)).length,((List.range row.length).map (mts r row))[b]=mts r row b:=fun b hb=>⟨by simpa using hb,by simp⟩;refine br (fun i Δ M'=>∃(kvs:List (List Key×D)) (x3 x4 x5:Option D),Δ=[some (D.lst (((List.range row.length).map (mts r row)).map jv)),some (D.int row.length),some (D.ref p),x3,x4,x5]/\M'=az M p (.dT kvs)/\Tab r row (2+2*i) 0 kvs/\kvs.length<=25+25*i/\l5 kvs)
  ⟨kvs,none,none,none,rfl,rfl,fun b e=>?_,by lia,hk0⟩ ?_ ?_
 ·rw[h0 b e];unfold tab
  by_cases c:b=e/\b<0+(row.length+1)
  ·rw[if_pos c,if_pos (by lia),c.1,uV,sF];rfl
  ·rw[if_neg c,if_neg (by lia)]
 ·intro i d Δ M' X hd hI' k';refine shr fun _ bk=>?_;obtain⟨kvs,x3,x4,x5,rfl,rfl,hT,hkl,hki⟩:=hI';refine bk ?_;clear bk;obtain⟨hi,rfl⟩:=oT hd;have eL:(2:Int)+(i:Int)*2=((2+2*i:Nat):Int):=by lia
  rw[eL];generalize hL:2+2*i=L at *
  have hLn:L<=row.length:=by lia
  simp only[dW];walk_at "rd";refine⟨by lia,by lia,?_⟩;have e1:((row.length:Int)-(L:Int)+1).toNat=row.length-L+1:=by lia
  rw[e1];refine br (fun j Δ M'=>∃(kvs:List (List Key×D)) (x4 x5:Option D),Δ=[some (D.lst (((List.range row.length).map (mts r row)).map jv)),some (D.int row.length),some (D.ref p),some (D.int L),x4,x5]/\M'=az M p (.dT kvs)/\Tab r row L j kvs/\kvs.length<=25+25*i+j/\l5 kvs)
   ⟨kvs,_,_,rfl,rfl,hT,hkl,hki⟩ ?_ ?_
  ·intro j d Δ M' X' hd2 hI' k2;refine shr fun _ bk=>?_;obtain⟨kvs,x4,x5,rfl,rfl,hT,hkl,hki⟩:=hI';refine bk ?_;clear bk;obtain⟨hj,rfl⟩:=ig hd2;rw[Int.zero_add];simp only[dW];walk_at "rd";have ej:(j:Int)+(L:Int)=((j+L:Nat):Int):=by lia
   rw[ej];obtain⟨hb,em⟩:=hms j (by lia);refine⟨_,p,kvs,j,j+L,fun b e=>W r (seg row b e),rfl,ar,hb,?_,?_,?_⟩
   ·intro m hm hme;rw[em]at hm;obtain⟨m1,m2,m3⟩:=oi hm;refine⟨?_,?_,sG (by rw[eS (by lia)];lia),sG (by rw[eS (by lia)];lia)⟩
    ·have h:=hT (j+1) m;rw[Int.natCast_add]at h;refine h.trans ?_;unfold tab;rw[if_pos (by lia)]
    ·have h:=hT (m+1) (j+L);rw[Int.natCast_add]at h;refine h.trans ?_;unfold tab;rw[if_pos (by lia)]
   ·rw[em];exact Nat.le_trans sR (by lia)
   ·rw[em];refine⟨_,rfl,fun hz=>⟨hz,?_⟩⟩;refine aF (fun(m:Nat)=>pD ((m:Int),(W r (seg row (j+1) m)*W r (seg row (m+1) (j+L)):Nat))) (fun _=>true) (fun(m:Nat)=>D.int (W r (seg row (j+1) m)*W r (seg row (m+1) (j+L)):Nat)) (fun Δ=>∃x y,Δ=[none,none,none,none,none,none,x,y]) _ _ _ (fun m hm Δ hΔ=>?_) ⟨none,none,rfl⟩ ?_
    ·obtain⟨x,y,rfl⟩:=hΔ;refine⟨_,rfl,⟨_,_,rfl⟩,fun Q1 q=>q,fun _ Q2 q=>?_⟩;walk_at "rd";exact q
    ·rw[List.nil_append,List.filter_eq_self.mpr (fun _ _=>rfl)];have es:xx (.lst (((mts r row j).filter fun m=>decide (m<j+L)).map fun(m:Nat)=>D.int (W r (seg row (j+1) m)*W r (seg row (m+1) (j+L)):Nat)))=some (.int (W r (seg row j (j+L)):Nat)):=by
      rw[<-sV (show j<j+L by lia) (show j+L<=row.length by lia),<-p8,<-CT,List.map_map];rfl
     refine⟨_,es,sz3 2,kvs,ar,Nat.lt_of_lt_of_le (by lia:kvs.length<16000000) (szB 16000000),?_⟩;rw[l7];refine k2 _ _ ⟨_,_,_,rfl,rfl,fun b e=>?_,Nat.le_trans (jf _ _ _) (by lia),hki.put⟩;rw[pJ,hT b e]
     by_cases c:b=j/\e=j+L
     ·rw[if_pos (nL.mpr c)];obtain⟨rfl,rfl⟩:=c;exact(AZ (by lia) (by lia)).symm
     ·rw[if_neg (fun z=>c (nL.mp z))];exact iX fun d hd _ _=>or_congr_right (and_congr_right fun h=>⟨fun h'=>Nat.lt_succ_of_lt h',fun h'=>Nat.lt_of_le_of_ne (Nat.le_of_lt_succ h') fun z=>c ⟨z,by clear c;lia⟩⟩)
  ·intro Δ M' hI';refine shr fun _ bk=>?_;obtain⟨kvs,x4,x5,rfl,rfl,hT,hkl,hki⟩:=hI';refine bk ?_;clear bk;have e2:(gP 0 (row.length-L+1)).length=row.length-L+1:=by simp[gP]
   rw[e2]at hT hkl;refine k' _ _ ⟨kvs,_,_,_,rfl,rfl,fun b e=>?_,by lia,hki⟩;rw[hT b e];refine iX fun d hd hb h2=>⟨fun h=>.inl ?_,fun h=>?_⟩
   ·rcases h with h|⟨h,_⟩<;>lia
   ·rcases h with h|⟨_,h⟩
    ·rcases Nat.lt_or_ge d L with z|z
     ·exact .inl z
     ·have hdL:d=L:=by clear hd;lia
      exact .inr ⟨hdL,by clear hd h2 h;lia⟩
    ·exact absurd h (Nat.not_lt_zero _)
 ·intro Δ M' hI';refine shr fun _ bk=>?_;obtain⟨kvs,x3,x4,x5,rfl,rfl,hT,hkl,hki⟩:=hI';refine bk ?_;clear bk;walk_at "rd";have e2:(n4 2 2 (row.length / 2)).length=row.length / 2:=by simp[n4]
  rw[e2]at hT hkl;refine k p kvs hp (fun b e=>?_) ⟨hki,by lia⟩;rw[hT b e];refine iX fun d hd hb h2=>⟨fun h=>.inl (Nat.lt_succ_of_le (Nat.le_trans (Nat.le_add_left _ _) hb)),fun h=>.inl (by clear hd h hkl;lia)⟩
def fA:SpD:=fun ds M Q=>∃(R:Str×Int->Str×Int->Bool) (row:List (Str×Int)) (p:Addr) (kvs:List (List Key×D)),ds=[.ref p,.tup (row.map ax)]/\M p=some (.dT kvs)/\row.length<=24/\Tab R row (row.length+1) 0 kvs/\Q (.int (W R row:Nat)) M
theorem i9(F:Fun K "whole_count" "whole_count" cY f fd) (T:Txt mg) :bq P w K mg base CX0 1 f fd ["counts","row"] (spD K 2 fA):=by
 have nd:=eE.nd;refine F.okR rfl eE (fun cdv A outer s H E hr=>⟨_,(av (bG (zd hr.units1 (ae 0) (af am (af (aH cK rfl T.b_len (by kernel_rfl) (af (ae 1) aj)) aj)) am ⟨rfl,rfl,rfl,rfl⟩))),fun ds M R _ hS bk=>?_⟩);obtain⟨r,row,p,kvs,rfl,hM,hl,hT,k⟩:=hS;refine bk ?_;clear bk;walk_at "rd";refine⟨kvs,hM,sz3 2,kvs,hM,?_⟩;rw[List.length_map];have h:=hT 0 row.length;have e:tab r row (row.length+1) 0 0 row.length=if row.length % 2=0 then some (.int (W r row:Nat))else none:=by
  unfold tab;rw[rX]
  by_cases c:row.length % 2=0
  ·rw[if_pos c,if_pos (by lia)]
  ·rw[if_neg c,if_neg (by lia)]
 have h':cX kvs [Sum.inl 0,Sum.inl (row.length:Int)]=_:=h.trans e;rw[h']
 by_cases c:row.length % 2=0
 ·rw[if_pos c];exact k
 ·rw[if_neg c];rw[vw _ row (Nat.le_refl _) (by lia)]at k;exact k
def Ncr(a b:Nat×Nat):Prop:=a.1≠b.1/\a.1≠b.2/\a.2≠b.1/\a.2≠b.2/\¬ (a.1<b.1/\b.1<a.2/\a.2<b.2)/\¬ (b.1<a.1/\a.1<b.2/\b.2<a.2)
theorem Ncr.symm{a b:Nat×Nat}(h:Ncr a b):Ncr b a:=⟨h.1.symm,h.2.2.1.symm,h.2.1.symm,h.2.2.2.1.symm,h.2.2.2.2.2,h.2.2.2.2.1⟩
def stW(l:List (Nat×Nat)):Nat:=(l.map fun s=>s.2-s.1).sum
structure HDr(R:Str×Int->Str×Int->Bool) (row:List (Str×Int)) (arcs sts:List (Nat×Nat)):Prop where
 len:2*arcs.length+stW sts=row.length
 arc:∀a∈arcs,a.1<a.2/\a.2<row.length/\R (sg row a.1) (sg row a.2)=true
 pw:arcs.Pairwise Ncr
 out:∀a∈arcs,∀s∈sts,(a.1<s.1∨s.2<=a.1)/\(a.2<s.1∨s.2<=a.2)
 ap:sts.Pairwise fun s t=>s.2<=t.1∨t.2<=s.1
theorem rW{l l':List (Nat×Nat)}:stW (l++l')=stW l+stW l':=by simp[stW]
theorem HDr.drop{R:Str×Int->Str×Int->Bool}{row:List (Str×Int)}{arcs sts:List (Nat×Nat)}{b:Nat}(h:HDr R row arcs (sts++[(b,b)])):HDr R row arcs sts :=
 ⟨by have:=h.len;rw[rW]at this;simpa[stW]using this,h.arc,h.pw,fun a ha s hs=>h.out a ha s (List.mem_append_left _ hs),(List.pairwise_append.mp h.ap).1⟩
theorem HDr.more{R:Str×Int->Str×Int->Bool}{row:List (Str×Int)}{arcs sts:List (Nat×Nat)}{b m e:Nat}(h:HDr R row arcs (sts++[(b,e)])) (h1:b+1<=m) (h2:m<e) (h3:e<=row.length) (hR:R (sg row b) (sg row m)=true):HDr R row (arcs++[(b,m)]) (sts++[(b+1,m),(m+1,e)]):=by
 obtain⟨p1,-,p3⟩:=List.pairwise_append.mp h.ap;have hl:=h.len;have hap:∀s∈sts,s.2<=b∨e<=s.1:=fun s hs=>p3 s hs (b,e) (by simp);have hin:∀a∈arcs,(a.1<b∨e<=a.1)/\(a.2<b∨e<=a.2):=fun a ha=>h.out a ha (b,e) (by simp);refine⟨?_,fun a ha=>?_,List.pairwise_append.mpr ⟨h.pw,List.pairwise_singleton _ _,fun a ha c hc=>?_⟩,fun a ha s hs=>?_,List.pairwise_append.mpr ⟨p1,?_,fun s hs t ht=>?_⟩⟩
 ·rw[rW]at hl ⊢;have e1:stW [(b,e)]=e-b:=by simp[stW]
  have e2:stW [(b+1,m),(m+1,e)]=(m-(b+1))+(e-(m+1)):=by simp[stW]
  rw[List.length_append,List.length_singleton];lia
 ·rcases List.mem_append.mp ha with z|z
  ·exact h.arc a z
  ·obtain rfl:a=(b,m):=by simpa using z
   exact⟨h1,by show m<_;lia,hR⟩
 ·obtain rfl:c=(b,m):=by simpa using hc
  have:=hin a ha;have:=h.arc a ha;simp only[Ncr];lia
 ·have hs':s∈sts∨s=(b+1,m)∨s=(m+1,e):=by simpa using hs
  rcases List.mem_append.mp ha with z|z
  ·have:=hin a z;rcases hs' with y|rfl|rfl
   ·exact h.out a z s (List.mem_append_left _ y)
   ·simp only;lia
   ·simp only;lia
  ·obtain rfl:a=(b,m):=by simpa using z
   rcases hs' with y|rfl|rfl
   ·have:=hap s y;simp only;lia
   ·simp only;lia
   ·simp only;lia
 ·simp
 ·have:=hap s hs;have ht':t=(b+1,m)∨t=(m+1,e):=by simpa using ht
  rcases ht' with rfl|rfl
  ·simp only;lia
  ·simp only;lia
theorem HDr.done{R:Str×Int->Str×Int->Bool}{row:List (Str×Int)}{arcs:List (Nat×Nat)}(h:HDr R row arcs []):∃l,nX R row l/\gV (.lst (arcs.map stD))=some (.lst (l.map stD)):=by
 obtain⟨L,e,hP,hs⟩:=tM arcs;have hq:L.Pairwise Ncr:=(hP.pairwise_iff Ncr.symm).mpr h.pw;refine⟨L,⟨by have:=h.len;rw[hP.length_eq];simpa[stW]using this,fun a ha=>h.arc a (hP.mem_iff.mp ha),(hq.and hs).imp fun {a b} ⟨n,l⟩=>?_⟩,e⟩;have lt:a.1<b.1:=by have:=n.1;lia
 exact⟨lt,n.2.2.1.symm,n.2.2.2.1.symm,fun h=>n.2.2.2.2.1 ⟨lt,h.1,h.2⟩⟩
def cw:SpD:=fun ds M Q=>∃(ord:List (Str×Str)) (row:List (Str×Int)),ds=[.tup (ord.map aN),.tup (row.map ax)]/\ord.length<=500/\row.length<=24/\(W (cB ord) row=0->Q .non M)/\(0<W (cB ord) row->∀arcs:List (Nat×Nat),nX (cB ord) row arcs->Q (.tup (arcs.map stD)) M)
def stM(l:List (Nat×Nat)):Nat:=(l.map fun s=>2*(s.2-s.1)+1).sum
theorem zX{l:List (Nat×Nat)}:l.length<=stM l:=by
 induction l with
 |nil=>simp
 |cons x l ih =>
  have:stM (x::l)=2*(x.2-x.1)+1+stM l:=by simp[stM]
  rw[this,List.length_cons];lia
theorem En{X:DH}{p q:Addr}{A A' B B':HD}(h:p≠q):az (az (az (az X p A) q B) p A') q B'=az (az X p A') q B':=by
 funext c;unfold az
 by_cases h1:c=q
 ·simp[h1]
 ·by_cases h2:c=p
  ·simp[h1,h2,h]
  ·simp[h1,h2]
theorem g8{l l':List (Nat×Nat)}:stM (l++l')=stM l+stM l':=by simp[stM]
theorem jJ(F:Fun K "drawing_of" "drawing_of" cE f fd) (T:Txt mg) (Y6:FnD P w K mg base "mates_in" 5 2 iI) (G6:FnD P w K mg base "stretch_counts" 2 1 du) (G9:FnD P w K mg base "whole_count" 1 2 fA) (G7:FnD P w K mg base "splits" 1 4 gO):bq P w K mg base CX0 6 f fd ["order","row"] (spD K 2 cw):=by
 have nd:=fk.nd;refine F.okR rfl fk (fun cdv A outer s H E hr=>⟨_,(ak (aP (i:=2) nd rfl (Or.inl rfl) (qd Y6 hr (af (ae 0) (af (ae 1) aj))))
   (ak (aP (i:=3) nd rfl (Or.inl rfl) (qd G6 hr (af (ae 2) aj)))
   (bJ (ak (ft (a7 (uh hr.units) (qd G9 hr (af (ae 3) (af (ae 1) aj))) am nbh) (av (kL wc)) c0)
   (bJ (ak (aP (i:=4) nd rfl (Or.inl rfl) (fI aj))
   (ak (aP (i:=5) nd rfl (Or.inl rfl) (fI (af (cJ (af am (af (aH cK rfl T.b_len (by kernel_rfl) (af (ae 1) aj)) aj))) aj)))
   (ak (oe PassesOwn.never (a7 zW (aH cK rfl T.b_len (by kernel_rfl) (af (ae 5) aj)) am nbh) (ak (DK (Er (ae 5)) (tu rfl (fY (bM (i:=6) nd rfl (Or.inl rfl)) (fY (bM (i:=7) nd rfl (Or.inl rfl)) tD))))
   (bJ (av (ft (a7 rR (ae 6) (ae 7) nbh) (ak (aP (i:=8) nd rfl (Or.inl rfl) (cf cg (gU (ms:=[false,false,false,false,false,false,false,false,false]) (ag:=["at","count"]) (aC (n0:=0) rfl (show aE (ai cE) cz _ _=true from by decide +kernel)) rfl (aQ (qd G7 hr (af (ae 2) (af (ae 3) (af (ae 6) (af (ae 7) aj)))))) (eY (n:=2) rfl (ba (ay (i:=9) (show(cz++_).Nodup from by decide +kernel) rfl rfl) (ba (ay (i:=10) (show(cz++_).Nodup from by decide +kernel) rfl rfl) eN))) (fun _ _ _ _=>(dX (a7 zW (ae 10) am nbh))) (fun _ _ _ _=>(ae 9))) am (fun _ _=>rfl)))
   (bJ (ak (dU (kG (ae 4) (cJ (af (ae 6) (af (ae 8) aj)))))
   (av (dU (xc (ae 5) (nr (af (cJ (af (aI aY (ae 6) am) (af (ae 8) aj))) (af (cJ (af (aI aY (ae 8) am) (af (ae 7) aj))) aj))))))))) c0)))))
   (nU 4 (av (kL (dB gz rfl T.b_tuple (by kernel_rfl) (af (aH (jR hr.units) rfl T.b_sorted (by kernel_rfl) (af (ae 4) aj)) aj))))))))))))),fun ds M R _ hS bk=>?_⟩)
 obtain⟨ord,row,rfl,ho,hl,k0,k1⟩:=hS;refine bk ?_;clear bk;walk_at "rd";refine⟨ord,row,rfl,ho,hl,cB ord,row,rfl,hl,fun pc kvs hpc hT _=>aM ?_⟩;walk_at "rd";refine⟨cB ord,row,pc,kvs,rfl,ar,hl,hT,?_⟩;walk_at "rd";refine lN (fun h=>?_) (fun h=>?_)
 ·exact⟨_,yF hpc,k0 (by simpa using h)⟩
 ·have hW:0<W (cB ord) row:=by
   have:¬ (W (cB ord) row:Int)=0:=by simpa using h
   lia
  refine aM ?_;walk_at "rd";refine⟨sz3 0,fun p hp=>⟨sz3 2,sz3 1,fun q hq=>?_⟩⟩;have npc:p≠pc:=by rintro rfl;rw[ar]at hp;cases hp
  have npq:q≠p:=by rintro rfl;rw[ar]at hq;cases hq
  have nqc:q≠pc:=by rintro rfl;rw[aw (Ne.symm npc),ar]at hq;cases hq
  rw[List.length_map];refine⟨fun m Δ M'=>∃(arcs:List (Nat×Nat)) (sts:List (Nat×Nat)) (x6 x7 x8:Option D),Δ=[some (D.tup (ord.map aN)),some (D.tup (row.map ax)),some (uM ((List.range row.length).map (mts (cB ord) row))),some (D.ref pc),some (D.ref p),some (D.ref q),x6,x7,x8]/\M'=az (az (az M pc (.dT kvs)) p (.lst (arcs.map stD))) q (.lst (sts.map stD))/\(∀s∈sts,s.1<=s.2/\s.2<=row.length/\0<W (cB ord) (seg row s.1 s.2))/\m=stM sts/\arcs.length+m<=49/\HDr (cB ord) row arcs sts,
   ⟨_,[],[(0,row.length)],none,none,none,rfl,rfl,fun s hs=>?_,rfl,?_,⟨by simp[stW],fun a ha=>by simp at ha,.nil,fun a ha=>by simp at ha,List.pairwise_singleton _ _⟩⟩,?_⟩
  ·obtain rfl:s=(0,row.length):=by simpa using hs
   exact⟨Nat.zero_le _,Nat.le_refl _,by rw[rX];exact hW⟩
  ·simp[stM];lia
  ·rintro m Δ M' ⟨arcs,sts,x6,x7,x8,rfl,rfl,hs,rfl,hm,hH⟩;walk_at "rd";rw[List.length_map];refine lN (fun h1=>?_) (fun h1=>?_)
   ·obtain⟨st',⟨b,e⟩,rfl⟩:∃st' s,sts=st'++[s]:=by
     refine⟨sts.dropLast,sts.getLast (by rintro rfl;simp at h1),(List.dropLast_concat_getLast _).symm⟩
    refine⟨st'.map stD,stD (b,e),by rw[List.map_append];rfl,?_⟩;obtain⟨be,en,hWs⟩:=hs (b,e) (by simp);simp only at be en hWs;have hs':∀s∈st',s.1<=s.2/\s.2<=row.length/\0<W (cB ord) (seg row s.1 s.2):=fun s h=>hs s (List.mem_append_left _ h);rw[g8]at hm;have e1:stM [(b,e)]=2*(e-b)+1:=by simp[stM]
    refine⟨_,rfl,aM ?_⟩;walk_at "rd";refine lN (fun hbe=>?_) (fun hbe=>?_)
    ·have hbe':b<e:=by lia
     have hbn:b<((List.range row.length).map (mts (cB ord) row)).length:=by simp;lia
     have em:((List.range row.length).map (mts (cB ord) row))[b]=mts (cB ord) row b:=by simp
     have hev:(e-b) % 2=0:=by
      rcases Nat.mod_two_eq_zero_or_one (e-b)with z|z
      ·exact z
      ·rw[vw _ _ (Nat.le_refl _) (by rw[eS en];exact z)]at hWs;lia
     refine⟨_,pc,kvs,b,e,fun b e=>W (cB ord) (seg row b e),rfl,by rw[aw (Ne.symm nqc),aw (Ne.symm npc),ar],hbn,?_,?_,?_⟩
     ·intro m hm' hme;rw[em]at hm';obtain⟨m1,m2,m3⟩:=oi hm';refine⟨?_,?_,sG (by rw[eS (by lia)];lia),sG (by rw[eS (by lia)];lia)⟩
      ·have h:=hT (b+1) m;rw[Int.natCast_add]at h;refine h.trans ?_;unfold tab;rw[if_pos (by lia)]
      ·have h:=hT (m+1) e;rw[Int.natCast_add]at h;refine h.trans ?_;unfold tab;rw[if_pos (by lia)]
     ·rw[em];exact Nat.le_trans sR (by lia)
     ·rw[em];refine⟨_,rfl,fun hz=>⟨hz,?_⟩⟩;refine aF (fun(m:Nat)=>pD ((m:Int),(W (cB ord) (seg row (b+1) m)*W (cB ord) (seg row (m+1) e):Nat))) (fun m=>decide (0<W (cB ord) (seg row (b+1) m)*W (cB ord) (seg row (m+1) e))) (fun(m:Nat)=>D.int (m:Int)) (fun Δ=>∃x y,Δ=[none,none,none,none,none,none,none,none,none,x,y]) _ _ _ (fun m hm Δ hΔ=>?_) ⟨none,none,rfl⟩ ?_
      ·obtain⟨x,y,rfl⟩:=hΔ;refine⟨_,rfl,⟨_,_,rfl⟩,fun Q1 q=>?_,fun _ Q2 q=>?_⟩
       ·walk_at "rd";have ez:decide ((0:Int)<((W (cB ord) (seg row (b+1) m)*W (cB ord) (seg row (m+1) e):Nat):Int))=decide (0<W (cB ord) (seg row (b+1) m)*W (cB ord) (seg row (m+1) e)):=decide_eq_decide.mpr (by lia);rw[ez];exact q
       ·walk_at "rd";exact q
      ·rw[List.nil_append];have hF:∀m∈(((mts (cB ord) row b).filter fun m=>decide (m<e)).filter fun m=>decide (0<W (cB ord) (seg row (b+1) m)*W (cB ord) (seg row (m+1) e))),b+1<=m/\m<e/\0<W (cB ord) (seg row (b+1) m)/\0<W (cB ord) (seg row (m+1) e)/\cB ord (sg row b) (sg row m)=true:=fun m hm=>by
        obtain⟨g1,g2⟩:=List.mem_filter.mp hm;obtain⟨g3,g4⟩:=List.mem_filter.mp g1;have g5:=oi g3;have g2':0<W (cB ord) (seg row (b+1) m)*W (cB ord) (seg row (m+1) e):=by simpa using g2
        exact⟨g5.1,by simpa using g4,Nat.pos_of_mul_pos_right g2',Nat.pos_of_mul_pos_left g2',by unfold mts at g3;exact(List.mem_filter.mp g3).2⟩
       have hne:(((mts (cB ord) row b).filter fun m=>decide (m<e)).filter fun m=>decide (0<W (cB ord) (seg row (b+1) m)*W (cB ord) (seg row (m+1) e)))≠[]:=fun z=>by
        rw[<-sV hbe' en,g7 fun m hm=>?_]at hWs
        ·lia
        ·have:=List.filter_eq_nil_iff.mp z m hm;simpa using this
       cases hFe:(((mts (cB ord) row b).filter fun m=>decide (m<e)).filter fun m=>decide (0<W (cB ord) (seg row (b+1) m)*W (cB ord) (seg row (m+1) e)))with
       |nil=>exact absurd hFe hne
       |cons m0 aK =>
        obtain⟨w1,w2,w3,w4,w5⟩:=hF m0 (by rw[hFe];exact List.mem_cons_self);rw[List.map_cons];refine⟨_,AO,aM ?_⟩;walk_at "rd";have a1:az (az (az M pc (.dT kvs)) p (.lst (arcs.map stD))) q (.lst (st'.map stD)) p=some (.lst (arcs.map stD)):=by rw[aw (Ne.symm npq),ar]
        have a2:∀A,az (az (az (az M pc (.dT kvs)) p (.lst (arcs.map stD))) q (.lst (st'.map stD))) p A q=some (.lst (st'.map stD)):=fun A=>by rw[aw npq,ar]
        have a3:=zX (l:=st');have e2:stM [(b+1,m0),(m0+1,e)]=2*(m0-(b+1))+1+(2*(e-(m0+1))+1):=by simp[stM]
        refine⟨_,a1,sz3 2,_,a1,?_,_,a2 _,sz3 2,sz3 2,sz3 2,_,a2 _,?_,stM (st'++[(b+1,m0),(m0+1,e)]),?_,arcs++[(b,m0)],st'++[(b+1,m0),(m0+1,e)],_,_,_,⟨rfl,rfl,rfl⟩,?_,?_,rfl,?_,hH.more w1 w2 en w5⟩
        ·rw[List.length_map];exact Nat.lt_of_lt_of_le (by lia:arcs.length<1000) (sz3 1000)
        ·rw[List.length_map];exact sz3 _ (by lia)
        ·rw[g8,g8];lia
        ·rw[En (Ne.symm npq),List.map_append,List.map_append];rfl
        ·intro s hs2;rcases List.mem_append.mp hs2 with z|z
         ·exact hs' s z
         ·have:s=(b+1,m0)∨s=(m0+1,e):=by simpa using z
          rcases this with rfl|rfl
          ·exact⟨w1,by show m0<=_;lia,w3⟩
          ·exact⟨w2,en,w4⟩
        ·rw[g8,List.length_append,List.length_cons,List.length_nil];lia
    ·obtain rfl:b=e:=by lia
     exact⟨stM st',by rw[g8];lia,arcs,st',_,_,_,⟨rfl,rfl,rfl⟩,rfl,hs',rfl,by lia,hH.drop⟩
   ·have hMp:M p=none:=by rw[aw npc]at hp;exact hp
    have hMq:M q=none:=by rw[aw npq,aw nqc]at hq;exact hq
    obtain rfl:sts=[]:=by
     cases sts with
     |nil=>rfl
     |cons s l=>exact absurd (by simp) h1
    obtain⟨L,hL,eL⟩:=hH.done;refine⟨arcs.map stD,by rw[aw (Ne.symm npq),ar],_,eL,_,rfl,M,fun a u ha=>?_,k1 hW _ hL⟩;have n1:a≠p:=by rintro rfl;rw[hMp]at ha;cases ha
    have n2:a≠q:=by rintro rfl;rw[hMq]at ha;cases ha
    have n3:a≠pc:=by rintro rfl;rw[hpc]at ha;cases ha
    rw[nS n1,aw n2,aw n1,aw n3];exact ha
def uv(n:Nat) (xs:List Int):Prop:=xs.length=n/\∀x∈xs,0<=x/\x<720720
theorem uv.snoc{n:Nat}{xs:List Int}{x:Int}(h:uv n xs) (h0:0<=x) (h1:x<720720):uv (n+1) (xs++[x]):=by
 refine⟨by rw[List.length_append,h.1];rfl,fun y hy=>?_⟩;rcases List.mem_append.mp hy with q|q
 ·exact h.2 y q
 ·have:y=x:=by simpa using q
  subst this;exact⟨h0,h1⟩
theorem A3{cs:List Nat}{c:Nat}:((cs.map fun c=>D.str (tx [c])).any fun d=>eqD d (.str (tx [c])))=decide (c∈cs):=by
 rw[Bool.eq_iff_iff,List.any_map,List.any_eq_true,decide_eq_true_eq];constructor
 ·rintro⟨e,he,h⟩;have:tx [e]=tx [c]:=by simpa[eqD]using h
  have h2:=congrArg (fun z:Str=>z.cps.toList) this;simp only[sO]at h2;obtain rfl:e=c:=by simpa using h2
  exact he
 ·intro h;exact⟨c,h,by simp[eqD]⟩
theorem xv{cs:List Nat}(h:cs.length<26):0<(jO.filter fun c=>!decide (c∈cs)).length:=by
 rw[List.length_pos_iff];intro e;have h2:jO.length<=cs.length:=eA jO cs (by decide) fun c hc=>by
  rw[List.filter_eq_nil_iff]at e;simpa using e c hc
 have:jO.length=26:=by decide
 lia
theorem tV{a b:Prop} [Decidable a] [Decidable b] {P Q:Prop}(h1:P) (h2:Q):if a then P else if b then P else Q:=by
 split
 ·exact h1
 ·split
  ·exact h1
  ·exact h2
def nq:SpD:=fun ds M R=>∃(c:Int) (n:Nat),ds=[.int c,.lst ((List.replicate n (720720:Int)).map D.int)]/\n<=500/\∀xs,uv n xs->R (.lst (xs.map D.int)) M
theorem rO(F:Fun K "_law_parts" "_law_parts" iL f fd) (T:Txt mg) :bq P w K mg base CX0 1 f fd ["_law_cell","_law_sizes"] (spD K 2 nq):=by
 have nd:=lJ.nd;refine F.okR rfl lJ (fun cdv A outer s H E hr=>⟨_,(ak (aP (i:=2) nd rfl (Or.inl rfl) (fI aj))
   (bJ (ak (ft (BL (AI (a7 rR (ae 0) am nbh) (uX (a7 Ff (ae 0) (aI D6 am am) nbh)))) (bJ (ak (fq PassesOwn.never rfl (aQ (ae 1)) (bM (i:=3) nd rfl (Or.inl rfl)) (ak (dU (kG (ae 2) (aI dO (ae 0) (ae 3))))
   (av (aP (i:=0) nd rfl (Or.inl rfl) (aI oD (ae 0) (ae 3))))))
   (bJ (av (oy (ae 2)))))) c0)
   (bJ (ak (aP (i:=4) nd rfl (Or.inl rfl) (aI aY (aI dO (ae 0) am) am))
   (bJ (ak (fq PassesOwn.never rfl (aQ (ae 1)) (bM (i:=3) nd rfl (Or.inl rfl)) (ak (aP (i:=4) nd rfl (Or.inl rfl) (aI dO (aI aY (aI qU (ae 4) am) am) am))
   (av (dU (kG (ae 2) (aI dO (aI oD (aI dO (aI qU (ae 4) am) am) am) (ae 3)))))))
   (bJ (av (oy (ae 2))))))))))),fun ds M R _ hS bk=>?_⟩)
 obtain⟨c,n,rfl,hn,k⟩:=hS;refine bk ?_;clear bk;walk_at "rd";refine⟨sz3 0,fun p hp=>aM ?_⟩;walk_at "rd";refine tV (aM ?_) (aM ?_)
 ·walk_at "rd";intro hz;refine br (fun i Δ M'=>∃(c':Int) (acc:List Int) (x3:Option D),Δ=[some (D.int c'),some (D.lst (List.map D.int (List.replicate n 720720))),some (D.ref p),x3,none]/\M'=az M p (.lst (acc.map D.int))/\uv i acc) ⟨c,[],none,rfl,rfl,rfl,fun _ h=>by cases h⟩ ?_ ?_
  ·rintro i d Δ M' X hd ⟨c',acc,x3,rfl,rfl,hN⟩ k';obtain⟨x,hx,rfl⟩:=cC hd;obtain rfl:x=720720:=List.eq_of_mem_replicate (List.mem_of_getElem? hx);have hi:i<n:=by have:=(List.getElem?_eq_some_iff.mp hx).1;simpa using this
   simp only[dW];walk_at "rd";refine⟨?_,k' _ _ ⟨_,acc++[c' % 720720],_,rfl,by rw[List.map_append];rfl,hN.snoc (by lia) (by lia)⟩⟩;rw[List.length_map,hN.1];exact Nat.lt_of_lt_of_le (by lia:i<1000) (sz3 1000)
  ·rintro Δ M' ⟨c',acc,x3,rfl,rfl,hN⟩;refine aM ?_;walk_at "rd";rw[ij hp];rw[List.length_map,List.length_replicate]at hN;exact k acc hN
 ·walk_at "rd";refine aM ?_;walk_at "rd";intro hz;refine br (fun i Δ M'=>∃(sd:Int) (acc:List Int) (x3:Option D),Δ=[some (D.int c),some (D.lst (List.map D.int (List.replicate n 720720))),some (D.ref p),x3,some (D.int sd)]/\M'=az M p (.lst (acc.map D.int))/\uv i acc/\0<=sd/\sd<2147483700) ⟨_,[],none,rfl,rfl,⟨rfl,fun _ h=>by cases h⟩,by lia,by lia⟩ ?_ ?_
  ·rintro i d Δ M' X hd ⟨sd,acc,x3,rfl,rfl,hN,s0,s1⟩ k';obtain⟨x,hx,rfl⟩:=cC hd;obtain rfl:x=720720:=List.eq_of_mem_replicate (List.mem_of_getElem? hx);have hi:i<n:=by have:=(List.getElem?_eq_some_iff.mp hx).1;simpa using this
   refine⟨_,rfl,?_⟩;walk_at "rd";refine⟨?_,k' _ _ ⟨_,acc++[(sd*69069+12345) % 2147483587*40503 % 2147483563 / 11 % 720720],_,rfl,by rw[List.map_append];rfl,hN.snoc (by lia) (by lia),by lia,by lia⟩⟩;rw[List.length_map,hN.1];exact Nat.lt_of_lt_of_le (by lia:i<1000) (sz3 1000)
  ·rintro Δ M' ⟨sd,acc,x3,rfl,rfl,hN,s0,s1⟩;refine aM ?_;walk_at "rd";rw[ij hp];rw[List.length_map,List.length_replicate]at hN;exact k acc hN
def jb:SpD:=fun ds M R=>∃(xs:List Int) (n:Nat),ds=[.lst (xs.map D.int),.int n]/\n<=xs.length/\n<=10/\(∀x∈xs,0<=x/\x<720720)/\∀cs:List Nat,cs.length=n->cs.Nodup->(∀c∈cs,c∈jO)->R (.lst (cs.map fun c=>D.str (tx [c]))) M
theorem oa(F:Fun K "_law_letters" "_law_letters" dS f fd) (T:Txt mg) :bq P w K mg base CX0 1 f fd ["_law_xs","_law_amount"] (spD K 2 jb):=by
 have nd:=iC.nd;refine F.okR rfl iC (fun cdv A outer s H E hr=>⟨_,(ak (aP (i:=2) nd rfl (Or.inl rfl) lw)
   (ak (aP (i:=3) nd rfl (Or.inr rfl) (fI aj))
   (bJ (ak (fq PassesOwn.never rfl (gp rfl T.b_range (af (ae 1) aj)) (bM (i:=4) nd rfl (Or.inl rfl)) (ak (jX (i:=5) nd rfl rfl rfl (ms:=[false,false,false,true,false,false]) (ag:=["_law_sign"]) (aC rfl (show aE (ai dS) gc _ _=true from by decide +kernel)) rfl (aQ (ae 2)) (ay (i:=6) (show(gc++_).Nodup from by decide +kernel) rfl rfl) (fun _ _ _ _=>(dX (a7 p9 (ae 6) (ae 3) rfl))) (fun _ _ _ _=>(ae 6)))
   (bJ (av (dU (kG (ae 3) (cf cg (ae 5) (aI dO (cf cg (ae 0) (ae 4) (fun _ _=>rfl)) (aH cK rfl T.b_len (by kernel_rfl) (af (ae 5) aj))) (fun _ _=>rfl))))))))
   (bJ (av (oy (ae 3)))))))),fun ds M R _ hS bk=>?_⟩)
 obtain⟨xs,n,rfl,hn,hn10,hx,k⟩:=hS;refine bk ?_;clear bk;walk_at "rd";refine⟨sz3 0,fun p hp=>aM ?_⟩;walk_at "rd";rw[Int.toNat_natCast];refine⟨by lia,by lia,?_⟩;refine br (fun i Δ M'=>∃(cs:List Nat) (x4 x5:Option D),Δ=[some (D.lst (xs.map D.int)),some (D.int n),some (D.str abc),some (D.ref p),x4,x5]/\M'=az M p (.lst (cs.map fun c=>D.str (tx [c])))/\cs.length=i/\cs.Nodup/\∀c∈cs,c∈jO) ⟨[],none,none,rfl,rfl,rfl,List.nodup_nil,fun _ h=>by cases h⟩ ?_ ?_
 ·rintro i d Δ M' X hd ⟨cs,x4,x5,rfl,rfl,hl,hnd,hab⟩ k';obtain⟨hi,rfl⟩:=ig hd;refine⟨_,rfl,?_⟩;walk_at "rd";refine⟨_,if_pos (by rw[uZ,Cz];exact sz3 _),fun hz=>⟨hz,?_⟩⟩;rw[uf];refine aF (fun(c:Nat)=>D.str (tx [c])) (fun c=>!decide (c∈cs)) (fun c=>D.str (tx [c])) (fun Δ=>∃x,Δ=[none,none,none,some (D.ref p),none,none,x]) jO _ _ (fun c hc Δ hΔ=>?_) ⟨none,rfl⟩ ?_
  ·obtain⟨x,rfl⟩:=hΔ;refine⟨_,rfl,⟨_,rfl⟩,fun Q1 q=>?_,fun _ Q2 q=>?_⟩
   ·walk_at "rd";refine⟨_,if_pos ⟨rfl,by rw[List.all_map,List.all_eq_true];intro _ _;rfl⟩,_,rfl,?_⟩;rw[A3,Bool.true_xor];exact q
   ·walk_at "rd";exact q
  rw[List.nil_append];have hne:=xv (by lia:cs.length<26);have hin:∀c∈jO.filter (fun c=>!decide (c∈cs)),c∈jO/\c∉cs:=fun c hc=>by
   have:=List.mem_filter.mp hc;exact⟨this.1,by simpa using this.2⟩
  generalize jO.filter (fun c=>!decide (c∈cs))=aK at hne hin;refine aM ?_;walk_at "rd";rw[Int.zero_add];obtain⟨x,hx'⟩:∃x,xs[i]?=some x:=⟨_,List.getElem?_eq_getElem (by lia)⟩;have hx2:=hx x (List.mem_of_getElem? hx');have hm0:0<=x % (aK.length:Int):=Int.emod_nonneg _ (by lia);have hm1:x % (aK.length:Int)<(aK.length:Int):=Int.emod_lt_of_pos _ (by lia);obtain⟨v,hv⟩:∃v:Nat,x % (aK.length:Int)=(v:Int):=⟨_,(Int.toNat_of_nonneg hm0).symm⟩;have hvl:v<aK.length:=by lia
  refine⟨_,cy (by rw[List.getElem?_map,hx'];rfl),?_⟩;walk_at "rd";rw[List.length_map];refine⟨_,if_pos (by lia),?_⟩;walk_at "rd";rw[hv];have hr:=hin aK[v] (List.getElem_mem _);refine⟨_,cy (by rw[List.getElem?_map,List.getElem?_eq_getElem hvl];rfl),?_,k' _ _ ⟨cs++[aK[v]],_,_,rfl,by rw[List.map_append];rfl,by rw[List.length_append,hl];rfl,?_,fun c hc=>?_⟩⟩
  ·rw[List.length_map];exact Nat.lt_of_lt_of_le (by lia:cs.length<1000) (sz3 1000)
  ·rw[List.nodup_append];refine⟨hnd,by simp,fun u hu w hw=>?_⟩;obtain rfl:w=aK[v]:=by simpa using hw
   rintro rfl;exact hr.2 hu
  ·rcases List.mem_append.mp hc with z|z
   ·exact hab c z
   ·obtain rfl:c=aK[v]:=by simpa using z
    exact hr.1
 ·rintro Δ M' ⟨cs,x4,x5,rfl,rfl,hl,hnd,hab⟩;refine aM ?_;walk_at "rd";rw[ij hp];rw[kT]at hl;exact k cs hl hnd hab
abbrev Sg:=Str×Int
def kS(x:Sg):KD:=.tup [.str x.1,.int x.2]
def kR(r:List Sg):List KD:=r.map kS
theorem zw{r:List Sg}:bT (kR r)=.tup (r.map ax):=by
 unfold bT kR;rw[iu,List.map_map];congr 1
theorem Bi:∀{x y:Sg},kS x=kS y->x=y:=fun {x y} h=>by
 obtain⟨a,b⟩:=x;obtain⟨c,d⟩:=y;simpa[kS]using h
theorem lg{a b:List Sg}(h:kR a=kR b):a=b:=(List.map_inj_right fun _ _ h=>Bi h).mp h
theorem AK{r:List Sg}{n:Nat}:dpK (n+2) (.tup (kR r)):=by
 intro k hk;obtain⟨x,_,rfl⟩:=List.mem_map.mp hk;intro j hj;simp only[List.mem_cons,List.not_mem_nil,or_false]at hj;rcases hj with rfl|rfl
 ·cases n<;>trivial
 ·cases n<;>trivial
theorem wm:∀{a b:List Sg},Cms (kR a) (kR b)
 |[],_=>by simp[kR,Cms]
 |_::_,[]=>by simp[kR,Cms]
 |x::a,y::b=>by
  have ih:=wm (a:=a) (b:=b);simp only[kR,List.map_cons,Cms,kS,Cm,and_true]at ih ⊢;simpa[kS]using ih
theorem qR{rs:List (List Sg)}:Rws (rs.map kR):=⟨fun k hk=>by
 obtain⟨r,_,rfl⟩:=List.mem_map.mp hk;exact AK,fun a ha b hb=>by
 obtain⟨r,_,rfl⟩:=List.mem_map.mp ha;obtain⟨s,_,rfl⟩:=List.mem_map.mp hb;exact wm⟩
theorem vp{rs:List (List Sg)}(h:rs.Nodup):(rs.map kR).Nodup:=by
 unfold List.Nodup at h ⊢;rw[List.pairwise_map];exact h.imp fun ne e=>ne (lg e)
theorem uC{rs qs:List (List Sg)}(h1:rs.Nodup) (h2:qs.Nodup) (e:∀t,t∈rs↔t∈qs):rs.Perm qs:=by
 rw[List.perm_iff_count];intro a;rw[h1.count,h2.count];simp only[e a]
theorem uN{rs qs:List (List Sg)}(h1:rs.Nodup) (h2:qs.Nodup) (e:∀t,t∈rs↔t∈qs):bP (rs.map kR)=bP (qs.map kR):=jt ((uC h1 h2 e).map kR)
theorem ou:∀{ks:List (List KD)},(∀k∈ks,∃r,k=kR r)->∃rs:List (List Sg),ks=rs.map kR
 |[],_=>⟨[],rfl⟩
 |k::ks,h=>by
  obtain⟨r,rfl⟩:=h k (.head _);obtain⟨rs,rfl⟩:=ou fun k hk=>h k (.tail _ hk);exact⟨r::rs,rfl⟩
theorem uq{rs:List (List Sg)}:(rs.map kR).map bT=rs.map fun r=>D.tup (r.map ax):=by
 rw[List.map_map];exact List.map_congr_left fun r _=>zw
def plB(ord:List (Str×Str)) (t:List Sg):Bool:=(List.range (t.length-1)).all fun i=>!cB ord (sg t i) (sg t (i+1))
def pM(k:Nat):D:=.int (k:Int)
theorem vZ{n:Nat}:gP 0 n=(List.range n).map pM:=by
 unfold gP;refine List.map_congr_left fun k _=>?_;show D.int (0+(k:Int))=D.int (k:Int);rw[Int.zero_add]
def kpt(n mask:Nat):List Nat:=(List.range n).filter fun k=>mask / 2 ^ k % 2==1
theorem rH{row:List (Str×Int)}{i:Nat}(h:i<row.length):row[i]?=some (sg row i):=by simp[sg,h]
theorem A0{n mask p:Nat}(h:p∈kpt n mask):p<n:=List.mem_range.mp (List.mem_filter.mp h).1
def Tld(ord:List (Str×Str)) (row:List Sg) (mask:Nat) (t:List Sg):Prop:=t=(kpt row.length mask).map (sg row)/\KpP (cB ord) row 0 (kpt row.length mask)/\plB ord t=true
theorem xb{row:List Sg}{ps:List Nat}(h:∀p∈ps,p<row.length):(ps.map (sg row)).map some=ps.map (row[·]?):=by
 rw[List.map_map];exact List.map_congr_left fun p hp=>(rH (h p hp)).symm
theorem zh{ord:List (Str×Str)}{row t:List Sg}:(∃mask,mask<2 ^ row.length/\Tld ord row mask t)↔Kp (cB ord) row t/\plB ord t=true:=by
 constructor
 ·rintro⟨m,_,rfl,h2,h3⟩;exact⟨by have:=h2.kp _ (xb fun p hp=>A0 hp);rwa [List.drop_zero]at this,h3⟩
 ·rintro⟨h1,h2⟩;obtain⟨ps,p1,p2,p3,p4⟩:=h1.places (row:=row) 0 rfl (Nat.zero_le _);obtain⟨m,m1,m2⟩:=sx (fun k=>decide (k∈ps)) row.length;have e:kpt row.length m=ps:=by
   refine Eq.trans (List.filter_congr fun k hk=>?_) (uE p3 fun p hp=>(p4 p hp).2);rw[Bool.eq_iff_iff,beq_iff_eq];exact m2 k (List.mem_range.mp hk)
  refine⟨m,m1,?_,by rw[e];exact p1,h2⟩;rw[e];have q:=xb fun p hp=>(p4 p hp).2;exact(List.map_inj_right fun a b z=>Option.some.inj z).mp (p2.trans q.symm)
theorem Bz{α:Type}{xs:List α}{f:α->Bool}:zA (.lst (xs.map fun x=>D.bl (f x)))=some (.bl (xs.all f)):=by
 have h1:(xs.map fun x=>D.bl (f x)).all yo=true:=by rw[List.all_map,List.all_eq_true];intro _ _;rfl
 simp only[zA,h1,if_true,List.all_map];rfl
def cns(ord:List (Str×Str)) (row:List Sg):List Nat:=(List.range (row.length-1)).filter fun i=>cB ord (sg row i) (sg row (i+1))
def sJ(row:List Sg) (p:Nat):List Sg:=row.take p++row.drop (p+2)
def i5(ord:List (Str×Str)) (row:List Sg):List (List Sg):=(cns ord row).map (sJ row)
def rwD(r:List Sg):D:=.tup (r.map ax)
theorem gm{rs:List (List Sg)}:(rs.map kR).map bT=rs.map rwD:=uq
theorem A9{row:List Sg}{p:Nat}(h:p+1<row.length):row=row.take p++sg row p::sg row (p+1)::row.drop (p+2):=by
 have e1:row.drop p=sg row p::row.drop (p+1):=by rw[List.drop_eq_getElem_cons (by lia)];simp[sg,show p<row.length by lia]
 have e2:row.drop (p+1)=sg row (p+1)::row.drop (p+2):=by rw[List.drop_eq_getElem_cons h];simp[sg,h]
 rw[<-e2,<-e1,List.take_append_drop]
theorem pR{ord:List (Str×Str)}{row t:List Sg}:t∈i5 ord row↔Cn (cB ord) row t:=by
 unfold i5 cns;rw[List.mem_map];constructor
 ·rintro⟨p,hp,rfl⟩;rw[List.mem_filter,List.mem_range]at hp;exact⟨row.take p,sg row p,sg row (p+1),row.drop (p+2),A9 (by lia),hp.2,rfl⟩
 ·rintro⟨xs,a,b,ys,rfl,hc,rfl⟩;have g1:sg (xs++a::b::ys) xs.length=a:=by simp[sg]
  have g2:sg (xs++a::b::ys) (xs.length+1)=b:=by
   unfold sg;rw[List.getD_eq_getElem?_getD,List.getElem?_append_right (by lia),show xs.length+1-xs.length=1 by lia];rfl
  refine⟨xs.length,?_,?_⟩
  ·rw[List.mem_filter,List.mem_range,g1,g2];exact⟨by simp,hc⟩
  ·unfold sJ;rw[List.take_left',List.drop_append,List.drop_of_length_le (by lia),show xs.length+2-xs.length=2 by lia]
   ·rfl
   ·rfl
theorem B4{ord:List (Str×Str)}{row:List Sg}:((cns ord row).length==0)=plB ord row:=by
 rw[Bool.eq_iff_iff,beq_iff_eq,List.length_eq_zero_iff,cns,List.filter_eq_nil_iff,plB,List.all_eq_true];simp
theorem wz{ord:List (Str×Str)}{row:List Sg}:(i5 ord row).length<=row.length-1:=by
 unfold i5 cns;rw[List.length_map];exact Nat.le_trans (List.length_filter_le _ _) (by rw[List.length_range];exact Nat.le_refl _)
def dg:SpD:=fun ds M R=>∃(ord:List (Str×Str)) (row:List Sg),ds=[.tup (ord.map aN),rwD row]/\ord.length<=500/\row.length<=10/\R (.lst ((cns ord row).map pM)) M
theorem jw(F:Fun K "cancels_in" "cancels_in" cG f fd) (T:Txt mg) (G0:FnD P w K mg base "cancel" 4 3 dH):bq P w K mg base CX0 5 f fd ["order","row"] (spD K 2 dg):=by
 have nd:=fB.nd;refine F.okR rfl fB (fun cdv A outer s H E hr=>⟨_,(av (bG (gU (ms:=[true,true]) (ag:=["place"]) (aC rfl (show aE (ai cG) dF _ _=true from by decide +kernel)) rfl (gp rfl T.b_range (af (aI kE (aH cK rfl T.b_len (by kernel_rfl) (af (ae 1) aj)) am) aj)) (ay (i:=2) (show(dF++_).Nodup from by decide +kernel) rfl rfl) (fun _ _ _ _=>(dX (nW (qd G0 hr (af (ae 0) (af (cf cg (ae 1) (ae 2) (fun _ _=>rfl)) (af (cf cg (ae 1) (aI aY (ae 2) am) (fun _ _=>rfl)) aj))))))) (fun _ _ _ _=>(ae 2))))),fun ds M R _ hS bk=>?_⟩);obtain⟨ord,row,rfl,ho,hl,k⟩:=hS;refine bk ?_;clear bk;simp only[rwD];walk_at "rd";rw[List.length_map,show((row.length:Int)-1).toNat=row.length-1 by lia,vZ];refine⟨by lia,by lia,by rw[List.length_map,List.length_range];exact szB _ (by lia),?_⟩;refine aF pM (fun i=>cB ord (sg row i) (sg row (i+1))) pM (fun Δ=>∃x,Δ=[some (D.tup (ord.map aN)),some (D.tup (row.map ax)),x]) (List.range (row.length-1)) _ _ (fun i hi Δ hΔ=>?_) ⟨none,rfl⟩ k;obtain⟨x,rfl⟩:=hΔ;have hi:=List.mem_range.mp hi;refine⟨_,rfl,⟨_,rfl⟩,fun Q1 q=>?_,fun _ Q2 q=>?_⟩
 ·simp only[pM];walk_at "rd";rw[show((i:Int)+1)=((i+1:Nat):Int)by lia];refine⟨_,iD (by lia),_,iD (by lia),?_⟩;rw[jg];exact⟨ho,_,rfl,q⟩
 ·simp only[pM]at q ⊢;walk_at "rd";exact q
def cn:SpD:=fun ds M R=>∃(ord:List (Str×Str)) (row:List Sg),ds=[.tup (ord.map aN),rwD row]/\ord.length<=500/\row.length<=10/\R (.lst ((i5 ord row).map rwD)) M
theorem eJ(F:Fun K "rows_by_one_cancel" "rows_by_one_cancel" aU f fd) (T:Txt mg) (G4:FnD P w K mg base "cancels_in" 5 2 dg):bq P w K mg base CX0 6 f fd ["order","row"] (spD K 2 cn):=by
 have nd:=cm.nd;refine F.okR rfl cm (fun cdv A outer s H E hr=>⟨_,(av (bG (gU (ms:=[false,true]) (ag:=["place"]) (aC rfl (show aE (ai aU) bA _ _=true from by decide +kernel)) rfl (aQ (qd G4 hr (af (ae 0) (af (ae 1) aj)))) (ay (i:=2) (show(bA++_).Nodup from by decide +kernel) rfl rfl) (fun _ _ _ _=>cL) (fun _ _ _ _=>(aI aY (bL (ae 1) cS (bH (ae 2))) (bL (ae 1) (bH (aI aY (ae 2) am)) cS)))))),fun ds M R _ hS bk=>?_⟩);obtain⟨ord,row,rfl,ho,hl,k⟩:=hS;refine bk ?_;clear bk;simp only[rwD];walk_at "rd";refine⟨ord,row,rfl,ho,hl,?_⟩;walk_at "rd";intro hz;refine⟨hz,aF pM (fun _=>true) (fun p=>rwD (sJ row p)) (fun Δ=>∃x,Δ=[none,some (D.tup (row.map ax)),x]) (cns ord row) _ _ (fun p hp Δ hΔ=>?_) ⟨none,rfl⟩ ?_⟩
 ·obtain⟨x,rfl⟩:=hΔ;refine⟨_,rfl,⟨_,rfl⟩,fun Q1 q=>q,fun _ Q2 q=>?_⟩;simp only[pM];walk_at "rd";rw[show((p:Int)+2)=((p+2:Nat):Int)by lia,gQ,j7,<-List.map_take,<-List.map_drop];refine⟨_,if_pos (by rw[List.length_map,List.length_map,List.length_take,List.length_drop];exact szB _ (by lia)),?_⟩;rw[<-List.map_append];exact q
 ·rw[List.nil_append,List.filter_eq_self.mpr (fun _ _=>rfl)];have e:((cns ord row).map fun p=>rwD (sJ row p))=(i5 ord row).map rwD:=by unfold i5;rw[List.map_map];rfl
  rw[e];exact k
theorem iM{α:Type}{g:GD}{B:BKd}{M:DH}(enc:α->D) (out:α->List D) (Ok:DE->Prop):∀(xs:List α) (Δ:DE) (acc:List D) (Q:List D->DE->DH->Prop),
  (∀x∈xs,∀ Δ,Ok Δ->∃ Δ',g (enc x) Δ=some Δ'/\∀(acc:List D) (Q2:List D->DE->DH->Prop),acc.length+(out x).length<=sizeLine->(∀ Δ'',Ok Δ''->Q2 (acc++out x) Δ'' M)->B Δ' M acc Q2)->Ok Δ ->
  acc.length+(xs.flatMap out).length<=sizeLine->(∀ Δ',Ok Δ'->Q (acc++xs.flatMap out) Δ' M)->gd g uP B (xs.map enc) Δ M acc Q
 |[],Δ,acc,Q,_,ok,_,q=>by
  simp only[List.map_nil,gd];have:=q Δ ok
  rwa [List.flatMap_nil,List.append_nil]at this
 |x::xs,Δ,acc,Q,h,ok,hz,q=>by
  rw[List.flatMap_cons,List.length_append]at hz;rw[List.map_cons];simp only[gd,uP,if_true];obtain⟨Δ',e,h1⟩:=h x (.head _) Δ ok;refine⟨Δ',e,h1 acc _ (by lia) fun Δ'' ok'=>⟨by rw[List.length_append];lia,?_⟩⟩;refine iM enc out Ok xs Δ'' _ Q (fun z hz=>h z (.tail _ hz)) ok' (by rw[List.length_append];lia) fun Δ3 ok3=>?_;have:=q Δ3 ok3
  rwa [List.flatMap_cons,<-List.append_assoc]at this
theorem kf{α β:Type}{f:α->β}:∀l:List α,(l.flatMap fun a=>[f a])=l.map f
 |[]=>rfl
 |a::l=>by rw[List.flatMap_cons,kf l];rfl
def bdR:Nat->Nat
 |0=>1
 |k+1=>bdR k*(9-2*k)
theorem wn:∀k,bdR k<1000
 |0=>by decide
 |1=>by decide
 |2=>by decide
 |3=>by decide
 |4=>by decide
 |5=>by decide
 |k+6=>by
  have:∀j,bdR (j+6)=0:=fun j=>by
   induction j with
   |zero=>decide
   |succ j ih=>show bdR (j+6)*_=0;rw[ih,Nat.zero_mul]
  rw[this];decide
theorem Rt.pre{T:Type}{c:T->T->Bool}{a:Nat}:∀{b:Nat}{r t:List T},Rt c (a+b) r t->∃m,Rt c a r m
 |0,_,t,h=>⟨t,h⟩
 |b+1,_,_,⟨m,h,_⟩=>Rt.pre (b:=b) h
theorem pd{α β:Type}{f:α->List β}{n:Nat}:∀{l:List α},(∀x∈l,(f x).length<=n)->(l.flatMap f).length<=l.length*n
 |[],_=>by simp
 |x::l,h=>by
  rw[List.flatMap_cons,List.length_append,List.length_cons,Nat.succ_mul];have:=h x (.head _);have:=pd (l:=l) fun y hy=>h y (.tail _ hy)
  lia
theorem o3{rs:List (List Sg)}(h:(rs.map kR).Nodup):rs.Nodup:=by
 unfold List.Nodup at h ⊢;rw[List.pairwise_map]at h;exact h.imp fun ne e=>ne (congrArg kR e)
theorem uI(L:List (List Sg)):∃rs:List (List Sg),bP (dN (L.map kR))=rs.map kR/\rs.Nodup/\(∀t,t∈rs↔t∈L)/\rs.length<=L.length:=by
 have hm:∀k,k∈bP (dN (L.map kR))↔k∈L.map kR:=fun k=>by rw[(bx _).mem_iff,kY]
 obtain⟨rs,e⟩:=ou (ks:=bP (dN (L.map kR))) fun k hk=>by
  obtain⟨r,_,rfl⟩:=List.mem_map.mp ((hm k).mp hk);exact⟨r,rfl⟩
 refine⟨rs,e,o3 ?_,fun t=>?_,?_⟩
 ·rw[<-e];exact(bx _).nodup_iff.mpr (tF _)
 ·have:=hm (kR t);rw[e]at this;constructor
  ·intro h;obtain⟨r,hr,e2⟩:=List.mem_map.mp (this.mp (List.mem_map_of_mem h));exact lg e2▸hr
  ·intro h;obtain⟨r,hr,e2⟩:=List.mem_map.mp (this.mpr (List.mem_map_of_mem h));exact lg e2▸hr
 ·have h1:rs.length=(dN (L.map kR)).length:=by rw[<-(bx _).length_eq,e,List.length_map]
  have h2:=fU (L.map kR);rw[List.length_map]at h2
  lia
theorem yg{M:DH}{p:Addr}{o:HD}(h:M p=none):LeM M (az M p o):=fun a u e=>by
 unfold az
 split
 ·rename_i z;rw[z,h]at e;cases e
 ·exact e
theorem Eo:∀x y:Sg,eqD (ax x) (ax y)=decide (x=y):=fun⟨a,b⟩ ⟨c,d⟩=>by
 rw[Bool.eq_iff_iff];simp[ax,eqD,dq]
theorem lG:∀x y:List Sg,eqD (rwD x) (rwD y)=decide (x=y):=fun x y=>by
 simp only[rwD,eqD];exact oO ax Eo
theorem ix(x:List Sg):dLe (rwD x) 59=true:=by
 show bR (x.map ax) 58=true;rw[hV];intro d hd;obtain⟨y,_,rfl⟩:=List.mem_map.mp hd;rfl
theorem zj{pl:List (List Sg)}:∃qs:List (List Sg),bP (pl.map kR)=qs.map kR/\(∀t,t∈qs↔t∈pl)/\qs.length=pl.length:=by
 have hm:∀k,k∈bP (pl.map kR)↔k∈pl.map kR:=fun k=>(bx _).mem_iff;obtain⟨qs,e⟩:=ou (ks:=bP (pl.map kR)) fun k hk=>by
  obtain⟨r,_,rfl⟩:=List.mem_map.mp ((hm k).mp hk);exact⟨r,rfl⟩
 refine⟨qs,e,fun t=>?_,?_⟩
 ·have:=hm (kR t);rw[e]at this;constructor
  ·intro h;obtain⟨r,hr,e2⟩:=List.mem_map.mp (this.mp (List.mem_map_of_mem h));exact lg e2▸hr
  ·intro h;obtain⟨r,hr,e2⟩:=List.mem_map.mp (this.mpr (List.mem_map_of_mem h));exact lg e2▸hr
 ·have:=(bx (pl.map kR)).length_eq;rw[e,List.length_map,List.length_map]at this;exact this
theorem Dm(ord:List (Str×Str)) (row:List Sg):∃pl:List (List Sg),pl.Nodup/\(∀t,t∈pl↔Kp (cB ord) row t/\plB ord t=true)/\pl.length<=2 ^ row.length:=by
 classical
 refine⟨dN (((List.range (2 ^ row.length)).map fun m=>(kpt row.length m).map (sg row)).filter fun t=>decide (Kp (cB ord) row t/\plB ord t=true)),tF _,fun t=>?_,?_⟩
 ·rw[kY,List.mem_filter,decide_eq_true_eq,and_iff_right_iff_imp];intro h;obtain⟨m,hm,e,_⟩:=zh.mpr h;exact List.mem_map.mpr ⟨m,List.mem_range.mpr hm,e.symm⟩
 ·refine Nat.le_trans (fU _) (Nat.le_trans (List.length_filter_le _ _) ?_);rw[List.length_map,List.length_range];exact Nat.le_refl _
theorem ny(ord:List (Str×Str)) (row:List Sg):∃qs:List (List Sg),∃pl:List (List Sg),pl.Nodup/\(∀t,t∈pl↔Kp (cB ord) row t/\plB ord t=true)/\pl.length<=2 ^ row.length/\bP (pl.map kR)=qs.map kR/\(∀t,t∈qs↔t∈pl)/\qs.length=pl.length:=by
 obtain⟨pl,h1,h2,h3⟩:=Dm ord row;obtain⟨qs,e,e2,e3⟩:=zj (pl:=pl);exact⟨qs,pl,h1,h2,h3,e,e2,e3⟩
def plR(ord:List (Str×Str)) (row:List Sg):List (List Sg):=(ny ord row).choose
section
variable{ord:List (Str×Str)}{row:List Sg}
theorem vK{pl:List (List Sg)}(h1:pl.Nodup) (h2:∀t,t∈pl↔Kp (cB ord) row t/\plB ord t=true):bP (pl.map kR)=(plR ord row).map kR:=by
 obtain⟨pl',n,i,_,e,_⟩:=(ny ord row).choose_spec;exact(uN h1 n fun t=>by rw[h2,i]).trans e
theorem bZ{t:List Sg}:t∈plR ord row↔Kp (cB ord) row t/\plB ord t=true:=by
 obtain⟨pl',n,i,_,_,e,_⟩:=(ny ord row).choose_spec;exact(e t).trans (i t)
theorem zE:(plR ord row).length<=2 ^ row.length:=by
 obtain⟨pl',n,i,l,_,_,e⟩:=(ny ord row).choose_spec;exact e▸l
theorem CD:(plR ord row).Nodup:=by
 obtain⟨pl',n,i,_,e,_⟩:=(ny ord row).choose_spec;refine o3 ?_;show(List.map kR (ny ord row).choose).Nodup;rw[<-e];exact(bx _).nodup_iff.mpr (vp n)
end
def dh:SpD:=fun ds M R=>∃(ord:List (Str×Str)) (row:List Sg),ds=[.tup (ord.map aN),rwD row]/\ord.length<=500/\row.length<=10/\R (.lst ((plR ord row).map rwD)) M
theorem jE(F:Fun K "plain_rows" "plain_rows" bK f fd) (T:Txt mg) (G5:FnD P w K mg base "rows_by_one_cancel" 6 2 cn) (G4:FnD P w K mg base "cancels_in" 5 2 dg):bq P w K mg base CX0 7 f fd ["order","row"] (spD K 2 dh):=by
 have nd:=fj.nd;refine F.okR rfl fj (fun cdv A outer s H E hr=>⟨_,(ak (aP (i:=2) nd rfl (Or.inl rfl) (fI aj))
   (ak (aP (i:=3) nd rfl (Or.inl rfl) (nr (af (ae 1) aj)))
   (ak (oe PassesOwn.never (a7 zW (aH cK rfl T.b_len (by kernel_rfl) (af (ae 3) aj)) am nbh) (ak (dU (xc (ae 2) (gU (ms:=[true,false,false,false]) (ag:=["one"]) (aC rfl (show aE (ai bK) bu _ _=true from by decide +kernel)) rfl (aQ (ae 3)) (ay (i:=4) (show(bu++_).Nodup from by decide +kernel) rfl rfl) (fun _ _ _ _=>(dX (a7 (uh hr.units) (aH cK rfl T.b_len (by kernel_rfl) (af (qd G4 hr (af (ae 0) (af (ae 4) aj))) aj)) am nbh))) (fun _ _ _ _=>(ae 4)))))
   (av (aP (i:=3) nd rfl (Or.inl rfl) (Fz rfl hr.units rfl T.b_sorted rfl T.b_set (DV (ms:=[true,false,false,false]) (ag:=["one","shorter"]) (aC rfl (show aE (ai bK) bu _ _=true from by decide +kernel)) rfl (aQ (ae 3)) (ay (i:=4) (show(bu++_).Nodup from by decide +kernel) rfl rfl) (fun _ _ _ _=>cL) (fun _ _ _ _=>(aQ (qd G5 hr (af (ae 0) (af (ae 4) aj))))) (ay (i:=5) (show(bu++_).Nodup from by decide +kernel) rfl rfl) (fun _ _ _ _=>cL) (fun _ _ _ _=>(ae 5))))))))
   (av (kL (aH (jR hr.units) rfl T.b_sorted (by kernel_rfl) (af (ae 2) aj))))))),fun ds M R _ hS bk=>?_⟩)
 obtain⟨ord,row,rfl,ho,hl,k⟩:=hS;refine bk ?_;clear bk;walk_at "rd";refine⟨sz3 0,fun q hq=>⟨sz3 1,?_⟩⟩;refine⟨fun m Δ M'=>∃(kk:Nat) (rs pl:List (List Sg)),Δ=[some (D.tup (ord.map aN)),some (rwD row),some (D.ref q),some (D.lst (rs.map rwD))]/\M'=az M q (.lst (pl.map rwD))/\rs.Nodup/\(∀t,t∈rs↔Rt (cB ord) kk row t)/\pl.Nodup/\(∀t,t∈pl↔plB ord t=true/\∃j,j<kk/\Rt (cB ord) j row t)/\rs.length<=bdR kk/\pl.length<=1000*kk/\2*kk<=row.length+2/\m=row.length+2-2*kk,
  ⟨_,0,[row],[],rfl,rfl,by simp,fun t=>by simp[Rt,eq_comm],.nil,fun t=>by simp,Nat.le_refl 1,by simp,by lia,rfl⟩,?_⟩
 intro m Δ M' hI;refine shr fun _ bk=>?_;obtain⟨kk,rs,pl,rfl,rfl,hn,hr',hpn,hp,hb,hpl,hk2,rfl⟩:=hI;refine bk ?_;clear bk;walk_at "rd";rw[List.length_map];refine lN (fun h=>?_) (fun h=>?_)
 ·have bv:∀r∈rs,r.length+2*kk=row.length:=fun r hr=>((hr' r).mp hr).len.symm;have h2k:2*kk<=row.length:=by
   obtain⟨r,hr⟩:∃r,r∈rs:=by
    cases rs with
    |nil=>simp at h
    |cons r rs=>exact⟨r,.head _⟩
   have:=bv r hr;lia
  have hbl:=wn kk;intro hz;refine⟨hz,aF rwD (plB ord) rwD (fun Δ=>∃x,Δ=[some (D.tup (ord.map aN)),none,none,none,x]) rs _ _ (fun r hr Δ hΔ=>?_) ⟨none,rfl⟩ ?_⟩
  ·obtain⟨x,rfl⟩:=hΔ;refine⟨_,rfl,⟨_,rfl⟩,fun Q1 q=>?_,fun _ Q2 q=>?_⟩
   ·have:=bv r hr;walk_at "rd";refine⟨ord,r,rfl,ho,by lia,?_⟩;walk_at "rd";rw[List.length_map];have e:(((cns ord r).length:Int)==0)=plB ord r:=by
     rw[<-B4,Bool.eq_iff_iff,beq_iff_eq,beq_iff_eq];lia
    rw[e];exact q
   ·walk_at "rd";exact q
  ·rw[List.nil_append];have hfl:=List.length_filter_le (plB ord) rs;refine⟨pl.map rwD,ar,by rw[List.length_map,List.length_map];exact szB _ (by lia),fun _=>?_⟩;rw[l7,<-List.map_append];have hol:(rs.flatMap (i5 ord)).length<=bdR (kk+1):=by
    refine Nat.le_trans (pd (n:=9-2*kk) fun r hr=>Nat.le_trans wz (by have:=bv r hr;lia)) ?_;exact Nat.mul_le_mul_right _ hb
   have hbl2:=wn (kk+1);have eo:(rs.flatMap fun r=>(i5 ord r).map rwD)=(rs.flatMap (i5 ord)).map rwD:=by rw[List.map_flatMap]
   refine iM rwD (fun r=>(i5 ord r).map rwD) (fun Δ=>∃a b,Δ=[some (D.tup (ord.map aN)),none,none,none,a,b]) _ _ _ _ ?_ ⟨_,_,rfl⟩ (by rw[eo,List.length_map,List.length_nil,Nat.zero_add];exact szB _ (by lia)) ?_
   ·rintro r hr Δ ⟨a,b,rfl⟩;have hlr:=bv r hr;refine⟨_,rfl,fun acc Q2 hz2 k2=>?_⟩;simp only[rg];walk_at "rd";refine⟨ord,r,rfl,ho,by lia,?_⟩;walk_at "rd";intro hz3;refine iM rwD (fun t=>[rwD t]) (fun Δ=>∃b,Δ=[some (D.tup (ord.map aN)),none,none,none,some (rwD r),b]) _ _ _ _ ?_ ⟨_,rfl⟩ (by rw[kf];exact hz2) (by rintro Δ' ⟨b,rfl⟩;rw[kf];exact k2 _ ⟨_,_,rfl⟩);rintro t ht Δ ⟨b,rfl⟩;refine⟨_,rfl,fun acc4 Q4 hz5 k4=>?_⟩;simp only[rQ];walk_at "rd";exact k4 _ ⟨_,rfl⟩
   ·rintro Δ' -
    rw[List.nil_append,eo];obtain⟨rs',e1,n1,n2,n3⟩:=uI (rs.flatMap (i5 ord));refine⟨(rs.flatMap (i5 ord)).map kR,gm.symm,qR,fun k hk=>?_,by rw[List.length_map];lia,row.length+2-2*(kk+1),by lia,kk+1,rs',by rw[e1,gm],pl++rs.filter (plB ord),rfl,n1,fun t=>?_,?_,fun t=>?_,by lia,by rw[List.length_append];lia,by lia,rfl⟩
    ·obtain⟨r,_,rfl⟩:=List.mem_map.mp hk;exact AK
    ·rw[n2 t,List.mem_flatMap];constructor
     ·rintro⟨r,hr,ht⟩;exact⟨r,(hr' r).mp hr,pR.mp ht⟩
     ·rintro⟨r,hr,ht⟩;exact⟨r,(hr' r).mpr hr,pR.mpr ht⟩
    ·rw[List.nodup_append];refine⟨hpn,hn.filter _,fun a ha b hb=>?_⟩;rintro rfl;obtain⟨_,j,j1,j2⟩:=(hp a).mp ha;have l1:=j2.len;have l2:=bv a (List.mem_filter.mp hb).1
     lia
    ·rw[List.mem_append,hp t,List.mem_filter,hr' t];constructor
     ·rintro(⟨z,j,j1,j2⟩|⟨z1,z2⟩)
      ·exact⟨z,j,by lia,j2⟩
      ·exact⟨z2,kk,by lia,z1⟩
     ·rintro⟨z,j,j1,j2⟩
      by_cases e:j=kk
      ·subst e;exact .inr ⟨j2,z⟩
      ·exact .inl ⟨z,j,by lia,j2⟩
 ·have hr0:rs=[]:=by
   cases rs with
   |nil=>rfl
   |cons r rs=>exact absurd (by simp) h
  subst hr0;have hall:∀t,t∈pl↔Kp (cB ord) row t/\plB ord t=true:=fun t=>by
   rw[hp t,<-xK,and_comm];constructor
   ·rintro⟨⟨j,_,j2⟩,z⟩;exact⟨⟨j,j2⟩,z⟩
   ·rintro⟨⟨j,j2⟩,z⟩;refine⟨⟨j,?_,j2⟩,z⟩;rcases Nat.lt_or_ge j kk with c|c
    ·exact c
    ·obtain⟨b,rfl⟩:∃b,j=kk+b:=⟨j-kk,by lia⟩;obtain⟨m,hm⟩:=j2.pre;exact absurd ((hr' m).mpr hm) (by simp)
  refine⟨_,by rw[<-gm];exact lD qR,M,yg hq,?_⟩;rw[vK hpn hall,gm];exact k
def wsh(row:List (Str×Int)):List (Str×Int):=row.reverse.map fun x=>(x.1,x.2+1)
def dv:SpD:=fun ds M Q=>∃row:List (Str×Int),ds=[.tup (row.map ax)]/\row.length<=24/\Q (.tup ((wsh row).map ax)) M
theorem jL(F:Fun K "right_wish" "right_wish" cp f fd) (T:Txt mg) :bq P w K mg base CX0 1 f fd ["row"] (spD K 1 dv):=by
 have nd:=ff.nd;refine F.okR rfl ff (fun cdv A outer s H E hr=>⟨_,(av (bG (dB gz rfl T.b_tuple (by kernel_rfl) (af (gU (ms:=[false]) (ag:=["mark","turn"]) (aC (n0:=0) rfl (show aE (ai cp) cv _ _=true from by decide +kernel)) rfl (vi rfl T.b_reversed (af (ae 0) aj)) (eY (n:=2) rfl (ba (ay (i:=1) (show(cv++_).Nodup from by decide +kernel) rfl rfl) (ba (ay (i:=2) (show(cv++_).Nodup from by decide +kernel) rfl rfl) eN))) (fun _ _ _ _=>cL) (fun _ _ _ _=>(cJ (af (ae 1) (af (aI aY (ae 2) am) aj))))) aj)))),fun ds M R _ hS bk=>?_⟩);obtain⟨row,rfl,hl,k⟩:=hS;refine bk ?_;clear bk;walk_at "rd";intro hz;refine⟨by rw[List.length_reverse];exact hz,?_⟩;rw[<-List.map_reverse];refine aF ax (fun _=>true) (fun x=>ax (x.1,x.2+1)) (fun Δ=>∃x y,Δ=[none,x,y]) _ _ _ (fun m hm Δ hΔ=>?_) ⟨none,none,rfl⟩ ?_
 ·obtain⟨x,y,rfl⟩:=hΔ;refine⟨_,rfl,⟨_,_,rfl⟩,fun Q1 q=>q,fun _ Q2 q=>?_⟩;walk_at "rd";exact⟨sz3 2,q⟩
 ·rw[List.nil_append,List.filter_eq_self.mpr (fun _ _=>rfl)];unfold wsh at k;rw[List.map_map]at k;exact k
def kM:SpD:=fun ds M Q=>∃row:List (Str×Int),ds=[.tup (row.map ax)]/\row.length<=24/\Q (.tup ((row.reverse.map fun x=>(x.1,-x.2)).map ax)) M
theorem oS(F:Fun K "mirror" "mirror" eM f fd) (T:Txt mg) :bq P w K mg base CX0 1 f fd ["row"] (spD K 1 kM):=by
 have nd:=jj.nd;refine F.okR rfl jj (fun cdv A outer s H E hr=>⟨_,(av (bG (dB gz rfl T.b_tuple (by kernel_rfl) (af (gU (ms:=[false]) (ag:=["mark","turn"]) (aC (n0:=0) rfl (show aE (ai eM) eX _ _=true from by decide +kernel)) rfl (vi rfl T.b_reversed (af (ae 0) aj)) (eY (n:=2) rfl (ba (ay (i:=1) (show(eX++_).Nodup from by decide +kernel) rfl rfl) (ba (ay (i:=2) (show(eX++_).Nodup from by decide +kernel) rfl rfl) eN))) (fun _ _ _ _=>cL) (fun _ _ _ _=>(cJ (af (ae 1) (af (Fq Fv (ae 2)) aj))))) aj)))),fun ds M R _ hS bk=>?_⟩);obtain⟨row,rfl,hl,k⟩:=hS;refine bk ?_;clear bk;walk_at "rd";intro hz;refine⟨by rw[List.length_reverse];exact hz,?_⟩;rw[<-List.map_reverse];refine aF ax (fun _=>true) (fun x=>ax (x.1,-x.2)) (fun Δ=>∃x y,Δ=[none,x,y]) _ _ _ (fun m hm Δ hΔ=>?_) ⟨none,none,rfl⟩ ?_
 ·obtain⟨x,y,rfl⟩:=hΔ;refine⟨_,rfl,⟨_,_,rfl⟩,fun Q1 q=>q,fun _ Q2 q=>?_⟩;walk_at "rd";exact⟨sz3 2,q⟩
 ·rw[List.nil_append,List.filter_eq_self.mpr (fun _ _=>rfl)];rw[List.map_map]at k;exact k
abbrev aS:Pos:=⟨85,39,85,57⟩
abbrev lq:Str:="cancels_by.<locals>."++"<lambda>"
theorem xM{T p:Addr}{pos:Pos}{q:Str}{M:DH}{o:HD}(h:dM T pos q M) (hp:M p=none):dM T pos q (az M p o):=by
 rcases h with h|⟨c,h1,h2⟩
 ·exact .inl (by rw[aw (fun z=>by rw[z,hp]at h;cases h)];exact h)
 ·exact .inr ⟨c,by rw[aw (fun z=>by rw[z,hp]at h1;cases h1)];exact h1,by rw[aw (fun z=>by rw[z,hp]at h2;cases h2)];exact h2⟩
theorem yH{T:Addr}{pos:Pos}{q:Str}{M M1 M2:DH}(h:jA T pos q M1 M2) (hT:dM T pos q M) (hle:LeM M M1):∃M3,jA T pos q M M3/\LeM M3 M2/\∀a,M1 a≠none->M a=none->M3 a=none:=by
 rcases h with rfl|⟨c,h1,h2,rfl⟩
 ·exact⟨M,.inl rfl,hle,fun _ _ h=>h⟩
 ·have hc:M c=none:=hle.none h1;have hTT:M T=some (jK T pos none):=by
   rcases hT with h|⟨d,h,_⟩
   ·exact h
   ·have:=hle T _ h;exact h.trans (this.symm.trans h2)
  refine⟨_,.inr ⟨c,hc,hTT,rfl⟩,fun a o e=>?_,fun a n1 n2=>?_⟩
  case refine_2 =>
   have a1:a≠c:=fun z=>n1 (z▸h1);have a2:a≠T:=fun z=>by rw[z,hTT]at n2;cases n2
   rw[aw a1,aw a2];exact n2
  unfold az at e ⊢
  split
  ·rename_i z;rw[if_pos z]at e;exact e
  ·rename_i z;rw[if_neg z]at e
   split
   ·rename_i z2;rw[if_pos z2]at e;exact e
   ·rename_i z2;rw[if_neg z2]at e;exact hle a o e
theorem uy{many b e:Nat}(hbe:b<e) (he:e<many) {p:Nat->Bool}(pb:p b=true) (pe:p e=true) (mid:∀x,b<x->x<e->p x=false) :
  ∃A B,(List.range many).filter p=A++b::e::B/\((List.range many).filter fun x=>p x&&(x != b&&x != e))=A++B/\b∉A:=by
 have er:List.range many=List.range' 0 b++b::(List.range' (b+1) (e-b-1)++e::List.range' (e+1) (many-e-1)):=by
  rw[List.range_eq_range',show many=b+((e-b-1)+(many-e-1+1)+1)by lia,<-List.range'_append_1,Nat.zero_add,List.range'_succ,<-List.range'_append_1,show b+1+(e-b-1)=e by lia,List.range'_succ];rw[show b+(e-b-1+(many-e-1+1)+1)-e-1=many-e-1 by lia]
 have f1:(List.range' (b+1) (e-b-1)).filter p=[]:=List.filter_eq_nil_iff.mpr fun x hx=>by
  rw[List.mem_range'_1]at hx;simp[mid x (by lia) (by lia)]
 have f2:((List.range' (b+1) (e-b-1)).filter fun x=>p x&&(x != b&&x != e))=[]:=List.filter_eq_nil_iff.mpr fun x hx=>by
  rw[List.mem_range'_1]at hx;simp[mid x (by lia) (by lia)]
 have g1:((List.range' 0 b).filter fun x=>p x&&(x != b&&x != e))=(List.range' 0 b).filter p:=List.filter_congr fun x hx=>by
  rw[List.mem_range'_1]at hx;have h1:(x != b)=true:=by simp;lia
  have h2:(x != e)=true:=by simp;lia
  rw[h1,h2];simp
 have g2:((List.range' (e+1) (many-e-1)).filter fun x=>p x&&(x != b&&x != e))=(List.range' (e+1) (many-e-1)).filter p:=List.filter_congr fun x hx=>by
  rw[List.mem_range'_1]at hx;have h1:(x != b)=true:=by simp;lia
  have h2:(x != e)=true:=by simp;lia
  rw[h1,h2];simp
 refine⟨(List.range' 0 b).filter p,(List.range' (e+1) (many-e-1)).filter p,?_,?_,fun h=>?_⟩
 ·rw[er,List.filter_append,List.filter_cons_of_pos pb,List.filter_append,f1,List.nil_append,List.filter_cons_of_pos pe]
 ·rw[er,List.filter_append,g1,List.filter_cons_of_neg (by simp),List.filter_append,f2,List.nil_append,List.filter_cons_of_neg (by simp),g2]
 ·have:=(List.mem_filter.mp h).1;rw[List.mem_range'_1]at this
  lia
theorem nX.all{R:Str×Int->Str×Int->Bool}{row:List (Str×Int)}{arcs:List (Nat×Nat)}(h:nX R row arcs) {x:Nat}(hx:x<row.length):∃a∈arcs,x=a.1∨x=a.2:=by
 have nd:∀{l:List (Nat×Nat)},(∀a∈l,a.1<a.2)->(l.Pairwise fun a b=>a.1<b.1/\b.1≠a.2/\b.2≠a.2)->(l.flatMap fun a=>[a.1,a.2]).Nodup:=by
  intro l
  induction l with
  |nil=>intro _ _;exact List.nodup_nil
  |cons a l ih =>
   intro h1 h2;rw[List.pairwise_cons]at h2;rw[List.flatMap_cons,List.nodup_append];have ha:=h1 a (.head _);refine⟨by simp;lia,ih (fun b hb=>h1 b (.tail _ hb)) h2.2,fun u hu v hv=>?_⟩;obtain⟨b,hb,hv⟩:=List.mem_flatMap.mp hv;have hab:=h2.1 b hb;have hb2:=h1 b (.tail _ hb);simp only[List.mem_cons,List.not_mem_nil,or_false]at hu hv;rcases hu with rfl|rfl<;>rcases hv with rfl|rfl<;>lia
 have hl:∀l:List (Nat×Nat),(l.flatMap fun a=>[a.1,a.2]).length=2*l.length:=by
  intro l
  induction l with
  |nil=>rfl
  |cons a l ih=>rw[List.flatMap_cons,List.length_append,ih];simp;lia
 have hN:=nd (fun a ha=>(h.arc a ha).1) (h.pw.imp fun z=>⟨z.1,z.2.1,z.2.2.1⟩)
 by_cases c:x∈arcs.flatMap fun a=>[a.1,a.2]
 ·obtain⟨a,ha,hv⟩:=List.mem_flatMap.mp c;simp only[List.mem_cons,List.not_mem_nil,or_false]at hv;exact⟨a,ha,hv⟩
 ·exfalso;have:=eA (x::arcs.flatMap fun a=>[a.1,a.2]) (List.range row.length) (List.nodup_cons.mpr ⟨c,hN⟩) fun y hy=>by
   rw[List.mem_range];rcases List.mem_cons.mp hy with rfl|hy
   ·exact hx
   ·obtain⟨a,ha,hv⟩:=List.mem_flatMap.mp hy;have:=h.arc a ha;simp only[List.mem_cons,List.not_mem_nil,or_false]at hv;rcases hv with rfl|rfl<;>lia
  rw[List.length_cons,hl,List.length_range,h.len]at this
  lia
theorem nX.apart{R:Str×Int->Str×Int->Bool}{row:List (Str×Int)}{arcs:List (Nat×Nat)}(h:nX R row arcs) {a b:Nat×Nat}(ha:a∈arcs) (hb:b∈arcs) (hne:a≠b) :
  a.1≠b.1/\a.1≠b.2/\a.2≠b.1/\a.2≠b.2/\¬ (a.1<b.1/\b.1<a.2/\a.2<b.2)/\¬ (b.1<a.1/\a.1<b.2/\b.2<a.2):=by
 have key:∀{l:List (Nat×Nat)},(l.Pairwise fun a b=>a.1<b.1/\b.1≠a.2/\b.2≠a.2/\¬ (b.1<a.2/\a.2<b.2))->a∈l->b∈l->(a.1<b.1/\b.1≠a.2/\b.2≠a.2/\¬ (b.1<a.2/\a.2<b.2))∨(b.1<a.1/\a.1≠b.2/\a.2≠b.2/\¬ (a.1<b.2/\b.2<a.2)):=by
  intro l
  induction l with
  |nil=>intro _ z;cases z
  |cons c l ih =>
   intro hp h1 h2;rw[List.pairwise_cons]at hp;rcases List.mem_cons.mp h1 with e1|k1
   ·rcases List.mem_cons.mp h2 with e2|k2
    ·exact absurd (e1.trans e2.symm) hne
    ·exact .inl (e1▸hp.1 b k2)
   ·rcases List.mem_cons.mp h2 with e2|k2
    ·exact .inr (e2▸hp.1 a k1)
    ·exact ih hp.2 k1 k2
 have a1:=(h.arc a ha).1;have b1:=(h.arc b hb).1;rcases key h.pw ha hb with z|z<;>lia
theorem leU{M M':DH}{p:Addr}{o:HD}(h:LeM M M') (hp:M p=none):LeM M (az M' p o):=fun a u e=>by
 unfold az
 split
 ·rename_i z;rw[z,hp]at e;cases e
 ·exact h a u e
def qg(T:Addr) (M M':DH):Prop:=dM T aS lq M'/\∀a o,M a=some o->a≠T->M' a=some o
theorem qg.tr{T:Addr}{M M1 M2:DH}(h1:qg T M M1) (h2:qg T M1 M2):qg T M M2:=⟨h2.1,fun a o e n=>h2.2 a o (h1.2 a o e n) n⟩
theorem FW{T:Addr}{M M1:DH}(hT:dM T aS lq M) (h:jA T aS lq M M1):qg T M M1:=⟨h.tab hT,fun a o e n=>h.keep n e⟩
theorem sW{l:List (Nat×Nat)}:l.map stD=(l.map stI).map jH:=by rw[List.map_map];rfl
def qZ(many:Nat) (l:List (Nat×Nat)) (x:Nat):Bool:=!(l.any fun a=>decide (a.2<many)&&(a.1==x || a.2==x))
def lft(many:Nat) (l:List (Nat×Nat)):List Nat:=(List.range many).filter (qZ many l)
theorem zq{many:Nat}:lft many []=List.range many:=List.filter_eq_self.mpr fun _ _=>rfl
theorem CU{many:Nat}{l:List (Nat×Nat)}{a:Nat×Nat}(h:¬ a.2<many):lft many (l++[a])=lft many l:=by
 unfold lft;refine List.filter_congr fun x _=>?_;unfold qZ;rw[List.any_append];simp[h]
theorem xG{R:Str×Int->Str×Int->Bool}{row:List (Str×Int)}{arcs L:List (Nat×Nat)}{many:Nat}(h:nX R row arcs) (hm:many<=row.length) (hp:L.Perm arcs) (hs:L.Pairwise fun x y=>x.2<=y.2) {i:Nat}{a:Nat×Nat}(hi:L[i]?=some a) (ha:a.2<many) :
  ∃A B,lft many (L.take i)=A++a.1::a.2::B/\lft many (L.take (i+1))=A++B/\a.1∉A:=by
 have haL:a∈arcs:=hp.mem_iff.mp (List.mem_of_getElem? hi);have h1:=h.arc a haL;have nd:arcs.Nodup:=by
  rw[List.nodup_iff_pairwise_ne];exact h.pw.imp fun z e=>by rw[e]at z;lia
 have ndL:L.Nodup:=hp.nodup_iff.mpr nd;have hil:i<L.length:=(List.getElem?_eq_some_iff.mp hi).1;have hia:L[i]=a:=by
  have:=List.getElem?_eq_getElem hil;rw[hi]at this;exact(Option.some.inj this).symm
 have nin:a∉L.take i:=fun z=>by
  obtain⟨j,hj,e⟩:=List.mem_take_iff_getElem.mp z;have hj2:j<i:=by lia
  have:=(List.getElem_inj (h₀:=by lia) (h₁:=hil) ndL).mp (e.trans hia.symm)
  lia
 have oth:∀b∈L.take i,b∈arcs/\a≠b:=fun b hb=>⟨hp.mem_iff.mp (List.mem_of_mem_take hb),fun z=>nin (z▸hb)⟩;have free:∀x,(x=a.1∨x=a.2)->qZ many (L.take i) x=true:=fun x hx=>by
  unfold qZ;rw[Bool.not_eq_true',List.any_eq_false];intro b hb;obtain⟨b1,b2⟩:=oth b hb;have:=h.apart haL b1 b2;simp;intro _;rcases hx with rfl|rfl<;>lia
 obtain⟨A,B,e1,e2,e3⟩:=uy (many:=many) (p:=qZ many (L.take i)) h1.1 ha (free _ (.inl rfl)) (free _ (.inr rfl)) fun x x1 x2=>by
  obtain⟨b,hb,hx⟩:=h.all (x:=x) (by lia);have hbn:a≠b:=fun z=>by rw[<-z]at hx;lia
  have hap:=h.apart haL hb hbn;have b1:=h.arc b hb;have hb2:b.2<a.2:=by rcases hx with rfl|rfl<;>lia
  obtain⟨j,hj,ej⟩:=List.getElem_of_mem (hp.mem_iff.mpr hb);have hji:j<i:=by
   rcases Nat.lt_or_ge j i with z|z
   ·exact z
   ·exfalso;rcases Nat.lt_or_ge i j with y|y
    ·have:=List.pairwise_iff_getElem.mp hs i j hil hj y;rw[hia,ej]at this;lia
    ·have:i=j:=by lia
     subst this;exact hbn (hia.symm.trans ej)
  unfold qZ;rw[Bool.not_eq_false',List.any_eq_true];refine⟨b,List.mem_take_iff_getElem.mpr ⟨j,by lia,ej⟩,?_⟩;simp;exact⟨by lia,by rcases hx with rfl|rfl<;>simp⟩
 refine⟨A,B,e1,?_,e3⟩;rw[<-e2];unfold lft;refine List.filter_congr fun x _=>?_;unfold qZ;rw[List.take_add_one,hi,List.any_append];rw[Bool.eq_iff_iff];simp[ha];intro _;constructor
 ·rintro⟨v,w⟩;exact⟨fun z=>v z.symm,fun z=>w z.symm⟩
 ·rintro⟨v,w⟩;exact⟨fun z=>v z.symm,fun z=>w z.symm⟩
theorem Co{A B:List Nat}{b:Nat}(h:b∉A) (hl:(A++b::B).length<=1000):rK ((A++b::B).map fun(k:Nat)=>D.int (k:Int)) (.int (b:Int))=some A.length:=by
 unfold rK;rw[if_pos ⟨rfl,by rw[hV];intro d hd;obtain⟨x,_,rfl⟩:=List.mem_map.mp hd;rfl,by rw[List.length_map];lia⟩];rw[List.map_append,List.map_cons,List.findIdx?_append];have n1:List.findIdx? (fun d=>eqD d (D.int (b:Int))) (A.map fun(k:Nat)=>D.int (k:Int))=none:=by
  rw[List.findIdx?_eq_none_iff];intro d hd;obtain⟨x,hx,rfl⟩:=List.mem_map.mp hd;have:x≠b:=fun z=>h (z▸hx);simp[eqD];lia
 rw[n1];simp[List.findIdx?_cons,eqD]
def fT(Tb:Addr):SpD:=fun ds M R=>∃(arcs:List (Nat×Nat)) (many:Nat) (row:List (Str×Int)) (c:Str×Int->Str×Int->Bool),ds=[.tup (arcs.map stD),.int many]/\nX c row arcs/\many<=row.length/\row.length<=24/\dM Tb aS lq M/\∀l M',jA Tb aS lq M M'->l.length<=100->R (.lst l) M'
theorem jM(F:Fun K "cancels_by" "cancels_by" dD f fd) (T:Txt mg) {cc Tb:Addr} (hC:PySem.W.CodeHd base cc Tb) (hB:base.BuiltinsAt mg Tb) (hcode:fd.code=.ref cc) :bq P w K mg base CX0 1 f fd ["arcs","many"] (spD K 2 (fT Tb)):=by
 have nd:=fc.nd;refine F.okRC hcode rfl fc (fun A outer s H E hr=>⟨_,(ak (aP (i:=2) nd rfl (Or.inl rfl) (nZ rfl rfl T.b_list rfl T.b_range (af (ae 1) aj)))
   (ak (aP (i:=3) nd rfl (Or.inl rfl) (fI aj))
   (ak (fq PassesOwn.never rfl (aQ (yk (c:=cc) (T:=Tb) hr.units hr.depth rfl T.b_sorted (af (ae 0) aj) hC hB rfl rfl rfl rfl (fun _ _ _ _=>rfl) rfl (by decide) rfl rfl rfl (by decide))) (tu rfl (fY (bM (i:=4) nd rfl (Or.inl rfl)) (fY (bM (i:=5) nd rfl (Or.inl rfl)) tD))) (av (ft (a7 rR (ae 5) (ae 1) nbh) (ak (aP (i:=6) nd rfl (Or.inl rfl) (Cg hr.units (ae 2) (ae 4)))
   (ak (dU (kG (ae 3) (cJ (af lw (af (ae 6) aj)))))
   (av (Ct (ae 2) (bH (ae 6)) (bH (aI aY (ae 6) am)))))) c0)))
   (nU 3 (av (kL (ae 3))))))),fun ds M R _ hS bk=>?_⟩)
 obtain⟨arcs,many,row,c,rfl,hD,hmr,h24,hT,k⟩:=hS;refine bk ?_;clear bk;have hal:arcs.length<=12:=by have:=hD.len;lia
 walk_at "rd";refine⟨by lia,by lia,fun l hl=>⟨sz3 0,fun p hp=>⟨arcs.map stI,sW,by rw[List.length_map];lia,xM (xM hT hl) hp,fun arcs' M2 hP hs hS hz=>?_⟩⟩⟩;have hlp:l≠p:=fun z=>by rw[z,ar]at hp;cases hp
 have hpM:M p=none:=by rw[aw (Ne.symm hlp)]at hp;exact hp
 obtain⟨L,pL,rfl⟩:=k9 hP arcs rfl;have hs':L.Pairwise fun x y=>x.2<=y.2:=by
  rw[List.pairwise_map]at hs;exact hs.imp fun z=>Int.ofNat_le.mp z
 have hTl:Tb≠l:=fun z=>by
  rcases hT with h|⟨_,h,_⟩<;>rw[z,hl]at h<;>cases h
 have hTp:Tb≠p:=fun z=>by
  rcases hT with h|⟨_,h,_⟩<;>rw[z,hpM]at h<;>cases h
 have m1:M2 l=some (.lst ((lft many (L.take 0)).map fun(k:Nat)=>D.int (k:Int))):=by
  refine hS.keep (Ne.symm hTl) ?_;rw[aw hlp,ar,List.take_zero,zq,Int.toNat_natCast];congr 2;unfold gP;exact List.map_congr_left fun x _=>by rw[Int.zero_add]
 have m2:M2 p=some (.lst []):=hS.keep (Ne.symm hTp) ar;obtain⟨M3,hS3,hle3,hn3⟩:=yH hS hT (fun a o e=>by
  have n1:a≠l:=fun z=>by rw[z,hl]at e;cases e
  have n2:a≠p:=fun z=>by rw[z,hpM]at e;cases e
  rw[aw n2,aw n1];exact e)
 have n3l:M3 l=none:=hn3 l (by rw[aw hlp,ar];simp) hl;have n3p:M3 p=none:=hn3 p (by rw[ar];simp) hpM;rw[<-sW];refine br (fun i Δ M'=>∃x4 x5 x6 ws,Δ=[some (D.tup (arcs.map stD)),some (D.int many),some (D.ref l),some (D.ref p),x4,x5,x6]/\LeM M3 M'/\M' l=some (.lst ((lft many (L.take i)).map fun(k:Nat)=>D.int (k:Int)))/\M' p=some (.lst ws)/\ws.length<=i) ⟨none,none,none,[],rfl,hle3,m1,m2,Nat.le_refl _⟩ ?_ ?_
 ·rintro i d Δ M' X hd ⟨x4,x5,x6,ws,rfl,hle,hMl,hMp,hwl⟩ k';obtain⟨a,hi,rfl⟩:=cC hd;have hil:i<L.length:=(List.getElem?_eq_some_iff.mp hi).1;rw[pL.length_eq]at hil;refine⟨_,rfl,?_⟩;walk_at "rd";refine lN (fun ha=>?_) (fun ha=>?_)
  ·obtain⟨A,B,e1,e2,e3⟩:=xG hD hmr pL hs' hi (Int.ofNat_lt.mp ha);have bv:(A++a.1::a.2::B).length<=many:=by
    rw[<-e1];unfold lft;exact Nat.le_trans (List.length_filter_le _ _) (Nat.le_of_eq List.length_range)
   have er:rdM M' (D.ref l)=.lst ((A++a.1::a.2::B).map fun(k:Nat)=>D.int (k:Int)):=by simp only[rdM,hMl,e1]
   rw[er];have hl1:az M' p (HD.lst (ws++[D.tup [D.str (Str.ofString "cancel"),D.int (A.length:Int)]])) l=some (.lst ((A++a.1::a.2::B).map fun(k:Nat)=>D.int (k:Int))):=by rw[aw hlp,hMl,e1]
   refine⟨⟨_,rfl⟩,_,rfl,_,Co e3 (by lia),_,hMp,sz3 2,_,hMp,Nat.lt_of_lt_of_le (by lia:_<1000) (sz3 1000),_,hl1,by lia,by lia,?_,k' _ _ ⟨_,_,_,ws++[D.tup [D.str (Str.ofString "cancel"),D.int (A.length:Int)]],rfl,leU (leU hle n3p) n3l,?_,?_,?_⟩⟩
   ·rw[List.length_map,List.length_append,List.length_cons,List.length_cons];lia
   ·rw[ar,e2,Int.toNat_natCast,show((A.length:Int)+2).toNat=A.length+2 by lia,<-List.map_take,<-List.map_drop,List.take_left,List.map_append];congr 3;rw[show A.length+2=(A++[a.1,a.2]).length by simp,show A++a.1::a.2::B=(A++[a.1,a.2])++B by simp,List.drop_left]
   ·rw[aw (Ne.symm hlp),ar]
   ·rw[List.length_append,List.length_singleton];lia
  ·refine k' _ _ ⟨_,_,_,ws,rfl,hle,?_,hMp,by lia⟩;rw[hMl,List.take_add_one,hi];show _=some (HD.lst (((lft many (L.take i++[a]))).map _));rw[CU (fun z=>ha (Int.ofNat_lt.mpr z))]
 ·rintro Δ M' ⟨x4,x5,x6,ws,rfl,hle,hMl,hMp,hwl⟩;walk_at "rd";rw[List.length_map,pL.length_eq]at hwl;refine⟨ws,hMp,M3,fun a o e=>?_,k ws M3 hS3 (by lia)⟩;have:a≠p:=fun z=>by rw[z,n3p]at e;cases e
  rw[nS this];exact hle a o e
theorem yW{ds:List D}{i:Nat}{d:D}(h:(lK 0 ds)[i]?=some d):∃e,ds[i]?=some e/\d=.tup [.int (i:Int),e]:=by
 rw[j4]at h;cases e:ds[i]? with
 |none=>rw[e]at h;cases h
 |some x =>
  rw[e,Option.map_some,Nat.zero_add]at h;exact⟨x,rfl,(Option.some.inj h).symm⟩
def gG:SpD:=fun ds M R=>∃(sts:List (Nat×Nat)) (one other:List (Str×Int)),ds=[.lst (sts.map stD),.tup (one.map ax),.tup (other.map ax)]/\(∀s∈sts,s.1<one.length/\s.2<other.length)/\sts.length<=100/\∀l,l.length<=100->R (.lst l) M
theorem l6(F:Fun K "orders_by" "orders_by" cT f fd) (T:Txt mg) :bq P w K mg base CX0 1 f fd ["strands","one","other"] (spD K 3 gG):=by
 have nd:=fL.nd;refine F.okR rfl fL (fun cdv A outer s H E hr=>⟨_,(av (bG (gU (ms:=[false,true,true]) (ag:=["place","begin","at"]) (aC rfl (show aE (ai cT) bU _ _=true from by decide +kernel)) rfl (uW rfl T.b_enumerate (af (ae 0) aj)) (eY (n:=2) rfl (ba (ay (i:=3) (show(bU++_).Nodup from by decide +kernel) rfl rfl) (ba (eY (n:=2) rfl (ba (ay (i:=4) (show(bU++_).Nodup from by decide +kernel) rfl rfl) (ba (ay (i:=5) (show(bU++_).Nodup from by decide +kernel) rfl rfl) eN))) eN))) (fun _ _ _ _=>(dX (a7 (B2 hr.units) (cf cg (cf cg (ae 1) (ae 4) (fun _ _=>rfl)) am (fun _ _=>rfl)) (cf cg (cf cg (ae 2) (ae 5) (fun _ _=>rfl)) am (fun _ _=>rfl)) nbh))) (fun _ _ _ _=>(cJ (af lw (af (ae 3) (af (cf cg (cf cg (ae 2) (ae 5) (fun _ _=>rfl)) am (fun _ _=>rfl)) aj)))))))),fun ds M R _ hS bk=>?_⟩);obtain⟨sts,one,other,rfl,hs,hl,k⟩:=hS;refine bk ?_;clear bk;walk_at "rd";refine fun hz=>⟨by rw[ik];exact hz,?_⟩;refine iy (fun i acc Δ M'=>M'=M/\(∃x y z,Δ=[none,some (.tup (one.map ax)),some (.tup (other.map ax)),x,y,z])/\acc.length<=i) ⟨rfl,⟨none,none,none,rfl⟩,Nat.le_refl _⟩ ?_ ?_
 ·rintro i d acc Δ M' X hd ⟨rfl,⟨x,y,z,rfl⟩,hacc⟩ k';obtain⟨e,he,rfl⟩:=yW hd;obtain⟨s,hs',rfl⟩:=cC he;have hb:=hs s (List.mem_of_getElem? hs');refine⟨_,rfl,?_⟩;walk_at "rd";refine⟨_,iD hb.1,_,rfl,_,iD hb.2,_,rfl,_,xy,_,rfl,lN (fun _=>⟨_,iD hb.2,_,rfl,sz3 3,k' _ _ _ ⟨rfl,⟨_,_,_,rfl⟩,?_⟩⟩) (fun _=>k' _ _ _ ⟨rfl,⟨_,_,_,rfl⟩,by lia⟩)⟩;rw[List.length_append,List.length_singleton];lia
 ·rintro acc Δ M' ⟨rfl,_,hacc⟩;rw[ik,List.length_map]at hacc;exact k acc (by lia)
def fV:SpD:=fun ds M R=>∃(sts prs:List (Nat×Nat)) (other:List (Str×Int)),ds=[.lst (sts.map stD),.lst (prs.map stD),.tup (other.map ax)]/\(∀s∈prs,s.1<other.length/\s.2<other.length)/\sts.length<=20/\prs.length<=20/\∀l,l.length<=100->R (.lst l) M
theorem jN(F:Fun K "growths_by" "growths_by" bO f fd) (T:Txt mg) :bq P w K mg base CX0 1 f fd ["strands","pairs","other"] (spD K 3 fV):=by
 have nd:=fh.nd;refine F.okR rfl fh (fun cdv A outer s H E hr=>⟨_,(ak (xt (i:=3) nd rfl rfl rfl (ms:=[false,false,false,false,false,false,false,false]) (ag:=["begin","at"]) (aC rfl (show aE (ai bO) bt _ _=true from by decide +kernel)) rfl (aQ (ae 0)) (eY (n:=2) rfl (ba (ay (i:=8) (show(bt++_).Nodup from by decide +kernel) rfl rfl) (ba (ay (i:=9) (show(bt++_).Nodup from by decide +kernel) rfl rfl) eN))) (fun _ _ _ _=>cL) (fun _ _ _ _=>(ae 9)))
   (ak (aP (i:=4) nd rfl (Or.inl rfl) (fI aj))
   (ak (fq PassesOwn.never rfl (aQ (aH (jR hr.units) rfl T.b_sorted (by kernel_rfl) (af (ae 1) aj))) (tu rfl (fY (bM (i:=5) nd rfl (Or.inr rfl)) (fY (bM (i:=6) nd rfl (Or.inl rfl)) tD))) (ak (aP (i:=7) nd rfl (Or.inl rfl) (A2 (aH cK rfl T.b_len (by kernel_rfl) (af (gU (ms:=[false,false,false,false,false,true,false,false]) (ag:=["at"]) (aC rfl (show aE (ai bO) bt _ _=true from by decide +kernel)) rfl (aQ (ae 3)) (ay (i:=8) (show(bt++_).Nodup from by decide +kernel) rfl rfl) (fun _ _ _ _=>(dX (a7 rR (ae 8) (ae 5) nbh))) (fun _ _ _ _=>(ae 8))) aj))))
   (ak (dU (kG (ae 4) (cJ (af lw (af (ae 7) (af (cf cg (ae 2) (ae 5) (fun _ _=>rfl)) (af (cf cg (ae 2) (ae 6) (fun _ _=>rfl)) aj)))))))
   (av (dU (xc (ae 3) (nr (af (ae 5) (af (ae 6) aj)))))))))
   (nU 4 (av (kL (ae 4))))))),fun ds M R _ hS bk=>?_⟩)
 obtain⟨sts,prs,other,rfl,hs,hl,hl2,k⟩:=hS;refine bk ?_;clear bk;walk_at "rd";refine fun hz=>⟨hz,aF stD (fun _=>true) (fun s=>D.int (s.2:Int)) (fun Δ=>∃x y,Δ=[none,none,none,none,none,none,none,none,x,y]) sts _ _ (fun s hs' Δ hΔ=>?_) ⟨none,none,rfl⟩ ?_⟩
 ·obtain⟨x,y,rfl⟩:=hΔ;refine⟨_,rfl,⟨_,_,rfl⟩,fun Q1 q=>q,fun _ Q2 q=>?_⟩;walk_at "rd";exact q
 ·rw[List.nil_append,List.filter_eq_self.mpr (fun _ _=>rfl)];intro p hp;refine⟨sz3 0,fun q hq=>?_⟩;have hpq:p≠q:=fun z=>by rw[z,ar]at hq;cases hq
  have hqM:M q=none:=by rw[aw (Ne.symm hpq)]at hq;exact hq
  obtain⟨qs,eqs,hperm,_⟩:=tM prs;refine⟨_,eqs,_,rfl,fun hz2=>?_⟩;refine br (fun i Δ M'=>∃x5 x6 x7 ts ws,Δ=[some (D.lst (sts.map stD)),some (D.lst (prs.map stD)),some (D.tup (other.map ax)),some (D.ref p),some (D.ref q),x5,x6,x7]/\LeM M M'/\M' p=some (.lst (ts.map D.int))/\M' q=some (.lst ws)/\ws.length<=i/\ts.length<=20+2*i) ⟨none,none,none,sts.map (fun s=>(s.2:Int)),[],rfl,leU (leU LeM.refl hp) hqM,by rw[aw hpq,ar,List.map_map];rfl,ar,Nat.le_refl _,by rw[List.length_map];lia⟩ ?_ ?_
  ·rintro i d Δ M' X hd ⟨x5,x6,x7,ts,ws,rfl,hle,hMp,hMq,hwl,htl⟩ k';obtain⟨a,ha,rfl⟩:=cC hd;have hil:=(List.getElem?_eq_some_iff.mp ha).1;rw[hperm.length_eq]at hil;have hb':=hs a (hperm.mem_iff.mp (List.mem_of_getElem? ha));have er:rdM M' (D.ref p)=.lst (ts.map D.int):=by simp only[rdM,hMp]
   refine⟨_,rfl,?_⟩;walk_at "rd";refine⟨_,rfl,_,by rw[er];rfl,fun hz3=>⟨hz3,aF D.int (fun t=>decide (t<(a.1:Int))) D.int (fun Δ=>∃x,Δ=[none,none,none,none,none,some (D.int (a.1:Int)),none,none,x]) ts _ _ (fun t ht Δ hΔ=>?_) ⟨none,rfl⟩ ⟨rfl,rfl,_,hMq,_,iD hb'.1,_,iD hb'.2,sz3 4,_,hMq,Nat.lt_of_lt_of_le (by lia:_<1000) (sz3 1000),_,by rw[aw hpq];exact hMp,sz3 2,_,by rw[aw hpq];exact hMp,?_,k' _ _ ⟨_,_,_,ts++[(a.1:Int),(a.2:Int)],_,rfl,leU (leU hle hqM) hp,?_,(aw (Ne.symm hpq)).trans ar,?_,?_⟩⟩⟩⟩
   ·obtain⟨x,rfl⟩:=hΔ;refine⟨_,rfl,⟨_,rfl⟩,fun Q1 q=>?_,fun _ Q2 q=>?_⟩
    ·walk_at "rd";exact q
    ·walk_at "rd";exact q
   ·rw[List.length_map];exact szB _ (by lia)
   ·rw[ar,List.map_append];rfl
   ·rw[List.length_append,List.length_singleton];lia
   ·rw[List.length_append];simp;lia
  ·rintro Δ M' ⟨x5,x6,x7,ts,ws,rfl,hle,hMp,hMq,hwl,htl⟩;rw[List.length_map,hperm.length_eq]at hwl;walk_at "rd";refine⟨ws,hMq,M,fun a o e=>?_,k ws (by lia)⟩;have:a≠q:=fun z=>by rw[z,hqM]at e;cases e
   rw[nS this];exact hle a o e
def ju(Tb:Addr):SpD:=fun ds M R=>∃(arcs:List (Nat×Nat)) (one other:List (Str×Int)) (row:List (Str×Int)) (c:Str×Int->Str×Int->Bool),ds=[.tup (arcs.map stD),.tup (one.map ax),.tup (other.map ax)]/\row.length=one.length+other.length/\row.length<=24/\nX c row arcs/\dM Tb aS lq M/\∀l M',jA Tb aS lq M M'->R (.tup l) M'
theorem oN(F:Fun K "walk_by" "walk_by" cU f fd) (T:Txt mg) {Tb:Addr} (Y2:FnD P w K mg base "growths_by" 1 3 fV) (Y1:FnD P w K mg base "cancels_by" 1 2 (fT Tb)) (Y4:FnD P w K mg base "orders_by" 1 3 gG):bq P w K mg base CX0 2 f fd ["arcs","one","other"] (spD K 3 (ju Tb)):=by
 have nd:=gY.nd;refine F.okR rfl gY (fun cdv A outer s H E hr=>⟨_,(ak (aP (i:=3) nd rfl (Or.inr rfl) (aH cK rfl T.b_len (by kernel_rfl) (af (ae 1) aj)))
   (ak (aP (i:=4) nd rfl (Or.inr rfl) (aI kE (aI aY (ae 3) (aH cK rfl T.b_len (by kernel_rfl) (af (ae 2) aj))) am))
   (ak (jX (i:=5) nd rfl rfl rfl (ms:=[false,false,false,true,true,false,false]) (ag:=["begin","end"]) (aC rfl (show aE (ai cU) bN _ _=true from by decide +kernel)) rfl (aQ (ae 0)) (eY (n:=2) rfl (ba (ay (i:=7) (show(bN++_).Nodup from by decide +kernel) rfl rfl) (ba (ay (i:=8) (show(bN++_).Nodup from by decide +kernel) rfl rfl) eN))) (fun _ _ _ _=>(dX (wL rR EW (ae 7) (ae 3) (ae 8)))) (fun _ _ _ _=>(cJ (af (ae 7) (af (aI kE (ae 4) (ae 8)) aj)))))
   (ak (jX (i:=6) nd rfl rfl rfl (ms:=[false,false,false,true,true,false,false]) (ag:=["begin","end"]) (aC rfl (show aE (ai cU) bN _ _=true from by decide +kernel)) rfl (aQ (ae 0)) (eY (n:=2) rfl (ba (ay (i:=7) (show(bN++_).Nodup from by decide +kernel) rfl rfl) (ba (ay (i:=8) (show(bN++_).Nodup from by decide +kernel) rfl rfl) eN))) (fun _ _ _ _=>(dX (a7 EW (ae 3) (ae 7) nbh))) (fun _ _ _ _=>(cJ (af (aI kE (ae 4) (ae 8)) (af (aI kE (ae 4) (ae 7)) aj)))))
   (av (bG (dB gz rfl T.b_tuple (by kernel_rfl) (af (aI aY (aI aY (qd Y1 hr (af (ae 0) (af (ae 3) aj))) (qd Y4 hr (af (ae 5) (af (ae 1) (af (ae 2) aj))))) (qd Y2 hr (af (ae 5) (af (ae 6) (af (ae 2) aj))))) aj)))))))),fun ds M R _ hS bk=>?_⟩)
 obtain⟨arcs,one,other,row,c,rfl,hl,h24,hD,hT,k⟩:=hS;refine bk ?_;clear bk;have hal:arcs.length<=12:=by have:=hD.len;lia
 walk_at "rd";simp only[List.length_map];have toN:∀a∈arcs,one.length<=a.2->(one.length:Int)+(other.length:Int)-1-(a.2:Int)=((one.length+other.length-1-a.2:Nat):Int):=fun a ha h=>by
  have:=(hD.arc a ha).2.1;lia
 refine fun hz=>⟨hz,aF stD (fun a=>decide (a.1<one.length)&&decide (one.length<=a.2)) (fun a=>stD (a.1,one.length+other.length-1-a.2)) (fun Δ=>∃x y,Δ=[none,none,none,some (.int (one.length:Int)),some (.int ((one.length:Int)+(other.length:Int)-1)),none,none,x,y]) arcs _ _ (fun a ha Δ hΔ=>?_) ⟨none,none,rfl⟩ ?_⟩
 ·obtain⟨x,y,rfl⟩:=hΔ;have ha2:=hD.arc a ha;refine⟨_,rfl,⟨_,_,rfl⟩,fun Q1 q=>?_,fun hb Q2 q=>?_⟩
  ·walk_at "rd";refine lN (fun h1=>?_) (fun h1=>?_)
   ·rw[show decide ((one.length:Int)<=(a.2:Int))=(decide (a.1<one.length)&&decide (one.length<=a.2))by rw[Bool.eq_iff_iff];simp;lia];exact q
   ·rw[show(decide (a.1<one.length)&&decide (one.length<=a.2))=false by simp;lia]at q;exact q
  ·walk_at "rd";simp at hb;rw[toN a ha hb.2];exact⟨sz3 2,q⟩
 ·rw[List.nil_append];intro hz2;refine⟨hz2,aF stD (fun a=>decide (one.length<=a.1)) (fun a=>stD (one.length+other.length-1-a.2,one.length+other.length-1-a.1)) (fun Δ=>∃x y,Δ=[none,none,none,some (.int (one.length:Int)),some (.int ((one.length:Int)+(other.length:Int)-1)),none,none,x,y]) arcs _ _ (fun a ha Δ hΔ=>?_) ⟨none,none,rfl⟩ ?_⟩
  ·obtain⟨x,y,rfl⟩:=hΔ;have ha2:=hD.arc a ha;refine⟨_,rfl,⟨_,_,rfl⟩,fun Q1 q=>?_,fun hb Q2 q=>?_⟩
   ·walk_at "rd";rw[show decide ((one.length:Int)<=(a.1:Int))=decide (one.length<=a.1)by rw[Bool.eq_iff_iff];simp];exact q
   ·walk_at "rd";simp at hb;rw[toN a ha (by lia),show(one.length:Int)+(other.length:Int)-1-(a.1:Int)=((one.length+other.length-1-a.1:Nat):Int)by lia];exact⟨sz3 2,q⟩
  ·rw[List.nil_append];refine⟨arcs,one.length,row,c,rfl,hD,by lia,h24,hT,fun l1 M1 hS1 hl1=>?_⟩;refine⟨(arcs.filter fun a=>decide (a.1<one.length)&&decide (one.length<=a.2)).map (fun a=>(a.1,one.length+other.length-1-a.2)),one,other,by rw[List.map_map];rfl,?_,?_,fun l2 hl2=>?_⟩
   ·intro s hs;obtain⟨a,ha,rfl⟩:=List.mem_map.mp hs;obtain⟨ha1,ha2⟩:=List.mem_filter.mp ha;have:=hD.arc a ha1;simp at ha2 ⊢
    lia
   ·rw[List.length_map];have:=List.length_filter_le (fun a:Nat×Nat=>decide (a.1<one.length)&&decide (one.length<=a.2)) arcs
    lia
   ·refine⟨.lst (l1++l2),(show mB (.lst l1) (.lst l2)=_ from if_pos (szB _ (by lia))),?_⟩;refine⟨(arcs.filter fun a=>decide (a.1<one.length)&&decide (one.length<=a.2)).map (fun a=>(a.1,one.length+other.length-1-a.2)),(arcs.filter fun a=>decide (one.length<=a.1)).map (fun a=>(one.length+other.length-1-a.2,one.length+other.length-1-a.1)),other,by rw[List.map_map,List.map_map];rfl,?_,?_,?_,fun l3 hl3=>?_⟩
    ·intro s hs;obtain⟨a,ha,rfl⟩:=List.mem_map.mp hs;obtain⟨ha1,ha2⟩:=List.mem_filter.mp ha;have:=hD.arc a ha1;simp at ha2 ⊢
     lia
    ·rw[List.length_map];have:=List.length_filter_le (fun a:Nat×Nat=>decide (a.1<one.length)&&decide (one.length<=a.2)) arcs
     lia
    ·rw[List.length_map];have:=List.length_filter_le (fun a:Nat×Nat=>decide (one.length<=a.1)) arcs
     lia
    ·refine⟨.lst (l1++l2++l3),(show mB (.lst (l1++l2)) (.lst l3)=_ from if_pos (szB _ (by rw[List.length_append];lia))),_,rfl,k _ M1 hS1⟩
theorem wH{T:Type}{c:T->T->Bool}{g h:List T}(hg:Gp c g) (hh:Gp c h):Gp c (g++h):=by
 induction hg with
 |nil=>exact hh
 |step hc hx _ _ ih=>rw[List.cons_append,List.append_assoc,List.cons_append];exact .step hc hx ih
theorem xD{α:Type}{f:α->Nat}:∀{l:List α}{x:α},x∈l->f x<=(l.map f).sum
 |y::l,x,h=>by
  rw[List.map_cons,List.sum_cons];rcases List.mem_cons.mp h with rfl|h
  ·lia
  ·have:=xD (f:=f) h;lia
theorem qY{T:Type}{c:T->T->Bool}:∀(n:Nat) (xs:List T),xs.length<=n->(0<W c xs↔Gp c xs)
 |n,[],_=>by rw[sF];exact⟨fun _=>.nil,fun _=>by decide⟩
 |0,x::xs,h=>by simp at h
 |n+1,x::xs,h=>by
  rw[List.length_cons]at h;rw[oG];constructor
  ·intro hp;have:∃d∈fC xs,(if c x d.2.1 then W c d.1*W c d.2.2 else 0)≠0:=by
    by_cases z:∃d∈fC xs,(if c x d.2.1 then W c d.1*W c d.2.2 else 0)≠0
    ·exact z
    ·rw[g7 fun d hd=>by
      by_cases y:(if c x d.2.1 then W c d.1*W c d.2.2 else 0)=0
      ·exact y
      ·exact absurd ⟨d,hd,y⟩ z]at hp
     lia
   obtain⟨d,hd,hne⟩:=this;have hl:=fM hd
   split at hne
   ·rename_i hc;have h1:0<W c d.1:=Nat.pos_of_ne_zero fun z=>hne (by rw[z,Nat.zero_mul]);have h2:0<W c d.2.2:=Nat.pos_of_ne_zero fun z=>hne (by rw[z,Nat.mul_zero]);rw[<-yR hd];exact .step hc ((qY n _ (by lia)).mp h1) ((qY n _ (by lia)).mp h2)
   ·exact absurd rfl hne
  ·intro hg;cases hg with
   |step hc hx hy =>
    rename_i b as bs;have hm:(as,b,bs)∈fC (as++b::bs):=by
     rw[xI];refine List.mem_append_right _ ?_;rw[fC];simp
    rw[List.length_append,List.length_cons]at h;have h1:=(qY n as (by lia)).mpr hx;have h2:=(qY n bs (by lia)).mpr hy;refine Nat.lt_of_lt_of_le (Nat.mul_pos h1 h2) ?_;have:=xD (f:=fun d:List T×T×List T=>if c x d.2.1 then W c d.1*W c d.2.2 else 0) hm;simpa[hc]using this
theorem sE{ord:List (Str×Str)}{r t:List Sg}(h:Kp (cB ord) r t):Gp (cB ord) (r++wsh t):=by
 induction h with
 |nil hg=>rw[show wsh []=[]from rfl,List.append_nil];exact hg
 |@cons t g r ts hg _ ih =>
  have e:wsh (t::ts)=wsh ts++[(t.1,t.2+1)]:=by unfold wsh;simp
  rw[e,List.append_assoc,List.cons_append,<-List.append_assoc];refine wH hg ?_;refine .step (ys:=[]) ?_ ih .nil;simp[cB,zG]
theorem ox(F:Fun K "why_not" "why_not" jm f fd) (T:Txt mg):bq P w K mg base CX0 1 f fd ["order","row"] (spD K 2 rA):=vy
def mP(Tb:Addr):SpD:=fun ds M R=>∃(ord:List (Str×Str)) (one other:List (Str×Int)),ds=[.tup (ord.map aN),.tup (one.map ax),.tup (other.map ax)]/\ord.length<=500/\one.length+other.length<=24/\Kp (cB ord) one other/\dM Tb aS lq M/\∀l M',qg Tb M M'->R (.tup [.str "comes",l]) M'
theorem qA(F:Fun K "comes" "comes" iO f fd) (T:Txt mg) {Tb:Addr} (G2:FnD P w K mg base "drawing_of" 6 2 cw) (G3:FnD P w K mg base "right_wish" 1 1 dv) (Y9:FnD P w K mg base "walk_by" 2 3 (ju Tb)) (Y7:FnD P w K mg base "why_not" 1 2 rA):bq P w K mg base CX0 7 f fd ["order","one","other"] (spD K 3 (mP Tb)):=by
 have nd:=kh.nd;refine F.okR rfl kh (fun cdv A outer s H E hr=>⟨_,(ak (aP (i:=3) nd rfl (Or.inl rfl) (aI aY (ae 1) (qd G3 hr (af (ae 2) aj))))
   (ak (aP (i:=4) nd rfl (Or.inl rfl) (qd G2 hr (af (ae 0) (af (ae 3) aj))))
   (ak (ft (a7 FK (ae 4) wc nbh) (av (bG (cJ (af lw (af (qd Y7 hr (af (ae 0) (af (ae 3) aj))) aj))))) c0)
   (av (bG (cJ (af lw (af (qd Y9 hr (af (ae 4) (af (ae 1) (af (ae 2) aj)))) aj)))))))),fun ds M R _ hS bk=>?_⟩)
 obtain⟨ord,one,other,rfl,ho,h24,hk,hT,k⟩:=hS;refine bk ?_;clear bk;walk_at "rd";have hg:=sE hk;have hw:(wsh other).length=other.length:=by unfold wsh;simp
 have hW:=(qY _ _ (Nat.le_refl _)).mpr hg;have hl:(one++wsh other).length<=24:=by rw[List.length_append,hw];exact h24
 refine⟨other,rfl,by lia,.tup ((one++wsh other).map ax),?_,ord,one++wsh other,rfl,ho,hl,fun z=>by lia,fun _ arcs hD=>?_⟩
 ·rw[List.map_append];exact if_pos (szB _ (by rw[List.length_map,List.length_map,hw];lia))
 ·show if(false ^^ mQ (D.tup (arcs.map stD)))=true then _ else _
  rw[if_neg (by simp[mQ])];exact⟨arcs,one,other,one++wsh other,cB ord,rfl,by rw[List.length_append,hw],hl,hD,hT,fun l M' hS=>⟨sz3 2,k _ M' (FW hT hS)⟩⟩
def kO(x:Sg):Sg:=(x.1,-x.2)
def mir(row:List Sg):List Sg:=row.reverse.map kO
theorem jU(r:List Sg):mir (mir r)=r:=by
 unfold mir;rw[<-List.map_reverse,List.reverse_reverse,List.map_map];refine(List.map_congr_left fun x _=>?_).trans (List.map_id _);simp[kO]
theorem oJ{r:List Sg}:(mir r).length=r.length:=by unfold mir;simp
theorem vN{ord:List (Str×Str)}{a b:Sg}:cB ord (kO b) (kO a)=cB ord a b:=by
 unfold cB kO;simp only
 by_cases h:a.2+1=b.2
 ·have h1:(-b.2+1==-a.2)=true:=by simp;lia
  have h2:(a.2+1==b.2)=true:=by simp;lia
  rw[h1,h2,yI (t:=a.2) (u:=-b.2) (by lia)]
 ·have h1:(-b.2+1==-a.2)=false:=by simp;lia
  have h2:(a.2+1==b.2)=false:=by simp;lia
  rw[h1,h2];rfl
theorem xw{ord:List (Str×Str)}{r:List Sg}(h:Gp (cB ord) r):Gp (cB ord) (mir r):=by
 induction h with
 |nil=>exact .nil
 |@step a b xs ys hc _ _ ihx ihy =>
  have e:mir (a::(xs++b::ys))=mir ys++kO b::(mir xs++kO a::[]):=by unfold mir;simp
  rw[e];exact wH ihy (.step (vN.trans hc) ihx .nil)
theorem xY{T:Type}{c:T->T->Bool}{r ts g:List T}{t:T}(h:Kp c r ts) (hg:Gp c g):Kp c (r++t::g) (ts++[t]):=by
 induction h with
 |nil h0=>exact .cons h0 (.nil hg)
 |cons h0 _ ih=>rw[List.append_assoc,List.cons_append];exact .cons h0 ih
theorem u9{ord:List (Str×Str)}{r t:List Sg}(h:Kp (cB ord) r t):Kp (cB ord) (mir r) (mir t):=by
 induction h with
 |nil hg=>exact .nil (xw hg)
 |@cons t g r ts hg _ ih =>
  have e1:mir (g++t::r)=mir r++kO t::mir g:=by unfold mir;simp
  have e2:mir (t::ts)=mir ts++[kO t]:=by unfold mir;simp
  rw[e1,e2];exact xY ih (xw hg)
theorem xA{r:List Sg}{i:Nat}(h:i<r.length):sg (mir r) i=kO (sg r (r.length-1-i)):=by
 have h1:(mir r)[i]?=some (kO (sg r (r.length-1-i))):=by
  unfold mir;rw[List.getElem?_map,List.getElem?_reverse h,rH (by lia)];rfl
 have h2:=rH (row:=mir r) (i:=i) (by rw[oJ];exact h);rw[h1]at h2;exact(Option.some.inj h2).symm
theorem vF{ord:List (Str×Str)}{t:List Sg}(h:plB ord t=true):plB ord (mir t)=true:=by
 unfold plB at h ⊢;rw[List.all_eq_true]at h ⊢;intro i hi;rw[List.mem_range,oJ]at hi;have:=h (t.length-2-i) (List.mem_range.mpr (by lia));rw[xA (by lia),xA (by lia),show t.length-1-i=t.length-2-i+1 by lia,show t.length-1-(i+1)=t.length-2-i by lia,vN];exact this
theorem yx{ord:List (Str×Str)}{row:List Sg}:bP (((plR ord row).map mir).map kR)=(plR ord (mir row)).map kR:=by
 refine vK ?_ fun t=>?_
 ·rw[List.nodup_iff_pairwise_ne,List.pairwise_map];exact(List.nodup_iff_pairwise_ne.mp CD).imp fun {a b} ne e=>ne (by rw[<-jU a,e,jU])
 ·rw[List.mem_map];constructor
  ·rintro⟨s,hs,rfl⟩;have:=bZ.mp hs;exact⟨u9 this.1,vF this.2⟩
  ·intro h;refine⟨mir t,bZ.mpr ⟨?_,vF h.2⟩,jU t⟩;have:=u9 h.1
   rwa [jU]at this
theorem CQ{T:Type}{c:T->T->Bool}{r:List T}:Kp c r []↔Gp c r:=⟨fun h=>by cases h;assumption,.nil⟩
theorem tL{ord:List (Str×Str)}{row:List Sg}:[]∈plR ord row↔0<W (cB ord) row:=by
 rw[bZ,CQ,qY _ _ (Nat.le_refl _)];exact⟨fun h=>h.1,fun h=>⟨h,rfl⟩⟩
theorem yb{ord:List (Str×Str)}{a b x y t:List Sg}(hx:x∈plR ord a) (hy:y∈plR ord b) (ht:t∈plR ord (x++y)):t∈plR ord (a++b):=by
 obtain⟨n,hn⟩:=(bZ.mp hx).1.rt;obtain⟨m,hm⟩:=(bZ.mp hy).1.rt;obtain⟨k,hk⟩:=(bZ.mp ht).1.rt;have h1:Rt (cB ord) n (a++b) (x++b):=by simpa using Rt.ctx [] b hn
 have h2:Rt (cB ord) m (x++b) (x++y):=by simpa using Rt.ctx x [] hm
 exact bZ.mpr ⟨xK.mp ⟨_,(h1.trans h2).trans hk⟩,(bZ.mp ht).2⟩
theorem AV{r:List Sg}{acc:List (List Sg)}:inF (rwD r) (.lst (acc.map rwD))=some (.bl (decide (r∈acc))):=by
 rw[AX,if_pos ⟨ix r,iG rwD ix⟩,List.any_map];congr 2;rw[Bool.eq_iff_iff,List.any_eq_true,decide_eq_true_eq];constructor
 ·rintro⟨a,ha,e⟩;obtain rfl:a=r:=by simpa[lG]using e
  exact ha
 ·intro h;exact⟨r,h,by simp[lG]⟩
theorem ym{ord:List (Str×Str)}{row:List (Str×Int)}{M:DH}{Q:D->DH->Prop}(ho:ord.length<=500) (hl:row.length<=24) (h:∀x,mQ (rdM M x)=!decide (0<W (cB ord) row)->Q x M):cw [.tup (ord.map aN),.tup (row.map ax)] M Q :=
 ⟨ord,row,rfl,ho,hl,fun z=>h _ (by rw[z];rfl),fun z arcs _=>h _ (by rw[decide_eq_true z];rfl)⟩
def mV(Tb:Addr):SpD:=fun ds M R=>∃(ord:List (Str×Str)) (row:List (Str×Int)),ds=[.tup (ord.map aN),.tup (row.map ax)]/\ord.length<=500/\row.length<=10/\dM Tb aS lq M/\∀M',qg Tb M M'->R (.bl true) M'
theorem qT(F:Fun K "_law_right" "_law_right" gn f fd) (T:Txt mg) {Tb:Addr} (G1:FnD P w K mg base "plain_rows" 7 2 dh) (G2:FnD P w K mg base "drawing_of" 6 2 cw) (Y5:FnD P w K mg base "mirror" 1 1 kM) (ga0:FnD P w K mg base "comes" 7 3 (mP Tb)):bq P w K mg base CX0 8 f fd ["_law_order","_law_row_here"] (spD K 2 (mV Tb)):=by
 have nd:=kU.nd;refine F.okR rfl kU (fun cdv A outer s H E hr=>⟨_,(ak (aP (i:=2) nd rfl (Or.inl rfl) (qd G1 hr (af (ae 0) (af (ae 1) aj))))
   (ak (ft (a7 (B2 hr.units) (nA (AU hr.units) (cJ aj) (ae 2) rfl) (nA zo (qd G2 hr (af (ae 0) (af (ae 1) aj))) wc nbh) nbh) (av (bG uS)) c0)
   (ak (fq PassesOwn.never rfl (aQ (bL (ae 2) cS (bH am))) (bM (i:=3) nd rfl (Or.inl rfl)) (av (ft (BL (AI (a7 zW (aH cK rfl T.b_len (by kernel_rfl) (af (ae 3) aj)) (aH cK rfl T.b_len (by kernel_rfl) (af (ae 1) aj)) nbh) (uX (a7 (B2 hr.units) (cf cg (qd ga0 hr (af (ae 0) (af (ae 1) (af (ae 3) aj)))) am (fun _ _=>rfl)) lw nbh)))) (av (bG uS)) c0)))
   (av (bG (nA (uh hr.units) (qd G1 hr (af (ae 0) (af (qd Y5 hr (af (ae 1) aj)) aj))) (aH (jR hr.units) rfl T.b_sorted (by kernel_rfl) (af (gU (ms:=[false,false,false,false]) (ag:=[]) (aC (n0:=0) rfl (show aE (ai gn) iS _ _=true from by decide +kernel)) rfl (aQ (ae 2)) (ay (i:=3) (show(iS++_).Nodup from by decide +kernel) rfl rfl) (fun _ _ _ _=>cL) (fun _ _ _ _=>(qd Y5 hr (af (ae 3) aj)))) aj)) nbh)))))),fun ds M R _ hS bk=>?_⟩)
 obtain⟨ord,row,rfl,ho,hl,hT,k⟩:=hS;refine bk ?_;clear bk;walk_at "rd";have bv:(plR ord row).length<=1024:=Nat.le_trans zE (Nat.pow_le_pow_right (by decide) hl:2 ^ row.length<=2 ^ 10);refine⟨ord,row,rfl,ho,hl,sz3 0,_,AV (r:=[]),ym ho (by lia) fun x hx=>?_⟩;refine⟨_,xn,_,rfl,?_⟩;rw[hx,if_neg (by rw[show decide ([]∈plR ord row)=decide (0<W (cB ord) row)from decide_eq_decide.mpr tL];simp)];refine⟨_,rfl,_,rfl,fun hz=>?_⟩;rw[show(3:Int)=((3:Nat):Int)from rfl,gQ,<-List.map_take];refine br (fun i Δ M'=>qg Tb M M'/\∃x,Δ=[some (D.tup (ord.map aN)),some (D.tup (row.map ax)),some (D.lst ((plR ord row).map rwD)),x]) ⟨⟨hT,fun _ _ e _=>e⟩,none,rfl⟩ ?_ ?_
 ·rintro i d Δ M' X hd ⟨hK,y,rfl⟩ k';obtain⟨one,h1,rfl⟩:=cC hd;have hm:=bZ.mp (List.mem_of_mem_take (List.mem_of_getElem? h1));have hol:one.length<=row.length:=by obtain⟨n,hn⟩:=hm.1.rt;have:=hn.len;lia
  refine⟨_,rfl,?_⟩;simp only[rwD];walk_at "rd";rw[List.length_map,List.length_map,if_neg (by lia)];refine⟨ord,row,one,rfl,ho,by lia,hm.1,hK.1,fun l M2 hK2=>?_⟩;walk_at "rd";exact k' _ _ ⟨hK.tr hK2,_,rfl⟩
 ·rintro Δ M' ⟨hK,y,rfl⟩;walk_at "rd";refine⟨row,rfl,by lia,ord,mir row,rfl,ho,by rw[oJ];exact hl,fun hz2=>⟨hz2,?_⟩⟩;refine aF rwD (fun _=>true) (fun r=>rwD (mir r)) (fun Δ=>∃x,Δ=[none,none,none,x]) (plR ord row) _ _ (fun one h1 Δ hΔ=>?_) ⟨none,rfl⟩ ?_
  ·obtain⟨x,rfl⟩:=hΔ;have hm:=bZ.mp h1;have hol:one.length<=row.length:=by obtain⟨n,hn⟩:=hm.1.rt;have:=hn.len;lia
   refine⟨_,rfl,⟨_,rfl⟩,fun Q1 q=>q,fun _ Q2 q=>?_⟩;walk_at "rd";exact⟨one,rfl,by lia,q⟩
  ·rw[List.nil_append,List.filter_eq_self.mpr (fun _ _=>rfl)];have e1:(plR ord row).map (fun r=>rwD (mir r))=(((plR ord row).map mir).map kR).map bT:=by rw[gm,List.map_map];rfl
   refine⟨_,by rw[e1];exact lD qR,?_⟩;rw[yx,gm];refine⟨_,zH rwD lG ix,?_⟩;rw[decide_eq_true rfl];exact k M' hK
def tO:SpD:=fun ds M R=>∃(xs:List Int) (ms:List Str),ds=[.lst (xs.map D.int),.lst (ms.map D.str),.int 5]/\6<=xs.length/\(∀x∈xs,0<=x/\x<720720)/\1<=ms.length/\∀row:List (Str×Int),row.length<=5->R (.tup (row.map ax)) M
theorem vd(F:Fun K "_law_row" "_law_row" jS f fd) (T:Txt mg) :bq P w K mg base CX0 1 f fd ["_law_xs","_law_marks","_law_most"] (spD K 3 tO):=by
 have nd:=pE.nd;refine F.okR rfl pE (fun cdv A outer s H E hr=>⟨_,(av (bG (dB gz rfl T.b_tuple (by kernel_rfl) (af (gU (ms:=[false,true,false]) (ag:=["_law_x"]) (aC rfl (show aE (ai jS) og _ _=true from by decide +kernel)) rfl (aQ (bL (ae 0) (bH am) (bH (aI aY am (aI dO (cf cg (ae 0) am (fun _ _=>rfl)) (aI aY (ae 2) am)))))) (ay (i:=3) (show(og++_).Nodup from by decide +kernel) rfl rfl) (fun _ _ _ _=>cL) (fun _ _ _ _=>(cJ (af (cf cg (ae 1) (aI dO (ae 3) (aH cK rfl T.b_len (by kernel_rfl) (af (ae 1) aj))) (fun _ _=>rfl)) (af (aI kE (aI dO (aI oD (ae 3) am) am) am) aj))))) aj)))),fun ds M R _ hS bk=>?_⟩);obtain⟨xs,ms,rfl,hl,hx,hm,k⟩:=hS;obtain⟨x0,h0⟩:∃x,xs[0]?=some x:=⟨_,List.getElem?_eq_getElem (by lia)⟩;refine bk ?_;clear bk;have hx0:=hx x0 (List.mem_of_getElem? h0);walk_at "rd";refine⟨_,(show atI (xs.map D.int) ((0:Nat):Int)=some (D.int x0)from cy (by rw[List.getElem?_map,h0];rfl)),?_⟩;walk_at "rd";obtain⟨n,en⟩:∃n:Nat,1+x0 % 6=((n+1:Nat):Int):=⟨(x0 % 6).toNat,by lia⟩;have ec:L2.dJ (xs.map D.int) (some 1) (some (1+x0 % 6))=((xs.take (n+1)).drop 1).map D.int:=by
  rw[en];unfold L2.dJ;rw[show(1:Int)=((1:Nat):Int)from rfl,HT.sIx_nat,HT.sIx_nat,Nat.min_eq_left (by rw[List.length_map];lia),Nat.min_eq_left (by rw[List.length_map];lia),List.map_drop,List.map_take,List.drop_take]
 rw[ec];have lt:((xs.take (n+1)).drop 1).length=n:=by rw[List.length_drop,List.length_take];lia
 have hn:n<=5:=by lia
 intro hz;refine⟨hz,iy (fun i acc Δ M'=>M'=M/\(∃y,Δ=[none,some (.lst (ms.map D.str)),none,y])/\∃row:List (Str×Int),acc=row.map ax/\row.length=i) ⟨rfl,⟨none,rfl⟩,[],rfl,rfl⟩ ?_ ?_⟩
 ·rintro i d acc Δ M' X hd ⟨rfl,⟨y,rfl⟩,row,rfl,hr'⟩ k';obtain⟨x,hx',rfl⟩:=cC hd;have hxx:=hx x (List.mem_of_mem_take (List.mem_of_mem_drop (List.mem_of_getElem? hx')));obtain⟨m,hmm,hm'⟩:=kN (jh:=ms) (v:=x % (ms.length:Int)) (Int.emod_nonneg _ (by lia)) (Int.emod_lt_of_pos _ (by lia));refine⟨_,rfl,?_⟩;simp only[uP];walk_at "rd";rw[List.length_map];refine⟨_,if_pos (by lia),?_⟩;walk_at "rd";exact⟨_,hm',sz3 2,k' _ _ _ ⟨rfl,⟨_,rfl⟩,row++[(m,x / 8 % 4-1)],by rw[List.map_append];rfl,by rw[List.length_append,hr'];rfl⟩⟩
 ·rintro acc Δ M' ⟨rfl,⟨y,rfl⟩,row,rfl,hr'⟩;rw[List.length_map,lt]at hr';exact k row (by lia)
theorem xi{r:List Sg}{acc:List (List Sg)}:k8 (rwD r) (.lst (acc.map rwD))=some (.bl (!decide (r∈acc))):=by
 rw[v7,if_pos ⟨ix r,iG rwD ix⟩,List.any_map];congr 3;rw[Bool.eq_iff_iff,List.any_eq_true,decide_eq_true_eq];constructor
 ·rintro⟨a,ha,e⟩;obtain rfl:a=r:=by simpa[lG]using e
  exact ha
 ·intro h;exact⟨r,h,by simp[lG]⟩
theorem Dz:qD (.lst [.int 720720]) (.int 21)=some (.lst ((List.replicate 21 (720720:Int)).map D.int)):=by
 have e:qD (.lst [.int 720720]) (.int 21)=if -(2 ^ 63)<=(21:Int)/\(21:Int)<2 ^ 63/\[D.int 720720].length*(21:Int).toNat<=sizeLine then some (.lst (List.replicate (21:Int).toNat [D.int 720720]).flatten)else none:=rfl
 rw[e,if_pos ⟨by decide,by decide,sz3 21⟩];rfl
def S_law(Tb:Addr):SpD:=fun ds M R=>∃ns:List Int,ds=[.scr (ns.map .int)]/\dM Tb aS lq M/\ns.length<=63/\∀M',dM Tb aS lq M'->R (.bl true) M'
theorem CJ(F:Fun K "law" "law" mR f fd) (T:Txt mg) {Tb:Addr} (ga1:FnD P w K mg base "_law_parts" 1 2 nq) (ga3:FnD P w K mg base "_law_row" 1 3 tO) (G1:FnD P w K mg base "plain_rows" 7 2 dh) (Y8:FnD P w K mg base "_law_letters" 1 2 jb) (G3:FnD P w K mg base "right_wish" 1 1 dv) (ga2:FnD P w K mg base "_law_right" 8 2 (mV Tb)):bq P w K mg base CX0 9 f fd ["_law_script"] (spD K 1 (S_law Tb)):=by
 have nd:=wu.nd;refine F.okR rfl wu (fun cdv A outer s H E hr=>⟨_,(ak (fq PassesOwn.never rfl (aQ (aI aY (dB C3 rfl T.b_list (by kernel_rfl) (af (bL (ae 0) cS (bH am)) aj)) (nr (af am aj)))) (bM (i:=1) nd rfl (Or.inl rfl)) (ak (aP (i:=2) nd rfl (Or.inr rfl) (qd ga1 hr (af (ae 1) (af (aI qU (nr (af am aj)) am) aj))))
   (bJ (ak (aP (i:=3) nd rfl (Or.inr rfl) (bL (qd Y8 hr (af (ae 2) (af am aj))) cS (bH (aI aY am (aI dO (cf cg (ae 2) am (fun _ _=>rfl)) am)))))
   (bJ (ak (jX (i:=4) nd rfl rfl rfl (ms:=[false,false,true,true,false,false,false,false,false,false,false,false]) (ag:=["_law_k"]) (aC rfl (show aE (ai mR) ka _ _=true from by decide +kernel)) rfl (gp rfl T.b_range (af am aj)) (ay (i:=12) (show(ka++_).Nodup from by decide +kernel) rfl rfl) (fun _ _ _ _=>cL) (fun _ _ _ _=>(cJ (af (cf cg (ae 3) (aI dO (cf cg (ae 2) (aI aY am (ae 12)) (fun _ _=>rfl)) (aH cK rfl T.b_len (by kernel_rfl) (af (ae 3) aj))) (fun _ _=>rfl)) (af (cf cg (ae 3) (aI dO (aI oD (cf cg (ae 2) (aI aY am (ae 12)) (fun _ _=>rfl)) am) (aH cK rfl T.b_len (by kernel_rfl) (af (ae 3) aj))) (fun _ _=>rfl)) aj)))))
   (bJ (ak (aP (i:=5) nd rfl (Or.inr rfl) (dB gz rfl T.b_tuple (by kernel_rfl) (af (bL (ae 4) cS (bH (aI dO (cf cg (ae 2) am (fun _ _=>rfl)) am))) aj)))
   (bJ (ak (aP (i:=6) nd rfl (Or.inl rfl) (qd ga3 hr (af (bL (ae 2) (bH am) cS) (af (ae 3) (af am aj)))))
   (bJ (ak (aP (i:=7) nd rfl (Or.inl rfl) (qd ga3 hr (af (bL (ae 2) (bH am) cS) (af (ae 3) (af am aj)))))
   (bJ (ak (aP (i:=8) nd rfl (Or.inl rfl) (aI aY (ae 6) (qd G3 hr (af (ae 6) aj))))
   (bJ (ak (ft (vG (nW (aH (AJ rfl) rfl T.b_all (by kernel_rfl) (af (gU (ms:=[false,false,false,false,false,true,false,false,false,false,false,false]) (ag:=["_law_row_here"]) (aC rfl (show aE (ai mR) ka _ _=true from by decide +kernel)) rfl (aQ (nr (af (ae 6) (af (ae 7) (af (aI aY (ae 6) (ae 7)) (af (ae 8) aj)))))) (ay (i:=12) (show(ka++_).Nodup from by decide +kernel) rfl rfl) (fun _ _ _ _=>cL) (fun _ _ _ _=>(qd ga2 hr (af (ae 5) (af (ae 12) aj))))) aj)))) (av (bG uS)) c0)
   (bJ (ak (ft (a7 (wd hr.units) (cJ aj) (qd G1 hr (af (ae 5) (af (ae 8) aj))) rfl) (av (bG uS)) c0)
   (bJ (ak (aP (i:=9) nd rfl (Or.inr rfl) (qd G1 hr (af (ae 5) (af (aI aY (ae 6) (ae 7)) aj))))
   (bJ (av (fq PassesOwn.never rfl (aQ (bL (qd G1 hr (af (ae 5) (af (ae 6) aj))) cS (bH am))) (bM (i:=10) nd rfl (Or.inl rfl)) (av (fq PassesOwn.never rfl (aQ (bL (qd G1 hr (af (ae 5) (af (ae 7) aj))) cS (bH am))) (bM (i:=11) nd rfl (Or.inl rfl)) (av (ft (vG (nW (aH (AJ rfl) rfl T.b_all (by kernel_rfl) (af (gU (ms:=[false,false,false,false,false,false,false,false,false,true,false,false]) (ag:=["_law_row_here"]) (aC rfl (show aE (ai mR) ka _ _=true from by decide +kernel)) rfl (aQ (qd G1 hr (af (ae 5) (af (aI aY (ae 10) (ae 11)) aj)))) (ay (i:=12) (show(ka++_).Nodup from by decide +kernel) rfl rfl) (fun _ _ _ _=>cL) (fun _ _ _ _=>(nA (AU hr.units) (ae 12) (ae 9) rfl))) aj)))) (av (bG uS)) c0)))))))))))))))))))))))))))
   (av (bG uS))),fun ds M R _ hS bk=>?_⟩)
 obtain⟨ns,rfl,hT,hn,k⟩:=hS;refine bk ?_;clear bk;walk_at "rd";obtain⟨ys,hys,hyl⟩:∃ys:List Int,L2.dJ (ns.map D.int) none (some 3)=ys.map D.int/\ys.length<=3:=⟨ns.take 3,by rw[show(3:Int)=((3:Nat):Int)from rfl,gQ,List.map_take],by rw[List.length_take];lia⟩;rw[hys];refine⟨_,rfl,sz3 1,_,if_pos (sz3 _ (by simp;lia)),_,rfl,fun hz=>?_⟩;rw[show ys.map D.int++[D.int 0]=(ys++[0]).map D.int by rw[List.map_append];rfl];refine br (fun i Δ M'=>dM Tb aS lq M'/\∃x1 x2 x3 x4 x5 x6 x7 x8 x9 x10 x11,Δ=[some (D.scr (ns.map D.int)),x1,x2,x3,x4,x5,x6,x7,x8,x9,x10,x11]) ⟨hT,_,_,_,_,_,_,_,_,_,_,_,rfl⟩ ?_ ?_
 ·rintro i d Δ M1 X hd ⟨hT1,x1,x2,x3,x4,x5,x6,x7,x8,x9,x10,x11,rfl⟩ k';obtain⟨c,hc,rfl⟩:=cC hd;refine⟨_,rfl,?_⟩;walk_at "rd";refine⟨sz3 1,_,Dz,c,21,rfl,by decide,fun xs hX=>aM ?_⟩;have at_:∀n:Nat,n<21->∃x,xs[n]?=some x/\0<=x/\x<720720/\atI (xs.map D.int) (n:Int)=some (D.int x):=fun n hn=>by
   have lt:n<xs.length:=by rw[hX.1];exact hn
   have e:=List.getElem?_eq_getElem lt;exact⟨_,e,(hX.2 _ (List.getElem_mem lt)).1,(hX.2 _ (List.getElem_mem lt)).2,cy (by rw[List.getElem?_map,e];rfl)⟩
  walk_at "rd";refine⟨xs,3,rfl,by rw[hX.1];decide,by decide,hX.2,fun cs hcs _ _=>?_⟩;obtain⟨x3',h3,h30,h31,a3⟩:=at_ 3 (by decide);refine⟨_,a3,?_⟩;walk_at "rd";obtain⟨nm,enm⟩:∃n:Nat,1+x3' % 3=((n+1:Nat):Int):=⟨(x3' % 3).toNat,by lia⟩;have em:L2.dJ (cs.map fun c=>D.str (tx [c])) none (some (1+x3' % 3))=((cs.take (nm+1)).map fun c=>tx [c]).map D.str:=by
   rw[enm,gQ,<-List.map_take,List.map_map];rfl
  rw[em];have hm1:1<=((cs.take (nm+1)).map fun c=>tx [c]).length:=by rw[List.length_map,List.length_take];lia
  generalize (cs.take (nm+1)).map (fun c=>tx [c])=ms at hm1;refine aM ?_;walk_at "rd";refine⟨by rw[kT];exact sz3 4,iy (fun i acc Δ M'=>M'=M1/\(∃y,Δ=[none,none,some (.lst (xs.map D.int)),some (.lst (ms.map D.str)),none,none,none,none,none,none,none,none,y])/\∃ps:List (Str×Str),acc=ps.map aN/\ps.length=i) ⟨rfl,⟨none,rfl⟩,[],rfl,rfl⟩ ?_ ?_⟩
  ·rintro j d acc Δ M' X' hd' ⟨rfl,⟨y,rfl⟩,ps,rfl,hps⟩ k2;obtain⟨hj,rfl⟩:=ig hd';obtain⟨x,hx,hx0,hx1,ex⟩:=at_ (4+j) (by lia);obtain⟨m1,_,hm1'⟩:=kN (jh:=ms) (v:=x % (ms.length:Int)) (Int.emod_nonneg _ (by lia)) (Int.emod_lt_of_pos _ (by lia));obtain⟨m2,_,hm2'⟩:=kN (jh:=ms) (v:=x / 8 % (ms.length:Int)) (Int.emod_nonneg _ (by lia)) (Int.emod_lt_of_pos _ (by lia));refine⟨_,rfl,?_⟩;simp only[uP];walk_at "rd";rw[show(4:Int)+(0+(j:Int))=((4+j:Nat):Int)by lia];refine⟨_,ex,?_⟩;walk_at "rd";rw[List.length_map];refine⟨_,if_pos (by lia),_,hm1',_,ex,?_⟩;walk_at "rd";refine⟨_,if_pos (by lia),_,hm2',sz3 2,k2 _ _ _ ⟨rfl,⟨_,rfl⟩,ps++[(m1,m2)],by rw[List.map_append];rfl,by rw[List.length_append,hps];rfl⟩⟩
  rintro acc Δ M' ⟨rfl,⟨y,rfl⟩,ps,rfl,hps⟩;rw[kT]at hps;obtain⟨x8',h8,h80,h81,a8⟩:=at_ 8 (by decide);refine aM ?_;walk_at "rd";refine⟨_,a8,?_⟩;walk_at "rd";obtain⟨no,eno⟩:∃n:Nat,x8' % 5=(n:Int):=⟨(x8' % 5).toNat,by lia⟩;rw[eno,gQ,<-List.map_take];have hol:(ps.take no).length<=500:=by rw[List.length_take];lia
  generalize ps.take no=ord at hol;refine aM ?_;walk_at "rd";rw[show(9:Int)=((9:Nat):Int)from rfl,j7,<-List.map_drop];refine⟨xs.drop 9,ms,rfl,by rw[List.length_drop,hX.1];decide,fun x hx=>hX.2 x (List.mem_of_mem_drop hx),hm1,fun one h1=>aM ?_⟩;walk_at "rd";rw[show(15:Int)=((15:Nat):Int)from rfl,j7,<-List.map_drop];refine⟨xs.drop 15,ms,rfl,by rw[List.length_drop,hX.1];decide,fun x hx=>hX.2 x (List.mem_of_mem_drop hx),hm1,fun other h2=>aM ?_⟩;walk_at "rd";refine⟨one,rfl,by lia,?_⟩;have hw:(wsh one).length=one.length:=by unfold wsh;simp
  refine⟨.tup ((one++wsh one).map ax),?_,?_⟩
  ·rw[List.map_append];exact if_pos (szB _ (by rw[List.length_map,List.length_map,hw];lia))
  refine aM ?_;walk_at "rd";refine⟨_,if_pos (szB _ (by rw[List.length_map,List.length_map];lia)),sz3 4,fun hz4=>⟨hz4,?_⟩⟩;rw[<-List.map_append];show c9 _ _ _ ([one,other,one++other,one++wsh one].map rwD) _ _ _ _;refine iy (fun i acc Δ M2=>dM Tb aS lq M2/\(∃y,Δ=[none,none,none,none,none,some (.tup (ord.map aN)),none,none,none,none,none,none,y])/\acc=List.replicate i (D.bl true)) ⟨hT1,⟨none,rfl⟩,rfl⟩ ?_ ?_
  ·rintro j d acc Δ M2 X' hd' ⟨hT2,⟨y,rfl⟩,rfl⟩ k2;obtain⟨r,hr,rfl⟩:=cC hd';have hrl:r.length<=10:=by
    have:=List.mem_of_getElem? hr;simp only[List.mem_cons,List.not_mem_nil,or_false]at this;rcases this with rfl|rfl|rfl|rfl<;>simp[hw]<;>lia
   refine⟨_,rfl,?_⟩;simp only[uP,rwD];walk_at "rd";refine⟨ord,r,rfl,hol,hrl,hT2,fun M3 hK=>k2 _ _ _ ⟨hK.1,⟨_,rfl⟩,?_⟩⟩;rw[List.replicate_succ']
  rintro acc Δ M2 ⟨hT2,-,rfl⟩;refine⟨.bl true,rfl,_,rfl,?_⟩;rw[if_neg (by simp)];refine aM ?_;walk_at "rd";have hgood:[]∈plR ord (one++wsh one):=tL.mpr ((qY _ _ (Nat.le_refl _)).mpr (sE (Kp.self one)));refine⟨sz3 0,ord,one++wsh one,rfl,hol,by simp[hw];lia,_,xi (r:=[]),_,rfl,?_⟩;rw[decide_eq_true hgood,if_neg (by simp)];refine aM ?_;walk_at "rd";refine⟨.tup ((one++other).map ax),?_,ord,one++other,rfl,hol,by rw[List.length_append];lia,aM ?_⟩
  ·rw[List.map_append];exact if_pos (szB _ (by rw[List.length_map,List.length_map];lia))
  walk_at "rd";refine⟨ord,one,rfl,hol,by lia,?_⟩;walk_at "rd";rw[show(3:Int)=((3:Nat):Int)from rfl,gQ,<-List.map_take];intro hz5;refine br (fun i Δ M3=>dM Tb aS lq M3/\∃y10 y11,Δ=[some (D.scr (ns.map D.int)),some (D.int c),some (D.lst (xs.map D.int)),some (D.lst (ms.map D.str)),some (D.lst (ps.map aN)),some (D.tup (ord.map aN)),some (D.tup (one.map ax)),some (D.tup (other.map ax)),some (D.tup ((one++wsh one).map ax)),some (D.lst ((plR ord (one++other)).map rwD)),y10,y11]) ⟨hT2,_,_,rfl⟩ ?_ ?_
  ·rintro j d Δ M3 X3 hd3 ⟨hT3,y10,y11,rfl⟩ k3;obtain⟨u,hu,rfl⟩:=cC hd3;have hum:=List.mem_of_mem_take (List.mem_of_getElem? hu);have hul:u.length<=one.length:=by obtain⟨n,hn⟩:=(bZ.mp hum).1.rt;have:=hn.len;lia
   refine⟨_,rfl,?_⟩;walk_at "rd";refine⟨ord,other,rfl,hol,by lia,?_⟩;walk_at "rd";rw[gQ,<-List.map_take];intro hz6;refine br (fun i Δ M4=>dM Tb aS lq M4/\∃y11,Δ=[some (D.scr (ns.map D.int)),some (D.int c),some (D.lst (xs.map D.int)),some (D.lst (ms.map D.str)),some (D.lst (ps.map aN)),some (D.tup (ord.map aN)),some (D.tup (one.map ax)),some (D.tup (other.map ax)),some (D.tup ((one++wsh one).map ax)),some (D.lst ((plR ord (one++other)).map rwD)),some (rwD u),y11]) ⟨hT3,_,rfl⟩ ?_ ?_
   ·rintro j2 d Δ M4 X4 hd4 ⟨hT4,y11',rfl⟩ k4;obtain⟨v,hv,rfl⟩:=cC hd4;have hvm:=List.mem_of_mem_take (List.mem_of_getElem? hv);have hvl:v.length<=other.length:=by obtain⟨n,hn⟩:=(bZ.mp hvm).1.rt;have:=hn.len;lia
    refine⟨_,rfl,?_⟩;simp only[rwD];walk_at "rd";refine⟨.tup ((u++v).map ax),?_,ord,u++v,rfl,hol,by rw[List.length_append];lia,?_⟩
    ·rw[List.map_append];exact if_pos (szB _ (by rw[List.length_map,List.length_map];lia))
    refine⟨_,rfl,fun hz7=>⟨hz7,?_⟩⟩;refine aF rwD (fun _=>true) (fun _=>D.bl true) (fun Δ=>∃x,Δ=[none,none,none,none,none,none,none,none,none,some (D.lst ((plR ord (one++other)).map rwD)),none,none,x]) (plR ord (u++v)) _ _ (fun t ht Δ hΔ=>?_) ⟨none,rfl⟩ ?_
    ·obtain⟨x,rfl⟩:=hΔ;refine⟨_,rfl,⟨_,rfl⟩,fun Q1 q=>q,fun _ Q2 q=>?_⟩;walk_at "rd";refine⟨_,AV (r:=t),?_⟩;rw[decide_eq_true (yb hum hvm ht)];exact q
    ·rw[List.nil_append,List.filter_eq_self.mpr (fun _ _=>rfl)];refine⟨_,Bz (f:=fun _=>true),_,rfl,?_⟩;rw[if_neg (by simp)];exact k4 _ _ ⟨hT4,_,rfl⟩
   ·rintro Δ M4 ⟨hT4,y11',rfl⟩;exact k3 _ _ ⟨hT4,_,_,rfl⟩
  ·rintro Δ M3 ⟨hT3,y10,y11,rfl⟩;exact k' _ _ ⟨hT3,_,_,_,_,_,_,_,_,_,_,_,rfl⟩
 ·rintro Δ M1 ⟨hT1,x1,x2,x3,x4,x5,x6,x7,x8,x9,x10,x11,rfl⟩;walk_at "rd";exact k _ hT1
end
theorem Dp:Ek aS lq S_law:=fun T ns R hn hf hR=>⟨ns,rfl,.inl ar,hn,hR⟩
theorem BH{l:PySem.W.OpenLaw}{w:World}{K:PySem.W.Frag}{h:Heap}{mg:Str->Option Value}{fa:Addr}(X:K.In h) (G:h.Ns mainGlobals mg) (hfa:mg "law"=some (.ref fa))
  {f0:Addr} {d0:FuncData}
  {f1:Addr} {d1:FuncData}
  {f2:Addr} {d2:FuncData}
  {f3:Addr} {d3:FuncData}
  {f4:Addr} {d4:FuncData}
  {f5:Addr} {d5:FuncData}
  {f6:Addr} {d6:FuncData}
  {f7:Addr} {d7:FuncData}
  {f8:Addr} {d8:FuncData}
  {f9:Addr} {d9:FuncData}
  {f10:Addr} {d10:FuncData}
  {f11:Addr} {d11:FuncData}
  {f12:Addr} {d12:FuncData}
  {f13:Addr} {d13:FuncData}
  {f14:Addr} {d14:FuncData}
  {f15:Addr} {d15:FuncData}
  {f16:Addr} {d16:FuncData}
  {f17:Addr} {d17:FuncData}
  {f18:Addr} {d18:FuncData}
  {f19:Addr} {d19:FuncData}
  {f20:Addr} {d20:FuncData}
  {f21:Addr} {d21:FuncData}
  {f22:Addr} {d22:FuncData}
  {f23:Addr} {d23:FuncData}
  {f24:Addr} {d24:FuncData}
  {Tb cc:Addr} {cdd:Option Addr} {cvs:Array Value} {csl2:Array (Option Value)} {cfile:Str} {ctf ctg ctt:Tok} {cflags ctext:Int} {cinF:Bool}
  (x0:cb K "reached_from" cO f0 d0)
  (x1:cb K "right_wish" cp f1 d1)
  (x2:cb K "mirror" eM f2 d2)
  (x3:cb K "splits" eO f3 d3)
  (x4:cb K "whole_count" cY f4 d4)
  (x5:cb K "why_not" jm f5 d5)
  (x6:cb K "cancels_by" dD f6 d6)
  (x7:cb K "orders_by" cT f7 d7)
  (x8:cb K "growths_by" bO f8 d8)
  (x9:cb K "_law_parts" iL f9 d9)
  (x10:cb K "_law_letters" dS f10 d10)
  (x11:cb K "_law_row" jS f11 d11)
  (x12:cb K "at_most" fP f12 d12)
  (x13:cb K "stretch_counts" aZ f13 d13)
  (x14:cb K "walk_by" cU f14 d14)
  (x15:cb K "mark_leads" dw f15 d15)
  (x16:cb K "cancel" gL f16 d16)
  (x17:cb K "cancels_in" cG f17 d17)
  (x18:cb K "mates_in" cx f18 d18)
  (x19:cb K "rows_by_one_cancel" aU f19 d19)
  (x20:cb K "drawing_of" cE f20 d20)
  (x21:cb K "plain_rows" bK f21 d21)
  (x22:cb K "comes" iO f22 d22)
  (x23:cb K "_law_right" gn f23 d23)
  (x24:cb K "law" mR f24 d24)
  (z_len:PySem.W.nsIn K mainGlobals "len"=some none)
  (z_tuple:PySem.W.nsIn K mainGlobals "tuple"=some none)
  (z_reversed:PySem.W.nsIn K mainGlobals "reversed"=some none)
  (z_range:PySem.W.nsIn K mainGlobals "range"=some none)
  (z_sorted:PySem.W.nsIn K mainGlobals "sorted"=some none)
  (z_set:PySem.W.nsIn K mainGlobals "set"=some none)
  (z_sum:PySem.W.nsIn K mainGlobals "sum"=some none)
  (z_list:PySem.W.nsIn K mainGlobals "list"=some none)
  (z_enumerate:PySem.W.nsIn K mainGlobals "enumerate"=some none)
  (z_all:PySem.W.nsIn K mainGlobals "all"=some none)
  (t1:d6.code=.ref cc)
  (t2:K.lookup cc=some ⟨.type "code",cdd,.fields cvs,csl2⟩)
  (t3:cvs[11]?=some (.ref Tb))
  (t4:K.lookup Tb=some (PySem.W.tabObj #[]))
  (t5:cvs.getD 18 .none=.str cfile ctf)
  (t6:cvs.getD 7 .none=.int cflags ctg)
  (t7:cvs.getD 9 .none=.bool cinF)
  (t8:cvs.getD 10 .none=.int ctext ctt)
 :∃Tb,K.lookup Tb=some (PySem.W.tabObj #[])/\∃fd:FuncData,(∀(s:Shared) (v:Value),BindsTo s fd ⟨[v],[]⟩ [("_law_script",v)])/\isCodeTable h Tb/\∀base:Heap,(aT K Tb).In base->base.Ns mainGlobals mg->base.BuiltinsAt mg Tb->bq l.prog w (aT K Tb) mg base CX0 9 fa fd ["_law_script"] (spD (aT K Tb) 1 (S_law Tb)):=by
 have T:Txt mg:=⟨PySem.W.mg_none_of X G z_len,PySem.W.mg_none_of X G z_tuple,PySem.W.mg_none_of X G z_reversed,PySem.W.mg_none_of X G z_range,PySem.W.mg_none_of X G z_sorted,PySem.W.mg_none_of X G z_set,PySem.W.mg_none_of X G z_sum,PySem.W.mg_none_of X G z_list,PySem.W.mg_none_of X G z_enumerate,PySem.W.mg_none_of X G z_all⟩;refine⟨Tb,t4,z8 X G hfa x24 (fun _ _ _ _ _ _ _=>rfl) t4 t2 t3 fun base hIn hB=>?_⟩;have hC:PySem.W.CodeHd base cc Tb:=yC hIn t4 t2 t3 t5 t6 t7 t8;have y0:=x0.cut t4;have y1:=x1.cut t4;have y2:=x2.cut t4;have y3:=x3.cut t4;have y4:=x4.cut t4;have y5:=x5.cut t4;have y6:=x6.cut t4;have y7:=x7.cut t4;have y8:=x8.cut t4;have y9:=x9.cut t4;have y10:=x10.cut t4;have y11:=x11.cut t4;have y12:=x12.cut t4;have y13:=x13.cut t4;have y14:=x14.cut t4;have y15:=x15.cut t4;have y16:=x16.cut t4;have y17:=x17.cut t4;have y18:=x18.cut t4;have y19:=x19.cut t4;have y20:=x20.cut t4;have y21:=x21.cut t4;have y22:=x22.cut t4;have y23:=x23.cut t4;have y24:=x24.cut t4;have G8:=fg (K:=aT K Tb) (aR X) G y0 (ip (P:=l.prog) (w:=w) (base:=base) y0.F T ) (bd2 y0.F fun _ _ _ _ _ _ _ _=>rfl);have G3:=fg (K:=aT K Tb) (aR X) G y1 (jL (P:=l.prog) (w:=w) (base:=base) y1.F T ) (bd1 y1.F fun _ _ _ _ _ _ _=>rfl);have Y5:=fg (K:=aT K Tb) (aR X) G y2 (oS (P:=l.prog) (w:=w) (base:=base) y2.F T ) (bd1 y2.F fun _ _ _ _ _ _ _=>rfl);have G7:=fg (K:=aT K Tb) (aR X) G y3 (qw (P:=l.prog) (w:=w) (base:=base) y3.F T ) (bd4 y3.F fun _ _ _ _ _ _ _ _ _ _=>rfl);have G9:=fg (K:=aT K Tb) (aR X) G y4 (i9 (P:=l.prog) (w:=w) (base:=base) y4.F T ) (bd2 y4.F fun _ _ _ _ _ _ _ _=>rfl);have Y7:=fg (K:=aT K Tb) (aR X) G y5 (ox (P:=l.prog) (w:=w) (base:=base) y5.F T ) (bd2 y5.F fun _ _ _ _ _ _ _ _=>rfl);have Y1:=fg (K:=aT K Tb) (aR X) G y6 (jM (P:=l.prog) (w:=w) (base:=base) y6.F T hC hB t1 ) (bd2 y6.F fun _ _ _ _ _ _ _ _=>rfl);have Y4:=fg (K:=aT K Tb) (aR X) G y7 (l6 (P:=l.prog) (w:=w) (base:=base) y7.F T ) (bd3 y7.F fun _ _ _ _ _ _ _ _ _=>rfl);have Y2:=fg (K:=aT K Tb) (aR X) G y8 (jN (P:=l.prog) (w:=w) (base:=base) y8.F T ) (bd3 y8.F fun _ _ _ _ _ _ _ _ _=>rfl);have ga1:=fg (K:=aT K Tb) (aR X) G y9 (rO (P:=l.prog) (w:=w) (base:=base) y9.F T ) (bd2 y9.F fun _ _ _ _ _ _ _ _=>rfl);have Y8:=fg (K:=aT K Tb) (aR X) G y10 (oa (P:=l.prog) (w:=w) (base:=base) y10.F T ) (bd2 y10.F fun _ _ _ _ _ _ _ _=>rfl);have ga3:=fg (K:=aT K Tb) (aR X) G y11 (vd (P:=l.prog) (w:=w) (base:=base) y11.F T ) (bd3 y11.F fun _ _ _ _ _ _ _ _ _=>rfl);have Y3:=fg (K:=aT K Tb) (aR X) G y12 (oF (P:=l.prog) (w:=w) (base:=base) y12.F T G8) (bd3 y12.F fun _ _ _ _ _ _ _ _ _=>rfl);have G6:=fg (K:=aT K Tb) (aR X) G y13 (gD (P:=l.prog) (w:=w) (base:=base) y13.F T G7) (bd1 y13.F fun _ _ _ _ _ _ _=>rfl);have Y9:=fg (K:=aT K Tb) (aR X) G y14 (oN (P:=l.prog) (w:=w) (base:=base) y14.F T Y2 Y1 Y4) (bd3 y14.F fun _ _ _ _ _ _ _ _ _=>rfl);have Y0:=fg (K:=aT K Tb) (aR X) G y15 (jI (P:=l.prog) (w:=w) (base:=base) y15.F T Y3) (bd4 y15.F fun _ _ _ _ _ _ _ _ _ _=>rfl);have G0:=fg (K:=aT K Tb) (aR X) G y16 (pB (P:=l.prog) (w:=w) (base:=base) y16.F T Y0) (bd3 y16.F fun _ _ _ _ _ _ _ _ _=>rfl);have G4:=fg (K:=aT K Tb) (aR X) G y17 (jw (P:=l.prog) (w:=w) (base:=base) y17.F T G0) (bd2 y17.F fun _ _ _ _ _ _ _ _=>rfl);have Y6:=fg (K:=aT K Tb) (aR X) G y18 (mz (P:=l.prog) (w:=w) (base:=base) y18.F T G0) (bd2 y18.F fun _ _ _ _ _ _ _ _=>rfl);have G5:=fg (K:=aT K Tb) (aR X) G y19 (eJ (P:=l.prog) (w:=w) (base:=base) y19.F T G4) (bd2 y19.F fun _ _ _ _ _ _ _ _=>rfl);have G2:=fg (K:=aT K Tb) (aR X) G y20 (jJ (P:=l.prog) (w:=w) (base:=base) y20.F T Y6 G6 G9 G7) (bd2 y20.F fun _ _ _ _ _ _ _ _=>rfl);have G1:=fg (K:=aT K Tb) (aR X) G y21 (jE (P:=l.prog) (w:=w) (base:=base) y21.F T G5 G4) (bd2 y21.F fun _ _ _ _ _ _ _ _=>rfl);have ga0:=fg (K:=aT K Tb) (aR X) G y22 (qA (P:=l.prog) (w:=w) (base:=base) y22.F T G2 G3 Y9 Y7) (bd3 y22.F fun _ _ _ _ _ _ _ _ _=>rfl);have ga2:=fg (K:=aT K Tb) (aR X) G y23 (qT (P:=l.prog) (w:=w) (base:=base) y23.F T G1 G2 Y5 ga0) (bd2 y23.F fun _ _ _ _ _ _ _ _=>rfl);exact CJ y24.F T ga1 ga3 G1 Y8 G3 ga2
end My
namespace PySem.W.Fast
def tw10036660092462408851:=Nat
def tw10133692910256684677:=Nat
def tw10211759919434301066:=Nat
def tw10219723061703862795:=Nat
def tw10273252757966703184:=Nat
def tw10582792031748279944:=Nat
def tw10604294509691626666:=Nat
def tw1093723165592910207:=Nat
def tw11091992586503884262:=Nat
def tw11596596806614403861:=Nat
def tw11683815032742837621:=Nat
def tw11706078563988625917:=Nat
def tw11808413983982311582:=Nat
def tw12003131422493466469:=Nat
def tw12019299920099568038:=Nat
def tw12164888346339915380:=Nat
def tw12284957546990232236:=Nat
def tw12370265021205261694:=Nat
def tw12595481747219555587:=Nat
def tw1270975854794237822:=Nat
def tw13195205665175529666:=Nat
def tw13341371922034528516:=Nat
def tw13537604251318734448:=Nat
def tw13821578821770034591:=Nat
def tw13866804053986785640:=Nat
def tw13897158135374211434:=Nat
def tw14016211588096051906:=Nat
def tw1411459925554746661:=Nat
def tw14228098436190820037:=Nat
def tw1438181268352983521:=Nat
def tw14569231355907502949:=Nat
def tw14605483328132901666:=Nat
def tw14634320559513686057:=Nat
def tw14802591795835364500:=Nat
def tw15367227586162534961:=Nat
def tw15469043249820535850:=Nat
def tw16347428535043763378:=Nat
def tw16707461134530304327:=Nat
def tw16825803865383017251:=Nat
def tw17312834196581106904:=Nat
def tw17777715644408813698:=Nat
def tw18064607077880833988:=Nat
def tw18092196813719053353:=Nat
def tw18174116038382710331:=Nat
def tw1892329134196806991:=Nat
def tw2124846143112595855:=Nat
def tw2171166667076453245:=Nat
def tw2240613228290056150:=Nat
def tw2307246625945512910:=Nat
def tw233481254231474624:=Nat
def tw2432039167780997696:=Nat
def tw2659275640788809968:=Nat
def tw2736137479835740103:=Nat
def tw2881929207408134722:=Nat
def tw2941024429203536805:=Nat
def tw2954648951968540410:=Nat
def tw3035914439338545602:=Nat
def tw3209484114592575844:=Nat
def tw3322780670125808280:=Nat
def tw3330527050572122368:=Nat
def tw3339957331635778011:=Nat
def tw350405848059943701:=Nat
def tw4021104355124633405:=Nat
def tw4037351554951267341:=Nat
def tw4353064866013969323:=Nat
def tw4562752095404904811:=Nat
def tw4578567176626617410:=Nat
def tw4674493839630518212:=Nat
def tw4838520409552198106:=Nat
def tw4883732901612138110:=Nat
def tw5005329035588928628:=Nat
def tw5228496991220112377:=Nat
def tw5237702385081888002:=Nat
def tw5557934874734145064:=Nat
def tw5775968060809160490:=Nat
def tw5826666156459801219:=Nat
def tw5993181756117406072:=Nat
def tw6047644636957065990:=Nat
def tw6145615138135966753:=Nat
def tw616119192575696716:=Nat
def tw6177550943524743496:=Nat
def tw622991224048821035:=Nat
def tw6260474303353191688:=Nat
def tw6282300819652016016:=Nat
def tw6291138676854563349:=Nat
def tw6392221985952852528:=Nat
def tw6701981262044174515:=Nat
def tw7013958719868916957:=Nat
def tw7174849904819925317:=Nat
def tw7184154337922625313:=Nat
def tw7293152054537284574:=Nat
def tw7404295379513644407:=Nat
def tw7597062736037783597:=Nat
def tw781508787301031662:=Nat
def tw8254197649458691524:=Nat
def tw8291421681541344291:=Nat
def tw8309471743533060848:=Nat
def tw8371814445878994590:=Nat
def tw8603376063759935075:=Nat
def tw8759004639006471937:=Nat
def tw8852090341093169884:=Nat
def tw8870035072607625254:=Nat
def tw8878771134032762531:=Nat
def tw9008780656895874725:=Nat
def tw9060309882401838027:=Nat
def tw9068064128339216620:=Nat
def tw9091540190303418839:=Nat
def tw9287355666577905752:=Nat
def tw9407464506523841984:=Nat
def tw9493470600380620882:=Nat
def tw9868476224219962438:=Nat
end PySem.W.Fast
open PySem PySem.W PyProof.Rows
set_option maxRecDepth 100000 in
set_option maxHeartbeats 0 in
theorem PySem.Challenge.cw_wordwishes_k40_whole_plain_rows_and_draw_holds : PySem.Challenge.rw_wordwishes_k40_whole_plain_rows_and_draw.Holds := by
 w_on;o_law;z_head;(case hw=>w_witness2)
 k_fill
 refine L2.xq (fun _=>rfl) ?_;refine L2.BO (S:=My.S_law) My.Dp (k:=9) (x:="_law_script") (l:=PySem.Challenge.rw_wordwishes_k40_whole_plain_rows_and_draw) ⟨rfl,by decide,by decide⟩ rfl rfl (fun w h Y=>Y) ?F
 case F =>
  intro w mg fa h KX G hmg
  refine' My.BH KX G hmg ?_ ?_ ?_ ?_ ?_ ?_ ?_ ?_ ?_ ?_ ?_ ?_ ?_ ?_ ?_ ?_ ?_ ?_ ?_ ?_ ?_ ?_ ?_ ?_ ?_ ?_ ?_ ?_ ?_ ?_ ?_ ?_ ?_ ?_ ?_ ?_ ?_ ?_ ?_ ?_ ?_ ?_ ?_
  all_goals try first|exact L2.EX (by k_is) (by k_is) (by k_is) (by k_is)|exact L2.wN (by k_is) (by k_is) (by k_is)|k_is|exact rfl
