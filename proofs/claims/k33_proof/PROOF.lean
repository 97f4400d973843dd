import PyProof.Rows.All
import Wide.All
import OpenK.AllK
import Wide.FinOn
import Lean
import PyProof.EqAt
import PyProof.EqKinds
import PyProof.TupleCall
import KE.KRevIter
import PyProof.NeKinds
import PyProof.Draws
import PyProof.EnumMake
import KE.KSortTup
import PyProof.ZipIter
import KE.KDictList
import PyProof.AttrMissHeap
import KE.KDictOf
import PyProof.Rows.SetFrom
import PyProof.Rows.SortRunsK
import PyProof.IsRules
import PyProof.SetRoads
import KE.KSortKey
import PyProof.RulesDel
import PyProof.DelItemList
import PySem.Challenge.RW_wordwishes_k33_whole_comes_goes_on
set_option Elab.async false
set_option linter.all false
set_option maxRecDepth 100000
set_option maxHeartbeats 4000000
set_option bootstrap.genMatcherCode false
set_option compiler.extract_closed false
noncomputable section
open PySem.W renaming Frag->o0,cellsFrom_some->O1,WData->R3,keepIn->W5,fnOf->X0
open PySem renaming wpAny_bind->s0,Value->u8,Shared->F0,sizeLine->F2,wpAny_pure->F4,Addr->F9,Builtin->J1,wpAny->J3,Expr->J5,starEach->J7,NameKind->J9,wpAny_newObj_type->K0,mem_of_lookup->K3,Heap->K5,model->K6,Program->L4,wpAny_mono->M0,compareOp->N0,assignEach->N1,Around->N5,wpAny_callSpecial?_slot->N8,foldedSetIterable->O3,wpAny_field->O7,binaryOp->O9,cellsFrom->P0,wpAny_call_entry->P5,World->P7,Paired->P8,Scope->R0,sliceBounds->R4,wpAny_passesOwn->R9,wpAny_comprehension_free->S6,wpAny_holding->S7,wpAny_getItem_str_slice->T0,Spec->T5,bootBuiltins->T7,letOwnedTupleGo->T9,builtinLookup_eq_fast->U1,wpAny_of_eq->U2,sysModules->U3,wpAny_truthy_bool->U4,assign->U6,eval->V1,behindInMarks->V2,wpAny_standAt->V3,FuncData->V4,wpAny_loadPart'->V6,backTo->V8,newFunctionEnv->W6,isSubtype_type->W7,wpAny_setField->W8,swapsWith->W9,attributeBase->X4,Comprehension->X5,call_meets->X6,wpAny_execs_nil->X8,getItem->Z3,wpAny_specialOf->Z5,relabel->Z6,post_val_or_str->Z7,typeLookup_type->Z8,codeAny->Z9,firstArgMember->aa1,rawInt->aa2,evalPart_none->aa6,cLine->aa9,tupleKind->ab0,Stmt->ab2,wpAny_typeOf->ab3,typeIs_int->ab8,mainGlobals->ac2,holding->ac3,IsRangeIter->ac4,subscripted->ac5,keywordEach->ac6,Keyword->ac7,IsPart->ad1,valueAt->ad4,pyNext->ad5,Operator->ad6,compEnvC->ad7,inplaceOp->ad8,PassesOwn->ad9,Result->ae0,slicePick->ae1
open PySem.Heap renaming get?_push_of_some->F1,lt_size->F5,get?_push_size->F6,SameBut->O0,size_push->R6,get?_update_self->U0
open List renaming size_toArray->F3,mem_append_right->H0,replicate->J0,lookup_cons->J8,mem_cons_of_mem->K8,length_append->L6,getElem?_eq_some_iff->L7,getElem?_append_left->L8,mem_cons_self->L9,mem_singleton->N3,mem_cons->N7,map_cons->N9,replicate_succ->P1,any_cons->P2,mem_filterMap->P4,getElem?_map->P9,filterMap_cons->Q3,find?_cons->Q4,getElem?_set_self->Q5,getElem?_append_right->Q6,flatten_cons->S0,getElem?_replicate->S9,length_cons->T4,range->T6,getElem?_set_ne->U5,mem_append->V0,nodup_cons->V5,all_cons->V7,reverse_cons->W3,all_eq_true->X1,length_nil->X9,append_nil->Z0,length_map->Z1,length->aa4,lookup->ac8,foldl->ad3
open Nat renaming le_refl->F7,lt_of_lt_of_le->F8,ne_of_lt->I0,lt_succ_of_lt->K4,le_trans->L5,lt_irrefl->O2,lt_succ_self->P6,zero_le->R5,ne_of_gt->T8,le_of_succ_le->W4,le_succ->aa8
open Option.some renaming inj->J4
open PyProof.Rows renaming slot_tuple_getitem->J6,callWith_type1->O6,slicePart_none->aa0,kindOf->aa3,tupleItemsOf_->aa5,AllBare->ab1,Subscript_->ab6,IsTup->ac9,envOfC->ad0
open Bool renaming and_eq_true->K1,false_ne_true->L3,false_eq_true->N4
open PySem.Builtin.Tuple renaming tupleExact->K2,tupleItemsOf->Q8
open PySem.NameKind renaming free->K7,cell->P3
open Option renaming some->K9,isSome_iff_exists->O4,map_some->R8
open PySem.Builtin.Slice renaming slicePlaces->N2,sliceApplied->Q7
open PySem.SeqAt renaming EqAt->N6
open PySem.Builtin.Range renaming rangeSize->O5
open ForInStep renaming yield->O8
open PySem.Value renaming ref->Q0,none->W0,type->ad2
open PySem.F renaming slot_tuple_iterator_next->Q9,slot_int_rmul->Z4
open PySem.Obj renaming data_mapFields->R1,mapSeq->ab7
open PySem.Builtin.SmallTypes renaming nextOf->R7
open PySem.Builtin.List renaming listTooLong->S1
open PySem.Builtin.Str renaming occurrences->S8
open PySem.Heap.SameBut renaming update->T3
open Array renaming length_toList->U7
open False renaming elim->U8
open PySem.Str renaming ofString->U9
open Pure renaming pure->V9
open Int renaming toNat_natCast->W1
open PySem.Paired renaming length->X3
open Ne renaming symm->X7
open PySem.Code renaming compLoop->aa7
open PySem.Txt renaming slice->ab4,slice_le->ab5
open True renaming intro->ab9
open Sum renaming inl->ac0,inr->ac1
open LawfulMonad renaming pure_bind->ae2
set_option compiler.extract_closed false
namespace L2
open PySem PySem.Spec PyProof.Rows
abbrev Key:=Sum Int Str
def nv:Key->u8->Bool
 |.inl k,v=>u8.isInt k v
 |.inr x,v=>u8.isStrOf x v
noncomputable def EF(w:P7):Key->Int
 |.inl k=>hashInt k
 |.inr x=>hashStr w x
theorem bx:∀{k:Key}{v:u8},nv k v=true->(∃i t,k=ac0 i/\v=u8.int i t)∨(∃x t,k=ac1 x/\v=u8.str x t)
 |.inl i,v,h=>by
  obtain⟨t,e⟩:=u8.isInt_shape (k:=i) (v:=v) h;exact .inl ⟨i,t,rfl,e⟩
 |.inr x,v,h=>by
  obtain⟨t,e⟩:=u8.isStrOf_shape (x:=x) (v:=v) h;exact .inr ⟨x,t,rfl,e⟩
theorem uJ(i:Int) (t:Tok):nv (.inl i) (.int i t)=true:=by simp[nv,u8.isInt]
theorem uU(x:Str) (t:Tok):nv (.inr x) (.str x t)=true:=by simp[nv,u8.isStrOf]
theorem Cs(a b:Int):decide ((ac0 a:Key)=ac0 b)=(a==b):=by
 by_cases e:a=b
 ·subst e;simp
 ·have h:¬ (ac0 a:Key)=ac0 b:=fun q=>e (ac0.inj q);rw[decide_eq_false h];exact(beq_eq_false_iff_ne.mpr e).symm
theorem BQ(a b:Str):decide ((ac1 a:Key)=ac1 b)=decide (a=b):=by
 by_cases e:a=b
 ·subst e;simp
 ·have h:¬ (ac1 a:Key)=ac1 b:=fun q=>e (ac1.inj q);rw[decide_eq_false h,decide_eq_false e]
theorem Ci(a:Int) (b:Str):decide ((ac0 a:Key)=ac1 b)=false:=decide_eq_false (fun q=>nomatch q)
theorem Bi(a:Str) (b:Int):decide ((ac1 a:Key)=ac0 b)=false:=decide_eq_false (fun q=>nomatch q)
def bv(prog:L4) (w:P7):PySem.KeyKind prog w Key where
 is:=nv
 hash:=EF w
 inj:=fun v a b ha hb=>by
  rcases bx ha with⟨i,t,rfl,rfl⟩|⟨x,t,rfl,rfl⟩
  ·rcases bx hb with⟨j,u,rfl,e⟩|⟨y,u,rfl,e⟩
   ·injection e with e1 _;rw[e1]
   ·exact nomatch e
  ·rcases bx hb with⟨j,u,rfl,e⟩|⟨y,u,rfl,e⟩
   ·exact nomatch e
   ·injection e with e1 _;rw[e1]
 byValue:=fun k v h=>by
  rcases bx h with⟨i,t,rfl,rfl⟩|⟨x,t,rfl,rfl⟩<;>rfl
 pyHash:=fun hv h=>by
  rcases bx hv with⟨i,t,rfl,rfl⟩|⟨x,t,rfl,rfl⟩
  ·exact wpAny_pyHash_int h
  ·exact wpAny_pyHash_str h
 eqBool:=fun hu hv h=>by
  rcases bx hu with⟨i,t,rfl,rfl⟩|⟨x,t,rfl,rfl⟩
  ·rcases bx hv with⟨j,u,rfl,rfl⟩|⟨y,u,rfl,rfl⟩
   ·rw[Cs]at h;exact wpAny_eqBool_int h
   ·rw[Ci]at h;exact N6.int_str i t y u _ _ _ _ h
  ·rcases bx hv with⟨j,u,rfl,rfl⟩|⟨y,u,rfl,rfl⟩
   ·rw[Bi]at h;exact N6.str_int x t j u _ _ _ _ h
   ·rw[BQ]at h;exact wpAny_eqBool_str h
 «strs»:=fun k x t v h=>by
  rcases bx h with⟨i,u,rfl,e⟩|⟨y,u,rfl,e⟩
  ·exact nomatch e
  ·injection e with e1 _
   subst e1;cases v<;>rfl
theorem pT(prog:L4) (w:P7) (i:Int) (t:Tok):(bv prog w).is (.inl i) (.int i t)=true:=uJ i t
theorem pJ(prog:L4) (w:P7) (x:Str) (t:Tok):(bv prog w).is (.inr x) (.str x t)=true:=uU x t
inductive V where
 |non|bl (b:Bool)|int (i:Int)|str (x:Str)|byt (b:Array UInt8)|flt (b:UInt64)|ref (a:F9)|ty (n:String)
 deriving DecidableEq
def aE:V->u8->Prop
 |.non,u=>u=W0
 |.bl b,u=>u=u8.bool b
 |.int i,u=>∃t,u=u8.int i t
 |.str x,u=>∃t,u=u8.str x t
 |.byt b,u=>∃t,u=u8.bytes b t
 |.flt b,u=>∃t,u=u8.float b t
 |.ref a,u=>u=Q0 a
 |.ty n,u=>u=ad2 n
abbrev ay:List V->List u8->Prop:=P8 aE
theorem ay.length{xs:List V}{us:List u8}(r:ay xs us):xs.length=us.length:=X3 r
theorem ay.get:∀{xs:List V}{us:List u8}{i:Nat}{x:V},ay xs us->xs[i]?=some x->∃u,us[i]?=some u/\aE x u
 |_,_,_,_,.nil,e=>by simp at e
 |_,_,0,_,.cons r _,e=>by simp at e;subst e;exact⟨_,rfl,r⟩
 |_,_,i+1,x,.cons _ t,e=>by
  obtain⟨u,h1,h2⟩:=ay.get (i:=i) (x:=x) t (by simpa using e);exact⟨u,by simpa using h1,h2⟩
theorem ay.set{x:V}{u:u8}(r:aE x u):∀{xs:List V}{us:List u8}(i:Nat),ay xs us->ay (xs.set i x) (us.set i u)
 |_,_,_,.nil=>.nil
 |_,_,0,.cons _ t=>.cons r t
 |_,_,i+1,.cons q t=>.cons q (ay.set r i t)
theorem ay.append:∀{xs ys:List V}{us ws:List u8},ay xs us->ay ys ws->ay (xs++ys) (us++ws)
 |_,_,_,_,.nil,s=>s
 |_,_,_,_,.cons r t,s=>.cons r (ay.append t s)
theorem ay.take:∀{xs:List V}{us:List u8}(n:Nat),ay xs us->ay (xs.take n) (us.take n)
 |_,_,0,_=>.nil
 |_,_,_+1,.nil=>.nil
 |_,_,n+1,.cons r t=>.cons r (ay.take n t)
theorem ay.drop:∀{xs:List V}{us:List u8}(n:Nat),ay xs us->ay (xs.drop n) (us.drop n)
 |_,_,0,r=>r
 |_,_,_+1,.nil=>.nil
 |_,_,n+1,.cons _ t=>ay.drop n t
def j0:Option V->Option u8->Prop
 |some v,some u=>aE v u
 |none,none=>True
 |_,_=>False
def KV{κ:Type}:List (κ×V)->List (κ×u8)->Prop:=P8 fun(p:κ×V) (q:κ×u8)=>p.1=q.1/\aE p.2 q.2
def kV:Key->V
 |.inl i=>.int i
 |.inr x=>.str x
inductive HO where
 |lst (xs:List V)
 |tup (xs:List V)
 |dK (kvs:List (Key×V))|dT (kvs:List (List Key×V))
 |set (S:Int->Bool) (n:Nat)
 |ins (C dx:F9) (fs:List (Str×V))
 |own (x:F9)
 |xd (fs:List (Str×V))
 |met (f x:F9)
 |rng (lo hi:Int)
 |frz (o:Obj) (u:HO)
 |tbl (ps:Array u8)
 |ext (φ:K5->Prop)
abbrev Hp:=F9->Option HO
def upd(H:Hp) (a:F9) (o:HO):Hp:=fun b=>if b=a then some o else H b
theorem aF{H:Hp}{a:F9}{o:HO}:upd H a o a=some o:=by unfold upd;rw[if_pos rfl]
theorem ax{H:Hp}{a b:F9}{o:HO}(h:b≠a):upd H a o b=H b:=by unfold upd;rw[if_neg h]
theorem zQ{H:Hp}{a b:F9}{o u:HO}(h:H a=some o) (h':H b=some u) (d:o≠u):a≠b:=by
 intro e;subst e;rw[h]at h';exact d (J4 h')
theorem aX{H:Hp}{a b:F9}{o:HO}(h:H a=some o) (h':H b=none):a≠b:=by
 intro e;subst e;rw[h]at h';cases h'
def jI(h:K5) (a:F9) (xs:Array u8):Prop:=∃o,h.get? a=some o/\o.cls=.type "tuple"/\(∃n,o.data=.seq xs n)/\o.dict=none
theorem jI.tup{h:K5}{a:F9}{xs:Array u8}(x:jI h a xs):ac9 h a xs:=let⟨o,e,c,d,_⟩:=x;⟨o,e,c,d⟩
theorem jI.lt{h:K5}{a:F9}{xs:Array u8}(x:jI h a xs):a<h.objs.size:=let⟨_,e,_⟩:=x;F5 e
theorem jI.new(h:K5) (xs:Array u8):jI (h.push { cls:=.type "tuple",data:=.seq xs }) h.objs.size xs:=⟨_,F6 h rfl,rfl,⟨_,rfl⟩,rfl⟩
section
variable(P:L4) (w:P7)
def bB(H:Hp) (h:K5) (a:F9):HO->Prop
 |.lst xs=>xs.length<=F2/\∃(its:List u8) (n:Nat),ay xs its/\h.get? a=some { cls:=.type "list",data:=.seq its.toArray n }
 |.tup xs=>xs.length<=F2/\∃its:List u8,ay xs its/\jI h a its.toArray
 |.dK kvs=>kvs.length<=F2/\(a==U3)=false/\∃vs,KV kvs vs/\h.DictOf (bv P w) a vs
 | .dT kvs => kvs.length ≤ F2 ∧ (a == U3) = false ∧ ∃ xs:List (List Key × F9 × u8),
   P8 (fun(p:List Key×V) (q:List Key×F9×u8)=>p.1=q.1/\H q.2.1=some (.tup (p.1.map kV))/\aE p.2 q.2.2) kvs xs /\
   ∃o es ep,h.get? a=some o/\o.ExactDict/\o.data=.dict es ep/\es.toList=xs.map (entryOfKey (ab0 (bv P w)))/\(xs.map (·.1)).Nodup
 |.set S n=>h.SetOf (intKind P w) a S n
 | .ins C dx fs => H dx = some (.own a) ∧ fs.length ≤ 1000 ∧ dx ≠ a ∧ h.get? a = some (PySem.W.instObj C dx) ∧
   ∃mA,h.Ns1 dx mA/\(∀f,j0 (fs.lookup f) (mA f))/\PySem.Within mA (fs.map (·.1))
 |.own _=>∃o,h.get? a=some o
 |.xd fs=>∃mA,h.Ns1 a mA/\∀f,j0 (fs.lookup f) (mA f)
 |.rng lo hi=>∃t u v,h.get? a=some { cls:=.type "range",data:=.fields #[.int lo t,.int hi u,.int 1 v] }
 |.frz o u=>h.get? a=some o/\bB H h a u
 |.tbl ps=>h.get? a=some { cls:=.none,data:=.fields ps }
 |.met f x=>h.get? a=some (PySem.W.methodObj (.ref f) (.ref x))
 |.ext φ=>φ h/\(∃o,h.get? a=some o)/\∀h1 h2:K5,φ h1->(∀o,h1.get? a=some o->h2.get? a=some o)->φ h2
def HOk(H:Hp) (h:K5):Prop:=∀a o,H a=some o->bB P w H h a o
end
section
variable{P:L4}{w:P7}{H H':Hp}{h h':K5}{a:F9}{o:HO}
theorem bB.lt(x:bB P w H h a o):a<h.objs.size:=by
 cases o with
 |lst xs=>obtain⟨_,_,_,_,e⟩:=x;exact F5 e
 |tup xs=>obtain⟨_,_,_,p⟩:=x;exact p.lt
 |dK kvs=>obtain⟨_,_,_,_,o,_,_,e,_⟩:=x;exact F5 e
 |dT kvs=>obtain⟨_,_,_,_,o,_,_,e,_⟩:=x;exact F5 e
 |set S n=>obtain⟨o,_,_,_,e,_⟩:=x;exact F5 e
 |ins C dx fs=>obtain⟨_,_,_,e,_⟩:=x;exact F5 e
 |own y=>obtain⟨_,e⟩:=x;exact F5 e
 |xd fs=>obtain⟨_,⟨_,_,_,e,_⟩,_⟩:=x;exact F5 e
 |rng lo hi=>obtain⟨_,_,_,e⟩:=x;exact F5 e
 |frz ob u=>obtain⟨e,_⟩:=x;exact F5 e
 |tbl ps=>exact F5 (show h.get? a=some _ from x)
 |met f y=>exact F5 (show h.get? a=some _ from x)
 |ext φ=>obtain⟨_,⟨_,e⟩,_⟩:=x;exact F5 e
theorem P8.mapP{α β:Type}{F G:α->β->Prop}:∀{l₁:List α}{l₂:List β},P8 F l₁ l₂->(∀a b,F a b->G a b)->P8 G l₁ l₂
 |_,_,.nil,_=>.nil
 |_,_,.cons r t,f=>.cons (f _ _ r) (P8.mapP t f)
theorem P8.imp'{α β:Type}{F G:α->β->Prop}(f:∀a b,F a b->G a b) {l₁:List α}{l₂:List β}(r:P8 F l₁ l₂):P8 G l₁ l₂:=P8.mapP r f
theorem bB.stay(x:bB P w H h a o) (k:∀b u,(b=a∨H b=some (.own a))->h.get? b=some u->h'.get? b=some u)
  (ho:∀b,H b=some (.own a)->H' b=some (.own a)) (ht:∀b xs,H b=some (.tup xs)->H' b=some (.tup xs)):bB P w H' h' a o:=by
 induction o with
 |lst xs=>obtain⟨z,its,n,r,e⟩:=x;exact⟨z,its,n,r,k _ _ (.inl rfl) e⟩
 |tup xs=>obtain⟨z,its,r,ob,e,c⟩:=x;exact⟨z,its,r,ob,k _ _ (.inl rfl) e,c⟩
 |dK kvs=>obtain⟨z,y,vs,r,ob,es,ep,e,c⟩:=x;exact⟨z,y,vs,r,ob,es,ep,k _ _ (.inl rfl) e,c⟩
 |dT kvs =>
  obtain⟨z,y,xs,r,ob,es,ep,e,c⟩:=x;exact⟨z,y,xs,P8.mapP r fun p q z=>⟨z.1,ht _ _ z.2.1,z.2.2⟩,ob,es,ep,k _ _ (.inl rfl) e,c⟩
 |set S n=>obtain⟨ob,es,ep,t,e,c⟩:=x;exact⟨ob,es,ep,t,k _ _ (.inl rfl) e,c⟩
 |ins C dx fs =>
  obtain⟨d,z,ne,e,mA,⟨od,es,ep,e2,c⟩,r⟩:=x;exact⟨ho _ d,z,ne,k _ _ (.inl rfl) e,mA,⟨od,es,ep,k _ _ (.inr d) e2,c⟩,r⟩
 |own y=>obtain⟨ob,e⟩:=x;exact⟨ob,k _ _ (.inl rfl) e⟩
 |xd fs=>obtain⟨mA,⟨od,es,ep,e,c⟩,r⟩:=x;exact⟨mA,⟨od,es,ep,k _ _ (.inl rfl) e,c⟩,r⟩
 |rng lo hi=>obtain⟨t,u,v,e⟩:=x;exact⟨t,u,v,k _ _ (.inl rfl) e⟩
 |frz ob u ih=>obtain⟨e,q⟩:=x;exact⟨k _ _ (.inl rfl) e,ih q⟩
 |tbl ps =>
  have e:h.get? a=some { cls:=.none,data:=.fields ps }:=x;show h'.get? a=some { cls:=.none,data:=.fields ps };exact k a _ (.inl rfl) e
 |met f y =>
  have e:h.get? a=some (PySem.W.methodObj (.ref f) (.ref y)):=x;show h'.get? a=some (PySem.W.methodObj (.ref f) (.ref y));exact k a _ (.inl rfl) e
 |ext φ=>obtain⟨p,⟨o,e⟩,st⟩:=x;exact⟨st _ _ p fun o q=>k _ _ (.inl rfl) q,⟨o,k _ _ (.inl rfl) e⟩,st⟩
theorem HOk.lt(x:HOk P w H h) (e:H a=some o):a<h.objs.size:=(x a o e).lt
theorem HOk.fresh(x:HOk P w H h) (e:h.objs.size<=a):H a=none:=by
 cases q:H a with
 |none=>rfl
 |some u=>exact absurd (F8 (x.lt q) e) (O2 _)
theorem HOk.kept(x:HOk P w H h) (k:∀b u,h.get? b=some u->h'.get? b=some u):HOk P w H h':=fun a o e =>
 (x a o e).stay (fun b u _ q=>k b u q) (fun _ q=>q) fun _ _ q=>q
theorem HOk.laid(x:HOk P w H h) (k:∀b u,h.get? b=some u->h'.get? b=some u) (hp:h.objs.size<=a) (new:bB P w (upd H a o) h' a o):HOk P w (upd H a o) h':=fun b u e=>by
 have hn:=x.fresh hp
 by_cases hb:b=a
 ·subst hb;rw[aF]at e;cases e;exact new
 ·rw[ax hb]at e;exact(x b u e).stay (fun c v _ q=>k c v q) (fun c q=>by rw[ax (aX q hn)];exact q) fun c xs q=>by rw[ax (aX q hn)];exact q
end
def Rd(H:Hp) (a:F9) (u:HO):Prop:=H a=some u∨∃o,H a=some (.frz o u)
theorem Rd.of{H:Hp}{a:F9}{u:HO}(h:H a=some u):Rd H a u:=.inl h
theorem Rd.ok{P:L4}{w:P7}{H:Hp}{h:K5}{a:F9}{u:HO}(r:Rd H a u) (x:HOk P w H h):bB P w H h a u:=by
 rcases r with r|⟨o,r⟩
 ·exact x a u r
 ·obtain⟨_,q⟩:=x a _ r;exact q
def Mut:Option HO->Prop
 |some (.lst _)=>True
 |some (.dK _)=>True
 |some (.dT _)=>True
 |some (.set _ _)=>True
 |some (.ins _ _ _)=>True
 |some (.ext _)=>True
 |_=>False
section
variable{P:L4}{w:P7}{H:Hp}{h h':K5}{x e:F9}{o':HO}
theorem HOk.write(ok:HOk P w H h) (mu:Mut (H x)) (he:e=x∨H e=some (.own x)) (k:∀b u,b≠e->h.get? b=some u->h'.get? b=some u) (heo:∃u,h'.get? e=some u)
  (new:bB P w (upd H x o') h' x o'):HOk P w (upd H x o') h':=fun b u q=>by
 have nown:∀c y,H c=some (.own y)->c≠x:=fun c y r z=>by subst z;rw[r]at mu;exact mu
 have ntup:∀c xs,H c=some (.tup xs)->c≠x:=fun c xs r z=>by subst z;rw[r]at mu;exact mu
 by_cases hb:b=x
 ·subst hb;rw[aF]at q;cases q;exact new
 ·rw[ax hb]at q
  by_cases hbe:b=e
  ·have q':H b=some (.own x):=by
    rcases he with z|z
    ·exact absurd (hbe.trans z) hb
    ·rw[hbe];exact z
   rw[q]at q';cases q';obtain⟨v,hv⟩:=heo;exact⟨v,by rw[hbe];exact hv⟩
  ·refine(ok b u q).stay (fun c v hc r=>k c v ?_ r) (fun c r=>by rw[ax (nown c b r)];exact r) fun c xs r=>by rw[ax (ntup c xs r)];exact r
   rcases hc with rfl|hc
   ·exact hbe
   ·rintro rfl;rcases he with z|z
    ·exact nown c b hc z
    ·rw[hc]at z;cases z;exact hb rfl
end
structure Un(fs ex:List F9) (H H':Hp) (h h':K5):Prop where
 keep:∀b o,h.get? b=some o->H b=none->b∉fs->b∉ex->h'.get? b=some o
 slot:∀b o,h.get? b=some o->H b=none->b∈fs->b∉ex->∃sl,h'.get? b=some { o with slots:=sl }
 free:∀b o,h.get? b=some o->H b=none->b∉ex->H' b=none
 there:∀b o,h.get? b=some o->b∉ex->∃o',h'.get? b=some o'
 tups:∀b xs,H b=some (.tup xs)->H' b=some (.tup xs)
 frzs:∀b o u,H b=some (.frz o u)->H' b=some (.frz o u)
 tbls:∀b ps,H b=some (.tbl ps)->∃more,H' b=some (.tbl (ps++more))
section
variable{fs fs' ex ex':List F9}{H H1 H2:Hp}{h h1 h2 h':K5}{a x e:F9}{o:HO}
theorem Un.any(u:Un fs ex H H1 h h1) {b:F9}{ob:Obj}(q:h.get? b=some ob) (n:H b=none) (hx:b∉ex):∃sl,h1.get? b=some { ob with slots:=sl }:=by
 by_cases hb:b∈fs
 ·exact u.slot b ob q n hb hx
 ·exact⟨ob.slots,u.keep b ob q n hb hx⟩
theorem Un.kept(k:∀b u,h.get? b=some u->h'.get? b=some u):Un fs ex H H h h' :=
 ⟨fun b ob q _ _ _=>k b ob q,fun b ob q _ _ _=>⟨ob.slots,k b ob q⟩,fun _ _ _ n _=>n,fun b ob q _=>⟨ob,k b ob q⟩,fun _ _ q=>q,fun _ _ _ q=>q,fun _ ps q=>⟨#[],by rw[q];simp⟩⟩
theorem Un.refl:Un fs ex H H h h:=Un.kept fun _ _ q=>q
theorem Un.laid(k:∀b u,h.get? b=some u->h'.get? b=some u) (hp:h.objs.size<=a) (hn:H a=none):Un fs ex H (upd H a o) h h' where
 keep:=fun b u q _ _ _=>k b u q
 slot:=fun b u q _ _ _=>⟨u.slots,k b u q⟩
 free:=fun b u q n _=>by rw[ax (I0 (F8 (F5 q) hp))];exact n
 there:=fun b u q _=>⟨u,k b u q⟩
 tups:=fun b xs q=>by rw[ax (aX q hn)];exact q
 frzs:=fun b u xs q=>by rw[ax (aX q hn)];exact q
 tbls:=fun b ps q=>⟨#[],by rw[ax (aX q hn),q];simp⟩
theorem Un.write(mu:Mut (H x)) (he:e=x∨H e=some (.own x)) (k:∀b u,b≠e->h.get? b=some u->h'.get? b=some u) (heo:∃u,h'.get? e=some u):Un fs ex H (upd H x o) h h':=by
 have hx:∀b,H b=none->b≠x:=fun b n z=>by subst z;rw[n]at mu;exact mu
 have hb:∀b,H b=none->b≠e:=fun b n z=>by
  subst z;rcases he with r|r
  ·exact hx b n r
  ·rw[n]at r;cases r
 have hm:∀b u,H b=some u->¬ Mut (some u)->b≠x:=fun b u q nm z=>by subst z;rw[q]at mu;exact nm mu
 refine⟨fun b u q n _ _=>k b u (hb b n) q,fun b u q n _ _=>⟨u.slots,k b u (hb b n) q⟩,fun b u q n _=>by rw[ax (hx b n)];exact n,fun b u q _=>?_,
  fun b xs q=>by rw[ax (hm b _ q fun z=>z)];exact q,fun b u xs q=>by rw[ax (hm b _ q fun z=>z)];exact q,fun b ps q=>⟨#[],by rw[ax (hm b _ q fun z=>z),q];simp⟩⟩
 by_cases hbe:b=e
 ·subst hbe;exact heo
 ·exact⟨u,k b u hbe q⟩
end
def trk(h:K5) (H:Hp):List F9:=(T6 h.objs.size).filter fun a=>(H a).isSome
def mi(h:K5) (H:Hp):K5:=PySem.W.hideAll h (trk h H)
theorem ut(h:K5) (H:Hp):(mi h H).objs.size=h.objs.size:=PySem.W.hideAll_size _ _
theorem v9{h:K5}{H:Hp}{b:F9}{o:Obj}(e:h.get? b=some o) (n:H b=none):(mi h H).get? b=some o :=
 PySem.W.hideAll_get _ e fun hm=>by
  have q:(H b).isSome=true:=(List.mem_filter.mp hm).2;rw[n]at q;simp at q
theorem yL{h:K5}{H:Hp}{b:F9}{o:Obj}(e:(mi h H).get? b=some o):h.get? b=some o/\H b=none:=by
 have e':h.get? b=some o:=PySem.W.of_hideAll (trk h H) e;refine⟨e',?_⟩;cases q:H b with
 |none=>rfl
 |some x =>
  have hm:b∈trk h H:=List.mem_filter.mpr ⟨List.mem_range.mpr (F5 e'),by simp[q]⟩;have z:(mi h H).get? b=none:=PySem.W.hideAll_none (trk h H) hm;rw[z]at e;cases e
noncomputable def kc(g h:K5) (L:F9):List (F9×Obj):=(T6 h.objs.size).filterMap fun a=>if a=L∨(g.get? a).isSome=true then none else(h.get? a).map fun o=>(a,o)
theorem jH{g h:K5}{L a:F9}{o:Obj}(h1:a≠L) (h2:g.get? a=none) (h3:h.get? a=some o):(a,o)∈kc g h L :=
 P4.mpr ⟨a,List.mem_range.mpr (F5 h3),by simp[h1,h2,h3]⟩
theorem gp{g h:K5}{L:F9}{p:F9×Obj}(hp:p∈kc g h L):p.1≠L/\g.get? p.1=none/\h.get? p.1=some p.2:=by
 obtain⟨b,_,e⟩:=P4.mp hp
 split at e
 ·cases e
 ·rename_i hn;cases q:h.get? b with
  |none=>rw[q]at e;simp at e
  |some u =>
   rw[q]at e;simp only[R8,K9.injEq]at e;subst e;refine⟨fun z=>hn (.inl z),?_,q⟩;show g.get? b=none;cases r:g.get? b with
   |none=>rfl
   |some v=>exact(hn (.inr (by simp[r]))).elim
def br(g h:K5) (L d:F9):List (F9×Obj):=(kc g h L).filter fun p=>decide (p.1≠d)
structure Mod(K:o0) (mg:Str->Option u8) (base:K5):Prop where
 kin:K.In base
 glob:base.Ns ac2 mg
 blt:∃mb,base.Ns builtinsNs mb/\∀x:Str,x≠"__name__"->mb x=T7 x
 nolimit:base.NoLimit
structure Cx where
 prog:L4
 w:P7
 K:o0
 mg:Str->Option u8
 base:K5
 A:N5
 N:List Str
 s₀:F0
 H₀:Hp
 env:Env
 outer:List Env
 stack:List Env
 ex:List F9
 fn:Str->Bool
 calm:Bool
 pn:List (F9×Obj)
 xe:u8->F0->Prop
def frs(l:List Env):List F9:=l.filterMap (·.frame)
abbrev Cx.fs(X:Cx):List F9:=frs X.outer
def Vis(sc:R0) (x:Str):Prop:=sc.names.lookup x=some .local∨sc.names.lookup x=some .cell∨sc.names.lookup x=some .free
def Loc(sc:R0) (x:Str):Prop:=sc.names.lookup x=some .local∨sc.names.lookup x=some .cell
def ED(env:Env) (h:K5) (m:Str->Option u8) (x:Str) (u:u8):Prop :=
 (env.kindOf x=some .local/\m x=some u)∨((env.kindOf x=some .cell∨env.kindOf x=some .free)/\∃c,env.cells.lookup x=some c/\h.IsCell c (some u))
structure Cx.Ok(X:Cx):Prop where
 mod:Mod X.K X.mg X.base
 kind:X.env.scope.kind=.function
 glob:X.env.globals=ac2
 blt:X.env.builtins=builtinsNs
 above:X.s₀.heap.objs.size<=X.env.locals
 inj:∀x y c,X.env.cells.lookup x=some c->X.env.cells.lookup y=some c->x=y
 has:∀x,(X.env.kindOf x=some .cell∨X.env.kindOf x=some .free)->∃c,X.env.cells.lookup x=some c
 cab:∀x c,X.fn x=true->X.env.cells.lookup x=some c->X.s₀.heap.objs.size<=c
 hd:X.calm=true->X.A.handled=none
 frames:X.A.frames=some X.stack
 stk:X.stack=X.outer∨(X.stack=X.env::X.outer/\X.env.frame=some X.env.locals)
 exf:∀b∈X.ex,b≠X.env.locals/\∀x c,X.env.cells.lookup x=some c->c≠b
 bs:∀b o,X.base.get? b=some o->X.s₀.heap.get? b=some o/\X.H₀ b=none
 bsz:X.base.objs.size<=X.s₀.heap.objs.size
 noex:∀b o,X.base.get? b=some o->b∉X.ex
 exfs:∀b∈X.ex,b∉X.fs
 funs:X.s₀.heap.FunFrames X.base X.outer
 frf:∀b∈X.fs,X.H₀ b=none
structure Inv(X:Cx) (ag:List (F9×Obj)) (σ:List (Option V)) (H:Hp) (s:F0):Prop where
 ok:X.Ok
 os:s.os=X.s₀.os
 bare:ab1 s.gens
 base:Un X.fs X.ex X.H₀ H X.s₀.heap s.heap
 loc:∃m,s.heap.Ns X.env.locals m/\∀(i:Nat) (x:Str) (v:V),X.N[i]?=some x->σ[i]?=some (some v)->Vis X.env.scope x->∃u,aE v u/\ED X.env s.heap m x u
 cell:∀x c,X.env.cells.lookup x=some c->∃v,s.heap.IsCell c v
 free:H X.env.locals=none
 freeC:∀x c,X.env.cells.lookup x=some c->H c=none
 pin:∀p∈X.pn++ag,s.heap.get? p.1=some p.2/\H p.1=none/\p.1≠X.env.locals/\p.1∉X.fs/\∀v,p.2.data≠.cell v
 hok:HOk X.prog X.w H s.heap
 len:σ.length=X.N.length
section
variable{X:Cx}{ag:List (F9×Obj)}{σ:List (Option V)}{H H':Hp}{s:F0}{h':K5}
theorem Cx.Ok.nofr(ok:X.Ok) {b:F9}{o:Obj}(e:X.base.get? b=some o):b∉X.fs:=fun hb=>by
 have:=(ok.funs.mem hb).1;rw[e]at this;cases this
theorem Inv.bs(I:Inv X ag σ H s):∀b o,X.base.get? b=some o->s.heap.get? b=some o/\H b=none:=fun b o e =>
 ⟨I.base.keep b o (I.ok.bs b o e).1 (I.ok.bs b o e).2 (I.ok.nofr e) (I.ok.noex b o e),I.base.free b o (I.ok.bs b o e).1 (I.ok.bs b o e).2 (I.ok.noex b o e)⟩
theorem Inv.bk(I:Inv X ag σ H s):∀b o,X.base.get? b=some o->s.heap.get? b=some o:=fun b o e=>(I.bs b o e).1
theorem Inv.mod(I:Inv X ag σ H s):Mod X.K X.mg X.base:=I.ok.mod
theorem Inv.kIn(I:Inv X ag σ H s):X.K.In s.heap:=I.ok.mod.kin.keeps I.bk
theorem Inv.lt(I:Inv X ag σ H s):X.env.locals<s.heap.objs.size:=let⟨_,hn,_⟩:=I.loc;hn.lt
theorem Inv.sz(I:Inv X ag σ H s):X.s₀.heap.objs.size<=s.heap.objs.size:=L5 I.ok.above (Nat.le_of_lt I.lt)
theorem Inv.nofs(I:Inv X ag σ H s) {a:F9}(h:s.heap.objs.size<=a):a∉X.fs:=fun hb=>by
 obtain⟨_,o,ho,_⟩:=I.ok.funs.mem hb;exact absurd (F8 (F5 ho) (L5 I.sz h)) (O2 _)
theorem Inv.cne(I:Inv X ag σ H s):∀x c,X.env.cells.lookup x=some c->c≠X.env.locals:=fun x c e z=>by
 obtain⟨v,o,ho,hd⟩:=I.cell x c e;obtain⟨m,⟨o',es,ep,ho',hd',_⟩,_⟩:=I.loc;rw[z,ho']at ho;cases ho;rw[hd']at hd;cases hd
theorem Inv.funs(I:Inv X ag σ H s):s.heap.FunFrames X.base X.outer:=by
 have all:∀(l:List Env),(∀b∈frs l,b∈X.fs)->X.s₀.heap.FunFrames X.base l->s.heap.FunFrames X.base l:=by
  intro l
  induction l with
  |nil=>intro _ _;trivial
  |cons env r ih =>
   intro hs hl;obtain⟨hk,⟨L,o,hf,hn,ho,hd⟩,hr⟩:=hl;have hL:L∈X.fs:=hs L (by unfold frs;rw[Q3,hf];exact L9);obtain⟨sl,e⟩:=I.base.slot L o ho (I.ok.frf L hL) hL fun z=>I.ok.exfs L z hL;exact⟨hk,⟨L,_,hf,hn,e,hd⟩,ih (fun b hb=>hs b (by unfold frs;rw[Q3,hf];exact K8 _ hb)) hr⟩
 exact all X.outer (fun _ hb=>hb) I.ok.funs
theorem Inv.stack(I:Inv X ag σ H s):s.heap.FunFrames X.base X.stack:=by
 rcases I.ok.stk with e|⟨e,hf⟩
 ·rw[e];exact I.funs
 ·rw[e];obtain⟨m,hn,_⟩:=I.loc;refine .cons (by rw[I.ok.kind];decide) hf hn ?_ I.funs;exact K5.get?_none_of_le (L5 I.ok.bsz I.ok.above)
theorem Inv.stkSub(I:Inv X ag σ H s):∀b∈frs X.stack,b∈X.env.locals::X.fs:=fun b hb=>by
 rcases I.ok.stk with e|⟨e,hf⟩
 ·rw[e]at hb;exact K8 _ hb
 ·rw[e]at hb;unfold frs at hb;rw[Q3,hf]at hb;exact hb
theorem Inv.stkFree(I:Inv X ag σ H s):∀b∈frs X.stack,H b=none:=fun b hb=>by
 rcases N7.mp (I.stkSub b hb)with e|hb
 ·rw[e];exact I.free
 ·obtain⟨_,o,ho,_⟩:=I.ok.funs.mem hb;exact I.base.free b o ho (I.ok.frf b hb) fun z=>I.ok.exfs b z hb
theorem Inv.step{g':Array GenState}{t':Nat}{d':Drawn}{ch:List F9}(I:Inv X ag σ H s)
  (hch:∀b∈ch,(b∈X.ex∨X.s₀.heap.objs.size<=b)/\b≠X.env.locals/\(∀x c,X.env.cells.lookup x=some c->c≠b)/\∀p∈X.pn++ag,p.1≠b)
  (keep:∀b o,b≠X.env.locals->b∉X.fs->b∉ch->s.heap.get? b=some o->H b=none->h'.get? b=some o)
  (slot:∀b o,b≠X.env.locals->b∈X.fs->b∉ch->s.heap.get? b=some o->H b=none->∃sl,h'.get? b=some { o with slots:=sl }) (free:∀b o,b∉ch->s.heap.get? b=some o->H b=none->H' b=none)
  (there:∀b o,b∉ch->s.heap.get? b=some o->∃o',h'.get? b=some o')
  (tups:∀b xs,H b=some (.tup xs)->H' b=some (.tup xs)) (frzs:∀b o u,H b=some (.frz o u)->H' b=some (.frz o u)) (tbls:∀b ps,H b=some (.tbl ps)->∃more,H' b=some (.tbl (ps++more)))
  (ns:∀m,s.heap.Ns X.env.locals m->h'.Ns X.env.locals m) (hok:HOk X.prog X.w H' h') (hg:ab1 g') :
  Inv X ag σ H' { s with heap:=h',gens:=g',drawn:=d',toks:=t' }:=by
 have neL:∀b o,X.s₀.heap.get? b=some o->b≠X.env.locals:=fun b o e=>I0 (F8 (F5 e) I.ok.above);have neC:∀b o,X.s₀.heap.get? b=some o->b∉X.ex->b∉ch:=fun b o e hx hb=>by
  rcases(hch b hb).1 with z|z
  ·exact hx z
  ·exact absurd (F8 (F5 e) z) (O2 _)
 have cellK:∀x c,X.env.cells.lookup x=some c->∀v,s.heap.IsCell c v->h'.IsCell c v:=fun x c e v ⟨o,ho,hd⟩=>by
  have nch:c∉ch:=fun z=>(hch c z).2.2.1 x c e rfl
  by_cases hc:c∈X.fs
  ·obtain⟨sl,q⟩:=slot c o (I.cne x c e) hc nch ho (I.freeC x c e);exact⟨_,q,hd⟩
  ·exact⟨o,keep c o (I.cne x c e) hc nch ho (I.freeC x c e),hd⟩
 refine⟨I.ok,I.os,hg,⟨fun b o e n hb hx=>?_,fun b o e n hb hx=>?_,fun b o e n hx=>?_,fun b o e hx=>?_,fun b xs e=>tups b xs (I.base.tups b xs e),fun b o xs e=>frzs b o xs (I.base.frzs b o xs e),fun b ps e=>?_⟩,?_,fun x c e=>?_,?_,fun x c e=>?_,fun p hp=>?_,hok,I.len⟩
 ·exact keep b o (neL b o e) hb (neC b o e hx) (I.base.keep b o e n hb hx) (I.base.free b o e n hx)
 ·obtain⟨sl,e1⟩:=I.base.slot b o e n hb hx;obtain⟨sl',e2⟩:=slot b _ (neL b o e) hb (neC b o e hx) e1 (I.base.free b o e n hx);exact⟨sl',e2⟩
 ·obtain⟨o',e1⟩:=I.base.there b o e hx;exact free b o' (neC b o e hx) e1 (I.base.free b o e n hx)
 ·obtain⟨o',e1⟩:=I.base.there b o e hx;exact there b o' (neC b o e hx) e1
 ·obtain⟨m1,e1⟩:=I.base.tbls b ps e;obtain⟨m2,e2⟩:=tbls b _ e1;exact⟨m1++m2,by rw[e2,Array.append_assoc]⟩
 ·obtain⟨m,hn,hl⟩:=I.loc;refine⟨m,ns m hn,fun i x v e1 e2 e3=>?_⟩;obtain⟨u,r,l⟩:=hl i x v e1 e2 e3;refine⟨u,r,?_⟩;rcases l with l|⟨k,c,e,z⟩
  ·exact .inl l
  ·exact .inr ⟨k,c,e,cellK x c e _ z⟩
 ·obtain⟨v,z⟩:=I.cell x c e;exact⟨v,cellK x c e v z⟩
 ·obtain⟨m,⟨o,_,_,ho,_⟩,_⟩:=I.loc;exact free _ o (fun z=>(hch _ z).2.1 rfl) ho I.free
 ·obtain⟨v,o,ho,hd⟩:=I.cell x c e;exact free c o (fun z=>(hch c z).2.2.1 x c e rfl) ho (I.freeC x c e)
 ·obtain⟨e,n,ne,nf,d⟩:=I.pin p hp;have nch:p.1∉ch:=fun z=>(hch p.1 z).2.2.2 p hp rfl;exact⟨keep p.1 p.2 ne nf nch e n,free p.1 p.2 nch e n,ne,nf,d⟩
theorem Inv.un{t':Nat}(I:Inv X ag σ H s) (u:Un X.fs [] H H' s.heap h') (hok:HOk X.prog X.w H' h'):Inv X ag σ H' { s with heap:=h',toks:=t' }:=by
 obtain⟨m,⟨o,es,ep,ho,r⟩,_⟩:=id I.loc;obtain⟨sl,hL⟩:=u.any ho I.free (by simp);exact I.step (g':=s.gens) (d':=s.drawn) (ch:=[]) (fun _ z=>nomatch z) (fun b o _ hb _ e n=>u.keep b o e n hb (by simp)) (fun b o _ hb _ e n=>u.slot b o e n hb (by simp)) (fun b o _ e n=>u.free b o e n (by simp)) (fun b o _ e=>u.there b o e (by simp)) u.tups u.frzs u.tbls (fun m' hm=>by
  obtain⟨o',es',ep',ho',r'⟩:=hm;rw[ho]at ho';cases ho';exact⟨_,es',ep',hL,r'⟩) hok I.bare
theorem Inv.call{g':Array GenState}{t':Nat}{d':Drawn}{ch:List F9}(I:Inv X ag σ H s) (u:Un (frs X.stack) ch H H' s.heap h') (hok:HOk X.prog X.w H' h') (hg:ab1 g')
  (hch:∀b∈ch,(b∈X.ex∨X.s₀.heap.objs.size<=b)/\b≠X.env.locals/\(∀x c,X.env.cells.lookup x=some c->c≠b)/\∀p∈X.pn++ag,p.1≠b) :
  Inv X ag σ H' { s with heap:=h',gens:=g',drawn:=d',toks:=t' }:=by
 obtain⟨m,⟨o,es,ep,ho,r⟩,_⟩:=id I.loc;obtain⟨sl,hL⟩:=u.any ho I.free fun z=>(hch _ z).2.1 rfl;exact I.step (ch:=ch) hch (fun b o hL hb hc e n=>u.keep b o e n (fun z=>(N7.mp (I.stkSub b z)).elim hL hb) hc) (fun b o _ _ hc e n=>u.any e n hc) (fun b o hc e n=>u.free b o e n hc) (fun b o hc e=>u.there b o e hc) u.tups u.frzs u.tbls (fun m' hm=>by
  obtain⟨o',es',ep',ho',r'⟩:=hm;rw[ho]at ho';cases ho';exact⟨_,es',ep',hL,r'⟩) hok hg
theorem Inv.turned{t':Nat}{it:F9}(I:Inv X ag σ H s) (k:∀b o,b≠it->s.heap.get? b=some o->h'.get? b=some o) (hn:H it=none) (hL:it≠X.env.locals)
  (h1:it∈X.ex∨X.s₀.heap.objs.size<=it) (h2:∀x c,X.env.cells.lookup x=some c->c≠it) (h3:∀p∈X.pn++ag,p.1≠it):Inv X ag σ H { s with heap:=h',toks:=t' }:=by
 have nit:∀b u,H b=some u->b≠it:=fun b u e z=>by rw[z,hn]at e;cases e
 refine I.step (g':=s.gens) (d':=s.drawn) (ch:=[it]) (fun b hb=>?_) (fun b o _ _ hc e _=>k b o (fun z=>hc (by simp[z])) e) (fun b o _ _ hc e _=>⟨o.slots,k b o (fun z=>hc (by simp[z])) e⟩) (fun _ _ _ _ n=>n)
  (fun b o hc e=>⟨o,k b o (fun z=>hc (by simp[z])) e⟩) (fun _ _ e=>e) (fun _ _ _ e=>e) (fun b ps e=>⟨#[],by rw[e];simp⟩) (fun m hm=>?_) (fun b u e=>?_) I.bare
 ·have e:b=it:=by simpa using hb
  subst e;exact⟨h1,hL,h2,h3⟩
 ·obtain⟨o,es,ep,ho,r⟩:=hm;exact⟨o,es,ep,k _ o (X7 hL) ho,r⟩
 ·refine(I.hok b u e).stay (fun c v hc q=>k c v ?_ q) (fun _ q=>q) fun _ _ q=>q;rcases hc with z|z
  ·rw[z];exact nit b u e
  ·exact nit c _ z
theorem Inv.tok(I:Inv X ag σ H s) (t:Nat):Inv X ag σ H { s with toks:=t }:=I.un (h':=s.heap) (t':=t) Un.refl I.hok
theorem Inv.kept{t':Nat}(I:Inv X ag σ H s) (k:∀b u,s.heap.get? b=some u->h'.get? b=some u):Inv X ag σ H { s with heap:=h',toks:=t' }:=I.un (Un.kept k) (I.hok.kept k)
theorem Inv.laid{a:F9}{o:HO}{t':Nat}(I:Inv X ag σ H s) (k:∀b u,s.heap.get? b=some u->h'.get? b=some u) (hp:s.heap.objs.size<=a) (new:bB X.prog X.w (upd H a o) h' a o) :
  Inv X ag σ (upd H a o) { s with heap:=h',toks:=t' }:=I.un (Un.laid k hp (I.hok.fresh hp)) (I.hok.laid k hp new)
theorem Inv.write{x e:F9}{o:HO}{t':Nat}(I:Inv X ag σ H s) (mu:Mut (H x)) (he:e=x∨H e=some (.own x)) (k:∀b u,b≠e->s.heap.get? b=some u->h'.get? b=some u) (heo:∃u,h'.get? e=some u)
  (new:bB X.prog X.w (upd H x o) h' x o):Inv X ag σ (upd H x o) { s with heap:=h',toks:=t' }:=I.un (Un.write mu he k heo) (I.hok.write mu he k heo new)
theorem Inv.pins_of{pins':List (F9×Obj)}(I:Inv X ag σ H s) (h:∀p∈pins',s.heap.get? p.1=some p.2/\H p.1=none/\p.1≠X.env.locals/\p.1∉X.fs/\∀v,p.2.data≠.cell v):Inv X pins' σ H s :=
 ⟨I.ok,I.os,I.bare,I.base,I.loc,I.cell,I.free,I.freeC,fun p hp=>(V0.mp hp).elim (fun z=>I.pin p (List.mem_append_left _ z)) (h p),I.hok,I.len⟩
theorem qp{N:List Str}(hN:N.Nodup) {i j:Nat}{x:Str}(a:N[i]?=some x) (b:N[j]?=some x):i=j:=by
 obtain⟨h1,e1⟩:=L7.mp a;obtain⟨h2,e2⟩:=L7.mp b;exact(List.getElem_inj hN).mp (e1.trans e2.symm)
theorem i8{M:Model}{A:N5}{E:u8->F0->Prop}{i:Nat}{x:Str}{v:V}{u:u8}{Q:Unit->F0->Prop}(I:Inv X ag σ H s) (hN:X.N.Nodup) (hi:X.N[i]?=some x) (hx:Loc X.env.scope x) (r:aE v u)
  (h:∀s',Inv X ag (σ.set i (some v)) H s'->(∃a,O0 a s.heap s'.heap/\(a=X.env.locals∨X.env.cells.lookup x=some a))->Q () s') (hf:X.fn x=true∨X.env.scope.names.lookup x=some .local:=by first|exact .inl rfl|exact .inr rfl|assumption):J3 M A (storeName X.env x u) Q E s:=by
 obtain⟨m,hn,hl⟩:=id I.loc;have hcls:(X.env.scope.kind==.class || (X.env.scope.kind==.module&&X.env.locals != X.env.globals))=false:=by rw[I.ok.kind];rfl
 have hiσ:i<σ.length:=by rw[I.len];exact(L7.mp hi).1
 have cne:=I.cne;have tracked:∀{a:F9} {h':K5},(∃o,s.heap.get? a=some o/\H a=none)->O0 a s.heap h'->HOk X.prog X.w H h':=fun {a h'} ha hs b ob e=>by
  obtain⟨_,_,hfree⟩:=ha;refine(I.hok b ob e).stay (fun c w' hc q=>(hs.2 c ?_).trans q) (fun _ q=>q) fun _ _ q=>q;rintro rfl;rcases hc with rfl|hc
  ·rw[hfree]at e;cases e
  ·rw[hfree]at hc;cases hc
 rcases hx with hk|hk
 ·refine wpAny_storeName_local hk hn (fun h' hn' hs=>?_) hcls;obtain⟨oL,_,_,hoL,_⟩:=id hn;refine h _ ⟨I.ok,I.os,I.bare,⟨fun b o e n hb hx=>?_,fun b o e n hb hx=>?_,I.base.free,fun b o e hx=>?_,I.base.tups,I.base.frzs,I.base.tbls⟩,⟨_,hn',fun j y v' e1 e2 e3=>?_⟩,fun y c e=>?_,I.free,I.freeC,fun p hp=>?_,tracked ⟨oL,hoL,I.free⟩ hs,by simpa using I.len⟩ ⟨_,hs,.inl rfl⟩
  ·exact(hs.2 b (I0 (F8 (F5 e) I.ok.above))).trans (I.base.keep b o e n hb hx)
  ·obtain⟨sl,e1⟩:=I.base.slot b o e n hb hx;exact⟨sl,(hs.2 b (I0 (F8 (F5 e) I.ok.above))).trans e1⟩
  ·obtain⟨o',e1⟩:=I.base.there b o e hx;exact⟨o',(hs.2 b (I0 (F8 (F5 e) I.ok.above))).trans e1⟩
  ·by_cases hj:j=i
   ·subst hj;rw[hi]at e1;cases e1;rw[Q5 hiσ]at e2;cases e2;exact⟨u,r,.inl ⟨hk,by simp⟩⟩
   ·rw[U5 (X7 hj)]at e2;obtain⟨u',r',q⟩:=hl j y v' e1 e2 e3;refine⟨u',r',?_⟩;rcases q with⟨k,e⟩|⟨k,c,e,z⟩
    ·refine .inl ⟨k,?_⟩;have:y≠x:=fun e=>hj (qp hN e1 (e▸hi));simp[this,e]
    ·exact .inr ⟨k,c,e,z.sameBut hs (cne y c e)⟩
  ·obtain⟨w',z⟩:=I.cell y c e;exact⟨w',z.sameBut hs (cne y c e)⟩
  ·obtain⟨e,n,ne,nf,d⟩:=I.pin p hp;exact⟨(hs.2 p.1 ne).trans e,n,ne,nf,d⟩
 ·have hfn:X.fn x=true:=by
   rcases hf with z|z
   ·exact z
   ·rw[z]at hk;cases hk
  obtain⟨c,hc⟩:=I.ok.has x (.inl hk);obtain⟨w',z⟩:=I.cell x c hc;refine wpAny_storeName_cell I.ok.kind hk hc z (fun h' hc' hs=>?_);obtain⟨oc,hoc,hocd⟩:=id z;refine h { s with heap:=h' } ⟨I.ok,I.os,I.bare,⟨fun b o e n hb hx=>?_,fun b o e n hb hx=>?_,I.base.free,fun b o e hx=>?_,I.base.tups,I.base.frzs,I.base.tbls⟩,⟨m,hn.sameBut hs (X7 (cne x c hc)),fun j y v' e1 e2 e3=>?_⟩,fun y c' e=>?_,I.free,I.freeC,fun p hp=>?_,tracked ⟨oc,hoc,I.freeC x c hc⟩ hs,by simpa using I.len⟩ ⟨c,hs,.inr hc⟩
  ·exact(hs.2 b (I0 (F8 (F5 e) (I.ok.cab x c hfn hc)))).trans (I.base.keep b o e n hb hx)
  ·obtain⟨sl,e1⟩:=I.base.slot b o e n hb hx;exact⟨sl,(hs.2 b (I0 (F8 (F5 e) (I.ok.cab x c hfn hc)))).trans e1⟩
  ·obtain⟨o',e1⟩:=I.base.there b o e hx;exact⟨o',(hs.2 b (I0 (F8 (F5 e) (I.ok.cab x c hfn hc)))).trans e1⟩
  ·by_cases hj:j=i
   ·subst hj;rw[hi]at e1;cases e1;rw[Q5 hiσ]at e2;cases e2;exact⟨u,r,.inr ⟨.inl hk,c,hc,hc'⟩⟩
   ·rw[U5 (X7 hj)]at e2;obtain⟨u',r',q⟩:=hl j y v' e1 e2 e3;refine⟨u',r',?_⟩;rcases q with q|⟨k,c',e,z'⟩
    ·exact .inl q
    ·refine .inr ⟨k,c',e,z'.sameBut hs ?_⟩;rintro rfl;exact hj (qp hN e1 (I.ok.inj _ _ _ e hc▸hi))
  ·by_cases hcc:c'=c
   ·subst hcc;exact⟨_,hc'⟩
   ·obtain⟨w2,z2⟩:=I.cell y c' e;exact⟨w2,z2.sameBut hs hcc⟩
  ·obtain⟨e,n,ne,nf,d⟩:=I.pin p hp;refine⟨(hs.2 p.1 ?_).trans e,n,ne,nf,d⟩;intro q;rw[q,hoc]at e;have q':oc=p.2:=J4 e;exact d w' (by rw[<-q'];exact hocd)
theorem lH{M:Model}{A:N5}{E:u8->F0->Prop}{i:Nat}{x:Str}{v:V}{u:u8}{Q:Unit->F0->Prop}(I:Inv X ag σ H s) (hN:X.N.Nodup) (hi:X.N[i]?=some x) (hx:Loc X.env.scope x) (r:aE v u)
  (h:∀s',Inv X ag (σ.set i (some v)) H s'->Q () s') (hf:X.fn x=true∨X.env.scope.names.lookup x=some .local:=by first|exact .inl rfl|exact .inr rfl|assumption):J3 M A (storeName X.env x u) Q E s :=
 i8 I hN hi hx r (fun s' I' _=>h s' I') hf
theorem Inv.call'{s':F0}{ch:List F9}(I:Inv X ag σ H s) (ho:s'.os=s.os) (u:Un (frs X.stack) ch H H' s.heap s'.heap) (hok:HOk X.prog X.w H' s'.heap) (hg:ab1 s'.gens)
  (hch:∀b∈ch,(b∈X.ex∨X.s₀.heap.objs.size<=b)/\b≠X.env.locals/\(∀x c,X.env.cells.lookup x=some c->c≠b)/\∀p∈X.pn++ag,p.1≠b):Inv X ag σ H' s':=by
 obtain⟨h',g',d',t',o'⟩:=s';have e:o'=s.os:=ho;subst e;exact I.call (g':=g') (t':=t') (d':=d') u hok hg hch
end
abbrev XK:=u8->Option F9->Hp->Prop
noncomputable abbrev St:=List (Option V)
abbrev VK:=V->Hp->Prop
abbrev TE:=St->Hp->VK->Prop
abbrev TT:=St->Hp->(Bool->Hp->Prop)->Prop
abbrev TA:=St->Hp->(List V->Hp->Prop)->Prop
structure pz where
 nx:St->Hp->Prop
 rt:VK
 bk:St->Hp->Prop:=fun _ _=>False
 ct:St->Hp->Prop:=fun _ _=>False
abbrev TS:=pz->St->Hp->Prop
def EP(X:Cx) (ag:List (F9×Obj)) (σ:St) (Q:VK) (u:u8) (s':F0):Prop:=∃v H',Inv X ag σ H' s'/\aE v u/\Q v H'
def TP(X:Cx) (ag:List (F9×Obj)) (σ:St) (Q:Bool->Hp->Prop) (b:Bool) (s':F0):Prop:=∃H',Inv X ag σ H' s'/\Q b H'
def AP(X:Cx) (ag:List (F9×Obj)) (σ:St) (Q:List V->Hp->Prop) (us:List u8) (s':F0):Prop:=∃vs H',Inv X ag σ H' s'/\ay vs us/\Q vs H'
theorem EP.el{X:Cx}{ag:List (F9×Obj)}{σ:St}{Q:VK}{u:u8}{s:F0}{P:Prop}(h:EP X ag σ Q u s) (f:∀(v:V) (H:Hp),Inv X ag σ H s->aE v u->Q v H->P):P:=by
 obtain⟨x1,x2,a,b,c⟩:=h;exact f x1 x2 a b c
theorem AP.el{X:Cx}{ag:List (F9×Obj)}{σ:St}{Q:List V->Hp->Prop}{u:List u8}{s:F0}{P:Prop}(h:AP X ag σ Q u s) (f:∀(v:List V) (H:Hp),Inv X ag σ H s->ay v u->Q v H->P):P:=by
 obtain⟨x1,x2,a,b,c⟩:=h;exact f x1 x2 a b c
theorem TP.el{X:Cx}{ag:List (F9×Obj)}{σ:St}{Q:Bool->Hp->Prop}{u:Bool}{s:F0}{P:Prop}(h:TP X ag σ Q u s) (f:∀(H:Hp),Inv X ag σ H s->Q u H->P):P:=by
 obtain⟨x1,a,b⟩:=h;exact f x1 a b
def SP(X:Cx) (ag:List (F9×Obj)) (D:pz) (f:Flow) (s':F0):Prop :=
 match f with
 |.next=>∃ σ' H',Inv X ag σ' H' s'/\D.nx σ' H'
 |.brk=>∃ σ' H',Inv X ag σ' H' s'/\D.bk σ' H'
 |.cont=>∃ σ' H',Inv X ag σ' H' s'/\D.ct σ' H'
 |.ret u=>∃v σ' H',Inv X ag σ' H' s'/\aE v u/\D.rt v H'
def PE(X:Cx) (e:J5) (t:TE):Prop :=
 ∀(ag:List (F9×Obj)) (s:F0) (σ:St) (H:Hp) (Q:VK),Inv X ag σ H s->t σ H Q->J3 (K6 X.prog X.w) X.A (V1 e X.env) (EP X ag σ Q) X.xe s
def PT(X:Cx) (e:J5) (t:TT):Prop :=
 ∀(ag:List (F9×Obj)) (s:F0) (σ:St) (H:Hp) (Q:Bool->Hp->Prop),Inv X ag σ H s->t σ H Q->J3 (K6 X.prog X.w) X.A (isTrue e X.env (V1 e X.env)) (TP X ag σ Q) X.xe s
def PW(X:Cx) (e:J5) (t:TT):Prop :=
 ∀(whole:Sem u8) (ag:List (F9×Obj)) (s:F0) (σ:St) (H:Hp) (Q:Bool->Hp->Prop),Inv X ag σ H s->t σ H Q->J3 (K6 X.prog X.w) X.A (isTrue e X.env whole) (TP X ag σ Q) X.xe s
theorem PW.pt{X:Cx}{e:J5}{t:TT}(h:PW X e t):PT X e t:=h _
def PA(X:Cx) (es:List J5) (t:TA):Prop :=
 ∀(pos:Pos) (ag:List (F9×Obj)) (s:F0) (σ:St) (H:Hp) (Q:List V->Hp->Prop),Inv X ag σ H s->t σ H Q->J3 (K6 X.prog X.w) X.A (spliced (V8 pos (J7 es X.env))) (AP X ag σ Q) X.xe s
def PS(X:Cx) (st:ab2) (t:TS):Prop :=
 ∀(ag:List (F9×Obj)) (s:F0) (σ:St) (H:Hp) (D:pz),Inv X ag σ H s->t D σ H->J3 (K6 X.prog X.w) X.A (exec st X.env) (SP X ag D) X.xe s
def PSs(X:Cx) (st:List ab2) (t:TS):Prop :=
 ∀(ag:List (F9×Obj)) (s:F0) (σ:St) (H:Hp) (D:pz),Inv X ag σ H s->t D σ H->J3 (K6 X.prog X.w) X.A (execs st X.env) (SP X ag D) X.xe s
theorem thn{α:Type}{t:Sem α}{Q Q':α->F0->Prop}{M:Model}{A:N5}{E:u8->F0->Prop}{s:F0}(h:J3 M A t Q E s) (hQ:∀a s,Q a s->Q' a s):J3 M A t Q' E s:=M0 h hQ fun _ _ x=>x
section
variable{X:Cx}
def Ep(i:Nat):TE:=fun σ H Q=>∃v,σ[i]?=some (some v)/\Q v H
def tC(v:V):TE:=fun _ H Q=>Q v H
theorem BG{i:Nat}{x:Str}{pos:Pos}(hN:X.N[i]?=some x) (hv:Vis X.env.scope x) (hd:(x==("__debug__":Str))=false:=by decide) (hcd:(x==("__classdict__":Str))=false:=by decide):PE X (.Name x pos) (Ep i):=by
 intro ag s σ H Q I h;obtain⟨v,e,h⟩:=h;obtain⟨m,hn,hl⟩:=I.loc;obtain⟨u,r,l⟩:=hl i x v hN e hv;have fin:EP X ag σ Q u s:=⟨v,H,I,r,h⟩;rcases l with⟨hk,hm⟩|⟨hk,c,hc,hcell⟩
 ·exact wpAny_Name (wpAny_loadName_local I.ok.kind hk hn hm fin) hd
 ·rcases hk with hk|hk
  ·exact wpAny_Name (wpAny_loadName_cell I.ok.kind hk hc hcell fin) hd
  ·exact wpAny_Name (wpAny_loadName_free I.ok.kind hk hc hcell fin hcd) hd
theorem Cg{i j pos}:PE X (.Constant (.int i) j pos) (tC (.int i)):=fun _ _ _ H _ I h=>wpAny_Constant_int ⟨.int i,H,I.tok _,⟨_,rfl⟩,h⟩
theorem C5{b j pos}:PE X (.Constant (.bool b) j pos) (tC (.bl b)):=fun _ _ _ H _ I h=>Constant_bool ⟨.bl b,H,I,rfl,h⟩
theorem AA{j pos}:PE X (.Constant .none j pos) (tC .non):=fun _ _ _ H _ I h=>Constant_none ⟨.non,H,I,rfl,h⟩
theorem A1{x j pos}:PE X (.Constant (.str x) j pos) (tC (.str x)):=fun _ _ _ H _ I h=>Calls.Constant_str ⟨.str x,H,I.tok _,⟨_,rfl⟩,h⟩
def Gl(X:Cx) (x:Str):Prop:=X.env.kindOf x=some .globalImplicit
theorem zg{E:u8->F0->Prop}{ag:List (F9×Obj)}{s:F0}{σ:St}{H:Hp}{x:Str}{u:u8}{pos:Pos}{Q:u8->F0->Prop}(I:Inv X ag σ H s) (hg:Gl X x) (hm:X.mg x=some u) (h:Q u s)
  (hd:(x==("__debug__":Str))=false:=by decide):J3 (K6 X.prog X.w) X.A (V1 (.Name x pos) X.env) Q E s :=
 Calls.Name_function_global I.ok.kind hg (Calls.loadGlobal_global (by rw[I.ok.glob];exact I.mod.glob.keeps I.bk) hm h) hd
theorem e8{E:u8->F0->Prop}{ag:List (F9×Obj)}{s:F0}{σ:St}{H:Hp}{x:Str}{u:u8}{pos:Pos}{Q:u8->F0->Prop}(I:Inv X ag σ H s) (hg:Gl X x) (hm:X.mg x=none) (hv:T7 x=some u) (h:Q u s)
  (hn:x≠"__name__":=by decide) (hd:(x==("__debug__":Str))=false:=by decide):J3 (K6 X.prog X.w) X.A (V1 (.Name x pos) X.env) Q E s:=by
 obtain⟨mb,h1,h2⟩:=I.mod.blt;exact Calls.Name_function_global I.ok.kind hg (Calls.loadGlobal_builtin (by rw[I.ok.glob];exact I.mod.glob.keeps I.bk) hm (by rw[I.ok.blt];exact h1.keeps I.bk) ((h2 x hn).trans hv) h) hd
variable{a b:J5}{ta tb:TE}{pos:Pos}
theorem vc(b:J5) {op:CmpOp}(h:op≠.In) (h2:op≠.NotIn):V2 op b=false:=by
 have e1:(op==CmpOp.In)=false:=by cases op<;>first|rfl|exact absurd rfl h
 have e2:(op==CmpOp.NotIn)=false:=by cases op<;>first|rfl|exact absurd rfl h2
 cases b<;>simp[V2,e1,e2]
def tB(t:TE):TT:=fun σ H Q=>t σ H fun x H1=>∃c,x=.bl c/\Q c H1
theorem Az{e:J5}{t:TE}(h:PE X e t) (he:∀whole,isTrue e X.env whole=(do let v <-whole;standAt e.pos;ac3 [v] (truthy v)):=by intro _;rfl):PT X e (tB t):=by
 intro ag s σ H Q I hw;refine isTrue_plain (thn (h ag s σ H _ I hw) fun v s1 hup=>hup.el fun x H1 I1 r1 q1=>?_) (he _);obtain⟨d,rfl,q⟩:=q1;cases r1;exact U4 ⟨H1,I1,q⟩
variable{tA tB':TT}{br:List J5}
def EM(t u:TT):TT:=fun σ H Q=>t σ H fun c H1=>if c=true then u σ H1 Q else Q false H1
def tOr(t u:TT):TT:=fun σ H Q=>t σ H fun c H1=>if c=true then Q true H1 else u σ H1 Q
def EA(t:TT):TT:=fun σ H Q=>t σ H fun c H1=>Q (!c) H1
theorem yV(ha:PT X a tA):PW X (.BoolOp .And [a] pos) tA:=by
 intro wh ag s σ H Q I h;refine isTrue_and (thn (ha ag s σ H Q I h) fun c s1 e=>?_);cases c with
 |true=>exact isTrue_and_nil e
 |false=>exact e
theorem B6(ha:PT X a tA):PW X (.BoolOp .Or [a] pos) tA:=by
 intro wh ag s σ H Q I h;refine isTrue_or (thn (ha ag s σ H Q I h) fun c s1 e=>?_);cases c with
 |false=>exact isTrue_or_nil e
 |true=>exact e
theorem By(ha:PT X a tA) (hb:PW X (.BoolOp .And (b::br) pos) tB'):PW X (.BoolOp .And (a::b::br) pos) (EM tA tB'):=by
 intro wh ag s σ H Q I h;refine isTrue_and (thn (ha ag s σ H _ I h) fun c s1 hup=>hup.el fun H1 I1 q1=>?_);cases c with
 |true=>exact hb wh ag s1 σ H1 Q I1 q1
 |false=>exact⟨H1,I1,q1⟩
theorem Dh(ha:PT X a tA) (hb:PW X (.BoolOp .Or (b::br) pos) tB'):PW X (.BoolOp .Or (a::b::br) pos) (tOr tA tB'):=by
 intro wh ag s σ H Q I h;refine isTrue_or (thn (ha ag s σ H _ I h) fun c s1 hup=>hup.el fun H1 I1 q1=>?_);cases c with
 |true=>exact⟨H1,I1,q1⟩
 |false=>exact hb wh ag s1 σ H1 Q I1 q1
theorem Cw(ha:PT X a tA):PT X (.UnaryOp .Not a pos) (EA tA):=by
 intro ag s σ H Q I h;exact isTrue_not (ha ag s σ H (fun c H1=>Q (!c) H1) I h)
def Ds(ta tb:TE):TE:=fun σ H Q=>ta σ H fun x H1=>∃c,x=.bl c/\if c=true then tb σ H1 Q else Q (.bl false) H1
theorem AI{op}{t:TE}(h:PE X a t):PE X (.BoolOp op [a] pos) t:=fun ag s σ H Q I hw=>BoolOp_one (h ag s σ H Q I hw)
theorem BX(ha:PE X a ta) (hb:PE X (.BoolOp .And (b::br) pos) tb):PE X (.BoolOp .And (a::b::br) pos) (Ds ta tb):=by
 intro ag s σ H Q I h;refine BoolOp_and (thn (ha ag s σ H _ I h) fun v s1 hup=>hup.el fun x H1 I1 r1 q1=>?_);obtain⟨c,rfl,q1⟩:=q1;cases r1;refine U4 ?_;cases c with
 |true=>exact hb ag s1 σ H1 Q I1 q1
 |false=>exact⟨.bl false,H1,I1,rfl,q1⟩
def tIf(t:TT) (ta tb:TE):TE:=fun σ H Q=>t σ H fun c H1=>if c=true then ta σ H1 Q else tb σ H1 Q
theorem wy{c:J5}(hc:PT X c tA) (ha:PE X a ta) (hb:PE X b tb):PE X (.IfExp c a b pos) (tIf tA ta tb):=by
 intro ag s σ H Q I h;refine wpAny_IfExp (thn (hc ag s σ H _ I h) fun d s1 hup=>hup.el fun H1 I1 q1=>?_);cases d with
 |true=>exact ha ag s1 σ H1 Q I1 q1
 |false=>exact hb ag s1 σ H1 Q I1 q1
end
def SqL(K:o0) (H:Hp) (a:F9) (xs:List V):Prop :=
 Rd H a (.lst xs) ∨
  ∃(o:Obj) (its:Array u8) (n:Nat),K.lookup a=some o/\o.cls=.type "list"/\o.dict=none/\o.data=.seq its n/\its.size<=F2/\ay xs its.toList
def SqT(K:o0) (H:Hp) (a:F9) (xs:List V):Prop :=
 Rd H a (.tup xs) ∨
  ∃(o:Obj) (its:Array u8) (n:Nat),K.lookup a=some o/\(o.cls=.type "tuple"/\o.dict=none)/\o.data=.seq its n/\its.size<=F2/\ay xs its.toList
noncomputable def EW:u8->Option V
 |.none=>some .non
 |.bool b=>some (.bl b)
 |.int i _=>some (.int i)
 |.str x _=>some (.str x)
 |.bytes b _=>some (.byt b)
 |.float b _=>some (.flt b)
 |.ref a=>some (.ref a)
 |.type n=>some (.ty n)
 |_=>none
theorem aE.abs{x:V}{u:u8}(r:aE x u):EW u=some x:=by
 cases x with
 |non=>cases r;rfl
 |bl _=>cases r;rfl
 |int _=>obtain⟨t,rfl⟩:=r;rfl
 |str _=>obtain⟨t,rfl⟩:=r;rfl
 |byt _=>obtain⟨t,rfl⟩:=r;rfl
 |flt _=>obtain⟨t,rfl⟩:=r;rfl
 |ref _=>cases r;rfl
 |ty _=>cases r;rfl
theorem aE.inj{x y:V}{u:u8}(r:aE x u) (q:aE y u):x=y:=J4 (r.abs.symm.trans q.abs)
theorem ay.inj:∀{xs ys:List V}{us:List u8},ay xs us->ay ys us->xs=ys
 |_,_,_,.nil,.nil=>rfl
 |_,_,_,.cons r t,.cons r' t'=>by rw[r.inj r',ay.inj t t']
section
variable{X:Cx}{ag:List (F9×Obj)}{σ:St}{H:Hp}{s:F0}{a:F9}{xs ys:List V}
theorem SqL.of{K:o0}(h:H a=some (.lst xs)):SqL K H a xs:=.inl (.inl h)
theorem SqT.of{K:o0}(h:H a=some (.tup xs)):SqT K H a xs:=.inl (.inl h)
theorem Inv.list(I:Inv X ag σ H s) (h:SqL X.K H a xs):∃its:List u8,ay xs its/\PlainL s.heap a its.toArray/\xs.length<=F2:=by
 rcases h with h|⟨o,its,n,hk,hc,hd,hs,hz,r⟩
 ·obtain⟨z,its,n,r,e⟩:=h.ok I.hok;exact⟨its,r,⟨_,n,e,rfl,rfl,rfl⟩,z⟩
 ·refine⟨its.toList,r,⟨o,n,I.kIn a o hk,hc,hd,by simpa using hs⟩,?_⟩;have e:=r.length;simp only[U7]at e
  lia
theorem Inv.tuple(I:Inv X ag σ H s) (h:SqT X.K H a xs):∃its:List u8,ay xs its/\ac9 s.heap a its.toArray/\xs.length<=F2:=by
 rcases h with h|⟨o,its,n,hk,hc,hs,hz,r⟩
 ·obtain⟨z,its,r,p⟩:=h.ok I.hok;exact⟨its,r,p.tup,z⟩
 ·refine⟨its.toList,r,⟨o,I.kIn a o hk,hc.1,n,by simpa using hs⟩,?_⟩;have e:=r.length;simp only[U7]at e
  lia
theorem Inv.list_inj(I:Inv X ag σ H s) (h:SqL X.K H a xs) (h':SqL X.K H a ys):xs=ys:=by
 obtain⟨its,r,⟨o,n,e,_,_,d⟩,_⟩:=I.list h;obtain⟨its',r',⟨o',n',e',_,_,d'⟩,_⟩:=I.list h';rw[e]at e';cases e';rw[d]at d';injection d' with d1 _
 have:its=its':=by simpa using congrArg Array.toList d1
 subst this;exact r.inj r'
theorem Inv.tuple_inj(I:Inv X ag σ H s) (h:SqT X.K H a xs) (h':SqT X.K H a ys):xs=ys:=by
 obtain⟨its,r,⟨o,e,_,n,d⟩,_⟩:=I.tuple h;obtain⟨its',r',⟨o',e',_,n',d'⟩,_⟩:=I.tuple h';rw[e]at e';cases e';rw[d]at d';injection d' with d1 _
 have:its=its':=by simpa using congrArg Array.toList d1
 subst this;exact r.inj r'
end
abbrev Cx.wish(X:Cx) (E:u8->F0->Prop):Cx:={ X with xe:=E }
abbrev Cx.nox(X:Cx):Cx:=X.wish fun _ _=>False
theorem Cx.Ok.wish{X:Cx}(ok:X.Ok) (E:u8->F0->Prop):(X.wish E).Ok :=
 ⟨ok.mod,ok.kind,ok.glob,ok.blt,ok.above,ok.inj,ok.has,ok.cab,ok.hd,ok.frames,ok.stk,ok.exf,ok.bs,ok.bsz,ok.noex,ok.exfs,ok.funs,ok.frf⟩
theorem Cx.Ok.unwish{X:Cx}{E:u8->F0->Prop}(ok:(X.wish E).Ok):X.Ok :=
 ⟨ok.mod,ok.kind,ok.glob,ok.blt,ok.above,ok.inj,ok.has,ok.cab,ok.hd,ok.frames,ok.stk,ok.exf,ok.bs,ok.bsz,ok.noex,ok.exfs,ok.funs,ok.frf⟩
section
variable{X:Cx}{ag:List (F9×Obj)}{σ:St}{H:Hp}{s:F0}{E:u8->F0->Prop}
theorem Inv.wish(I:Inv X ag σ H s) (E:u8->F0->Prop):Inv (X.wish E) ag σ H s:=⟨I.ok.wish E,I.os,I.bare,I.base,I.loc,I.cell,I.free,I.freeC,I.pin,I.hok,I.len⟩
theorem Inv.unwish(I:Inv (X.wish E) ag σ H s):Inv X ag σ H s:=⟨I.ok.unwish,I.os,I.bare,I.base,I.loc,I.cell,I.free,I.freeC,I.pin,I.hok,I.len⟩
theorem SP.unwish{D:pz}{f:Flow}{s':F0}(h:SP (X.wish E) ag D f s'):SP X ag D f s':=by
 cases f with
 |next=>obtain⟨σ',H',I,q⟩:=h;exact⟨σ',H',I.unwish,q⟩
 |brk=>obtain⟨σ',H',I,q⟩:=h;exact⟨σ',H',I.unwish,q⟩
 |cont=>obtain⟨σ',H',I,q⟩:=h;exact⟨σ',H',I.unwish,q⟩
 |ret u=>obtain⟨v,σ',H',I,r,q⟩:=h;exact⟨v,σ',H',I.unwish,r,q⟩
theorem PSs.nox{st:List ab2}{t:TS}(h:PSs X.nox st t):PSs X st t:=fun ag s σ H D I hw =>
 M0 (h ag s σ H D (I.wish _) hw) (fun _ _ q=>q.unwish) fun _ _ z=>U8 z
end
section
variable{X:Cx}{st:ab2}{br:List ab2}{t u:TS}{e:J5}{te:TE}{pos:Pos}
def CC:TS:=fun D σ H=>D.nx σ H
def Et(t u:TS):TS:=fun D σ H=>t { D with nx:=u D } σ H
theorem zc:PSs X [] CC:=fun _ _ σ H _ I h=>X8 ⟨σ,H,I,h⟩
theorem vj(h1:PS X st t) (h2:PSs X br u):PSs X (st::br) (Et t u):=by
 intro ag s σ H D I h;refine wpAny_execs_cons (thn (h1 ag s σ H { D with nx:=u D } I h) fun f s1 q=>?_);cases f with
 |next =>
  obtain⟨σ',H',I',q⟩:=q;exact h2 ag s1 σ' H' D I' q
 |ret v=>exact q
 |brk=>exact q
 |cont=>exact q
theorem zf(h1:PS X st t):PSs X [st] t:=by
 intro ag s σ H D I h;refine wpAny_execs_cons (thn (h1 ag s σ H D I h) fun f s1 q=>?_);cases f with
 |next=>exact X8 q
 |ret v=>exact q
 |brk=>exact q
 |cont=>exact q
theorem Inv.quiet{ag:List (F9×Obj)}{σ:St}{H:Hp}{s:F0}(I:Inv X ag σ H s):interactive X.env=false:=by simp[interactive,I.ok.kind]
def CO(te:TE):TS:=fun D σ H=>te σ H fun _ H1=>D.nx σ H1
theorem yf(he:PE X e te) (hs:W9 e none pos.line X.env=V9 false:=by rfl):PS X (.Expr e pos) (CO te):=by
 intro ag s σ H D I h;exact wpAny_Expr_any (thn (he ag s σ H _ I h) fun v s1 hup=>hup.el fun x H1 I1 r1 q1=>⟨σ,H1,I1,q1⟩) I.quiet hs
def Ex(te:TE):TS:=fun D σ H=>te σ H D.rt
theorem qS(he:PE X e te):PS X (.Return (some e) pos) (Ex te):=by
 intro ag s σ H D I h;exact wpAny_Return_some (thn (he ag s σ H _ I h) fun v s1 hup=>hup.el fun x H1 I1 r1 q1=>⟨x,σ,H1,I1,r1,q1⟩)
def E1(c:TT) (t u:TS):TS:=fun D σ H=>c σ H fun b H1=>if b=true then t D σ H1 else u D σ H1
theorem Du{c:J5}{a b:List ab2}{tc:TT}(hc:PT X c tc) (ha:PSs X a t) (hb:PSs X b u):PS X (.If c a b pos) (E1 tc t u):=by
 intro ag s σ H D I h;refine wpAny_If (thn (hc ag s σ H _ I h) fun d s1 hup=>hup.el fun H1 I1 q1=>?_);cases d with
 |true=>exact ha ag s1 σ H1 D I1 q1
 |false=>exact hb ag s1 σ H1 D I1 q1
end
abbrev TG:=V->St->Hp->(St->Hp->Prop)->Prop
abbrev TGs:=List V->St->Hp->(St->Hp->Prop)->Prop
def PG(X:Cx) (target:J5) (t:TG):Prop :=
 ∀(ag:List (F9×Obj)) (s:F0) (σ:St) (H:Hp) (v:V) (u:u8) (Q:St->Hp->Prop),Inv X ag σ H s->aE v u->t v σ H Q ->
  J3 (K6 X.prog X.w) X.A (U6 target X.env u) (fun _ s'=>∃ σ' H',Inv X ag σ' H' s'/\Q σ' H') X.xe s
def PGs(X:Cx) (ts:List J5) (t:TGs):Prop :=
 ∀(ag:List (F9×Obj)) (s:F0) (σ:St) (H:Hp) (vs:List V) (us:List u8) (Q:St->Hp->Prop),Inv X ag σ H s->ay vs us->t vs σ H Q ->
  J3 (K6 X.prog X.w) X.A (assignInOrder ((N1 ts X.env).map (·.2)) us) (fun _ s'=>∃ σ' H',Inv X ag σ' H' s'/\Q σ' H') X.xe s
abbrev AZ:=V->V->V->Hp->(Hp->Prop)->Prop
def DD(X:Cx) (t:AZ):Prop :=
 ∀(ag:List (F9×Obj)) (s:F0) (σ:St) (H:Hp) (o i v:V) (ov iv u:u8) (Q:Hp->Prop),Inv X ag σ H s->aE o ov->aE i iv->aE v u->t o i v H Q ->
  J3 (K6 X.prog X.w) X.A (setItem ov iv u) (fun _ s'=>∃H',Inv X ag σ H' s'/\Q H') X.xe s
abbrev TIp:=V->V->Hp->VK->Prop
def PIp(X:Cx) (op:ad6) (t:TIp):Prop :=
 ∀(ag:List (F9×Obj)) (s:F0) (σ:St) (H:Hp) (x y:V) (v u:u8) (Q:VK),Inv X ag σ H s->aE x v->aE y u->t x y H Q ->
  J3 (K6 X.prog X.w) X.A (ad8 op v u) (EP X ag σ Q) X.xe s
section
variable{X:Cx}{pos:Pos}
def lS(i:Nat):TG:=fun v σ H Q=>Q (σ.set i (some v)) H
theorem j8{i:Nat}{x:Str}(hN:X.N.Nodup) (hi:X.N[i]?=some x) (hx:Loc X.env.scope x) (hf:X.fn x=true∨X.env.scope.names.lookup x=some .local:=by first|exact .inl rfl|exact .inr rfl|assumption):PG X (.Name x pos) (lS i):=by
 intro ag s σ H v u Q I r h;exact wpAny_assign_Name (lH I hN hi hx r (fun s' I'=>⟨_,H,I',h⟩) hf)
def A6:TGs:=fun vs σ H Q=>vs=[]/\Q σ H
def wG(t:TG) (u:TGs):TGs:=fun vs σ H Q=>∃v r,vs=v::r/\t v σ H fun σ' H'=>u r σ' H' Q
theorem ou:PGs X [] A6:=by
 intro ag s σ H vs us Q I r h;obtain⟨e,h⟩:=h;subst e;cases r;exact assignInOrder_nil ⟨σ,H,I,h⟩
theorem h8{e:J5}{es:List J5}{t:TG}{u:TGs}(h1:PG X e t) (h2:PGs X es u)
  (hs:(N1 (e::es) X.env).map (·.2)=U6 e X.env::(N1 es X.env).map (·.2):=by rfl):PGs X (e::es) (wG t u):=by
 intro ag s σ H vs us Q I r h;obtain⟨v,vr,e1,h⟩:=h;subst e1;cases r with
 |cons r rr =>
  rw[hs];refine assignInOrder_cons (thn (h1 ag s σ H _ _ _ I r h) fun _ s1 ⟨σ1,H1,I1,q1⟩=>?_);exact h2 ag s1 σ1 H1 _ _ Q I1 rr q1
def BH(K:o0) (n:Nat) (t:TGs):TG:=fun v σ H Q=>∃a xs,v=.ref a/\SqT K H a xs/\xs.length=n/\t xs σ H Q
theorem rA{es:List J5}{k:Nat}{t:TGs}{n:Nat}(hc:X.calm=true) (h:PGs X es t)
  (hn:(N1 es X.env).length=n:=by rfl) (hst:(N1 es X.env).findIdx? (·.1)=none:=by rfl):PG X (.Tuple es k pos) (BH X.K n t):=by
 intro ag s σ H v u Q I r hw;obtain⟨a,xs,e1,hq,hl,hw⟩:=hw;subst e1;cases r;obtain⟨its,rv,ht,hz⟩:=I.tuple hq;refine assign_Tuple_tuple (I.ok.hd hc) ht (by simp[hn,<-hl,rv.length]) hst fun h' hx=>?_;have I1:Inv X ag σ H { s with heap:=h' }:=I.kept (t':=s.toks) fun b o e=>hx b o (I0 (F5 e)) e;exact h ag _ σ H xs _ Q I1 (by simpa using rv) hw
def El(to ti:TE) (t:AZ):TG:=fun v σ H Q=>to σ H fun o H1=>ti σ H1 fun i H2=>t o i v H2 fun H3=>Q σ H3
theorem Bh{o i:J5}{to ti:TE}{t:AZ}(ho:PE X o to) (hi:PE X i ti) (hs:DD X t)
  (ha:∀ v,U6 (.Subscript o i pos) X.env v = (do
   let ov <-ac3 [v] (V1 o X.env)
   let iv <-ac3 [v,ov] (V1 i X.env)
   standAt pos
   ac3 [v,ov,iv] (setItem ov iv v)
   release [v,ov,iv] []):=by intro _;rfl):PG X (.Subscript o i pos) (El to ti t):=by
 intro ag s σ H v u Q I r h;rw[ha];refine s0 (S7 (thn (ho ag s σ H _ I h) fun ov s1 hup=>hup.el fun x H1 I1 r1 q1=>?_));refine s0 (S7 (thn (hi ag s1 σ H1 _ I1 q1) fun iv s2 hup=>hup.el fun y H2 I2 r2 q2=>?_));refine s0 (V3 (s0 (S7 (thn (hs ag s2 σ H2 x y v ov iv u _ I2 r1 r2 r q2) fun _ s3 ⟨H3,I3,q3⟩=>?_))));exact wpAny_release ⟨σ,H3,I3,q3⟩
def zF(te:TE) (g:TG):TS:=fun D σ H=>te σ H fun x H1=>g x σ H1 D.nx
theorem xc{tg e:J5}{te:TE}{g:TG}(he:PE X e te) (hg:PG X tg g) (hs:swapsWithSole [tg] e pos.line X.env=V9 false:=by rfl) (hw:swappedStores [tg] e X.env=V9 none:=by rfl)
  (h1:(N1 [tg] X.env).map (·.2)=[U6 tg X.env]:=by rfl):PS X (.Assign [tg] e pos) (zF te g):=by
 intro ag s σ H D I h;refine wpAny_Assign_stores (thn (he ag s σ H _ I h) fun v s1 hup=>hup.el fun x H1 I1 r1 q1=>?_) hs hw;rw[h1];exact thn (hg ag s1 σ H1 x v _ I1 r1 q1) fun _ s2 q=>q
theorem BE{i:Nat}{x:Str}{e:J5}{te:TE}{pos':Pos}(hN:X.N.Nodup) (hi:X.N[i]?=some x) (hx:Loc X.env.scope x) (he:PE X e te) (hs:W9 e (some (.Name x pos')) pos.line X.env=V9 false:=by rfl) (hf:X.fn x=true∨X.env.scope.names.lookup x=some .local:=by first|exact .inl rfl|exact .inr rfl|assumption) :
  PS X (.Assign [.Name x pos'] e pos) (zF te (lS i)):=by
 intro ag s σ H D I h;refine wpAny_Assign_Name (thn (he ag s σ H _ I h) fun v s1 hup=>hup.el fun y H1 I1 r1 q1=>?_) hs;exact lH I1 hN hi hx r1 (fun s2 I2=>⟨_,H1,I2,q1⟩) hf
def E5(i:Nat) (te:TE) (ti:TIp):TS:=fun D σ H=>∃x,σ[i]?=some (some x)/\te σ H fun y H1=>ti x y H1 fun z H2=>D.nx (σ.set i (some z)) H2
theorem A4{i:Nat}{x:Str}{e:J5}{te:TE}{op:ad6}{ti:TIp}{pos':Pos}(hN:X.N.Nodup) (hi:X.N[i]?=some x) (hx:Loc X.env.scope x) (he:PE X e te) (ho:PIp X op ti) (hf:X.fn x=true∨X.env.scope.names.lookup x=some .local:=by first|exact .inl rfl|exact .inr rfl|assumption) :
  PS X (.AugAssign (.Name x pos') op e pos) (E5 i te ti):=by
 intro ag s σ H D I h;obtain⟨v,e1,h⟩:=h;obtain⟨m,hn,hl⟩:=I.loc;have vis:Vis X.env.scope x:=by rcases hx with k|k;exact .inl k;exact .inr (.inl k)
 obtain⟨u,r,l⟩:=hl i x v hi e1 vis;refine wpAny_AugAssign_Name ?_;have go:J3 (K6 X.prog X.w) X.A (V1 e X.env) (fun w s₂=>J3 (K6 X.prog X.w) X.A (ad8 op u w) (fun r s₃=>J3 (K6 X.prog X.w) X.A (storeName X.env x r) (fun _=>SP X ag D .next) X.xe s₃) X.xe s₂) X.xe s:=by
  refine thn (he ag s σ H _ I h) fun w s1 hup=>hup.el fun y H1 I1 r1 q1=>?_;refine thn (ho ag s1 σ H1 v y u w _ I1 r r1 q1) fun z s2 hup=>hup.el fun zv H2 I2 r2 q2=>?_;exact lH I2 hN hi hx r2 (fun s3 I3=>⟨_,H2,I3,q2⟩) hf
 rcases l with⟨hk,hm⟩|⟨hk,c,hc,hcell⟩
 ·exact wpAny_loadName_local I.ok.kind hk hn hm go
 ·rcases hk with hk|hk
  ·exact wpAny_loadName_cell I.ok.kind hk hc hcell go
  ·rcases hx with k|k
   ·have:X.env.scope.names.lookup x=some .free:=hk;rw[k]at this;cases this
   ·have:X.env.scope.names.lookup x=some .free:=hk;rw[k]at this;cases this
def ipI(f:Int->Int->Int):TIp:=fun x y H Q=>∃i j,x=.int i/\y=.int j/\Q (.int (f i j)) H
theorem AD:PIp X .Add (ipI fun i j=>i+j):=by
 intro ag s σ H x y v u Q I r1 r2 h;obtain⟨i,j,e1,e2,q⟩:=h;subst e1;subst e2;obtain⟨t,rfl⟩:=r1;obtain⟨t',rfl⟩:=r2;exact iadd_int ⟨.int _,H,I.tok _,⟨_,rfl⟩,q⟩
end
section
variable{X:Cx}{pos:Pos}
def BN(c:TT) (tb:TS):TS:=fun D σ H=>∃W:Nat->St->Hp->Prop,(∃m,W m σ H)/\∀m σ H,W m σ H ->
 c σ H fun b H1=>if b=true then ∃N:St->Hp->Prop,(∀ σ' H',N σ' H'->∃m',m'<m/\W m' σ' H')/\tb { D with nx:=N,ct:=N,bk:=D.nx } σ H1 else D.nx σ H1
theorem xB{c:J5}{body:List ab2}{tc:TT}{tb:TS}(hp:ad9 (K6 X.prog X.w) X.A X.env X.xe) (hc:PT X c tc) (hb:PSs X body tb):PS X (.While c body [] pos) (BN tc tb):=by
 intro ag s σ H D I h;obtain⟨W,⟨m0,w0⟩,turn⟩:=h;refine wpAny_While (codeAny_whileLoop (fun n s'=>∃ σ' H',Inv X ag σ' H' s'/\W n σ' H') ?_ m0 ⟨σ,H,I,w0⟩);rintro n s1 ⟨σ1,H1,I1,w1⟩;refine R9 hp (thn (hc ag s1 σ1 H1 _ I1 (turn n σ1 H1 w1)) fun b s2 hup=>hup.el fun H2 I2 q2=>?_);cases b with
 |true =>
  obtain⟨N,hN,q2⟩:=q2;rw[if_pos rfl];refine R9 hp (thn (hb ag s2 σ1 H2 _ I2 q2) fun f s3 q3=>?_);cases f with
  |next =>
   obtain⟨σ3,H3,I3,n3⟩:=q3;obtain⟨m',hm,w3⟩:=hN σ3 H3 n3;exact⟨m',hm,σ3,H3,I3,w3⟩
  |cont =>
   obtain⟨σ3,H3,I3,n3⟩:=q3;obtain⟨m',hm,w3⟩:=hN σ3 H3 n3;exact⟨m',hm,σ3,H3,I3,w3⟩
  |brk=>exact q3
  |ret v=>exact q3
 |false =>
  rw[if_neg L3];exact X8 ⟨σ1,H2,I2,q2⟩
end
structure It where
 go:Nat->Hp->Prop
 yld:Nat->Hp->V->Hp->Prop
 stop:Nat->Hp->Prop
def cz(X:Cx) (ag:List (F9×Obj)) (H:Hp) (b:F9):Prop :=
 H b=none/\b≠X.env.locals/\b∉X.fs/\(b∈X.ex∨X.s₀.heap.objs.size<=b)/\(∀x c,X.env.cells.lookup x=some c->c≠b)/\∀p∈X.pn++ag,p.1≠b
theorem Inv.fpOk{X:Cx}{ag:List (F9×Obj)}{σ:St}{H H':Hp}{s:F0}{b:F9}(I:Inv X ag σ H s) (hb:s.heap.objs.size<=b) (hn:H' b=none):cz X ag H' b:=by
 refine⟨hn,T8 (F8 I.lt hb),I.nofs hb,.inr (L5 I.sz hb),fun x c e z=>?_,fun p hp z=>?_⟩
 ·obtain⟨v,q⟩:=I.cell x c e;exact absurd (F8 q.lt (by rw[z];exact hb)) (O2 _)
 ·exact absurd (F8 (F5 (I.pin p hp).1) (by rw[z];exact hb)) (O2 _)
structure iP(P:L4) (w:P7) (K:o0) (tg:J5) (J:It) (fp:List F9) (it:F9) (tn:Nat->K5->Prop):Prop where
 mem:it∈fp
 obj:∀i h,tn i h->∀b∈fp,∃o,h.get? b=some o/\∀v,o.data≠.cell v
 keep:∀i h h',tn i h->(∀b∈fp,∀o,h.get? b=some o->h'.get? b=some o)->tn i h'
 item:∀(X:Cx),X.prog=P->X.w=w->X.K=K->X.calm=true->∀(i:Nat) (ag:List (F9×Obj)) (s:F0) (σ:St) (H:Hp) (E:u8->F0->Prop),Inv X ag σ H s->(∀b∈fp,cz X ag H b)->tn i s.heap->J.go i H ->
  J3 (K6 P w) X.A (ad5 (.ref it)) (fun r s1=>∃u,r=some u /\
   J3 (K6 P w) X.A (T9 tg (.ref it) u) (fun _ s2=>∃x H',Inv X ag σ H' s2/\aE x u/\J.yld i H x H'/\tn (i+1) s2.heap/\∀b∈fp,H' b=none) E s1) E s
 done:∀(X:Cx),X.prog=P->X.w=w->X.K=K->X.calm=true->∀(i:Nat) (ag:List (F9×Obj)) (s:F0) (σ:St) (H:Hp) (E:u8->F0->Prop),Inv X ag σ H s->(∀b∈fp,cz X ag H b)->tn i s.heap->J.stop i H ->
  J3 (K6 P w) X.A (ad5 (.ref it)) (fun r s1=>r=none/\Inv X ag σ H s1) E s
 self:∀(A:N5) (i:Nat) (s:F0) (Q:u8->F0->Prop) (E:u8->F0->Prop),tn i s.heap->Q (.ref it) s->J3 (K6 P w) A (pyIter (.ref it)) Q E s
abbrev TI:=St->Hp->(It->Hp->Prop)->Prop
def PIE(X:Cx) (ag:List (F9×Obj)) (σ:St) (tg:J5) (R:It->Hp->Prop) (itv:u8) (s2:F0):Prop :=
 ∃(it:F9) (fp:List F9) (tn:Nat->K5->Prop) (J:It) (H':Hp),itv=.ref it/\Inv X ag σ H' s2/\iP X.prog X.w X.K tg J fp it tn/\tn 0 s2.heap/\(∀b∈fp,cz X ag H' b)/\R J H'
def PI(X:Cx) (tg iter:J5) (wi:TI):Prop :=
 ∀(ag:List (F9×Obj)) (s:F0) (σ:St) (H:Hp) (R:It->Hp->Prop),Inv X ag σ H s->wi σ H R ->
  J3 (K6 X.prog X.w) X.A (V1 iter X.env) (fun v s1=>J3 (K6 X.prog X.w) X.A (pyIter v) (PIE X ag σ tg R) X.xe s1) X.xe s
theorem nu{M:Model}{A:N5}{E:u8->F0->Prop}{s:F0}{tg:J5}{it:F9}{u:u8}{o:Obj}{n:String}{vs:Array u8}{Q:Unit->F0->Prop}(ho:s.heap.get? it=some o) (hc:o.cls=.type n) (hd:o.data=.fields vs)
    (hn:["enumerate","zip","dict_itemiterator","dict_reverseitemiterator","odict_iterator","itertools.zip_longest","itertools.pairwise"].contains n=false) (hQ:Q () s):J3 M A (T9 tg (.ref it) u) Q E s:=by
  unfold T9;cases tg<;>first
    |exact F4 hQ
    |(cases u<;>first
        |exact F4 hQ
        | (refine s0 (wpAny_load ho ?_)
           rw[hc,hd];show J3 M A (if(["enumerate","zip","dict_itemiterator","dict_reverseitemiterator","odict_iterator","itertools.zip_longest","itertools.pairwise"].contains n&&vs[0]?==some (aa2 _))=true then _ else _) Q E s;rw[if_neg (by intro h;rw[hn,Bool.false_and]at h;cases h)];exact F4 hQ))
def Itl(K:o0) (a:F9):It :=
 ⟨fun i H=>∃xs x,SqL K H a xs/\xs[i]?=some x,fun i H x H'=>H'=H/\∀xs,SqL K H a xs->xs[i]?=some x,fun i H=>∃xs,SqL K H a xs/\xs.length<=i⟩
def Itt(K:o0) (a:F9):It :=
 ⟨fun i H=>∃xs x,SqT K H a xs/\xs[i]?=some x,fun i H x H'=>H'=H/\∀xs,SqT K H a xs->xs[i]?=some x,fun i H=>∃xs,SqT K H a xs/\xs.length<=i⟩
def Itr(lo:Int) (n:Nat):It:=⟨fun i _=>i<n,fun i H x H'=>H'=H/\x=.int (lo+i),fun i _=>n<=i⟩
theorem mM{P:L4}{w:P7}{K:o0}{tg:J5}(a it:F9):iP P w K tg (Itl K a) [it] it (fun i h=>h.IsListIter it a i) where
 mem:=by simp
 obj:=fun i h st b hb=>by
  have e:b=it:=by simpa using hb
  subst e;obtain⟨o,e,c,d⟩:=st;exact⟨o,e,fun v z=>by rw[d]at z;cases z⟩
 keep:=fun i h h' st k=>st.at fun o e=>k it (by simp) o e
 item:=by
  intro X hP hw hK hc i ag s σ H E I hf st hg;subst hP hw hK;obtain⟨xs,x,hq,hx⟩:=hg;obtain⟨its,rv,p,hz⟩:=I.list hq;obtain⟨u,hu,ru⟩:=rv.get hx;obtain⟨f0,f1,f2,f3,f4,f5⟩:=hf it (by simp);refine wpAny_pyNext_list_item st p.isList (x:=u) (by simpa using hu) fun h' st' sb=>?_;have I1:Inv X ag σ H { s with heap:=h' }:=I.turned (t':=s.toks) (fun b o hb e=>(sb.2 b hb).trans e) f0 f1 f3 f4 f5;obtain⟨o,e,c,d⟩:=id st';exact⟨u,rfl,nu (s:={ s with heap:=h' }) e c d (by decide) ⟨x,H,I1,ru,⟨rfl,fun ys hy=>by rw[I.list_inj hy hq];exact hx⟩,st',fun b hb=>(hf b hb).1⟩⟩
 done:=by
  intro X hP hw hK hc i ag s σ H E I hf st hg;subst hP hw hK;obtain⟨xs,hq,hx⟩:=hg;obtain⟨its,rv,p,hz⟩:=I.list hq;obtain⟨f0,f1,f2,f3,f4,f5⟩:=hf it (by simp);have hl:=rv.length;exact wpAny_pyNext_list_end (I.ok.hd hc) st p.isList (by simp;lia) fun h' eb=>⟨rfl,I.turned (t':=s.toks) (fun b o hb e=>eb b o hb e) f0 f1 f3 f4 f5⟩
 self:=fun _ _ _ _ _ st h=>wpAny_pyIter_listiter st h
theorem qx{P:L4}{w:P7}{K:o0}{tg:J5}(a it:F9):iP P w K tg (Itt K a) [it] it (fun i h=>h.IsTupleIter it a i) where
 mem:=by simp
 obj:=fun i h st b hb=>by
  have e:b=it:=by simpa using hb
  subst e;obtain⟨o,e,c,d⟩:=st;exact⟨o,e,fun v z=>by rw[d]at z;cases z⟩
 keep:=fun i h h' st k=>st.at fun o e=>k it (by simp) o e
 item:=by
  intro X hP hw hK hc i ag s σ H E I hf st hg;subst hP hw hK;obtain⟨xs,x,hq,hx⟩:=hg;obtain⟨its,rv,p,hz⟩:=I.tuple hq;obtain⟨u,hu,ru⟩:=rv.get hx;obtain⟨f0,f1,f2,f3,f4,f5⟩:=hf it (by simp);refine wpAny_pyNext_tuple_item st (show s.heap.IsTuple a its.toArray from p) (x:=u) (by simpa using hu) fun h' st' sb=>?_;have I1:Inv X ag σ H { s with heap:=h' }:=I.turned (t':=s.toks) (fun b o hb e=>(sb.2 b hb).trans e) f0 f1 f3 f4 f5;obtain⟨o,e,c,d⟩:=id st';exact⟨u,rfl,nu (s:={ s with heap:=h' }) e c d (by decide) ⟨x,H,I1,ru,⟨rfl,fun ys hy=>by rw[I.tuple_inj hy hq];exact hx⟩,st',fun b hb=>(hf b hb).1⟩⟩
 done:=by
  intro X hP hw hK hc i ag s σ H E I hf st hg;subst hP hw hK;obtain⟨xs,hq,hx⟩:=hg;obtain⟨its,rv,p,hz⟩:=I.tuple hq;obtain⟨f0,f1,f2,f3,f4,f5⟩:=hf it (by simp);have hl:=rv.length;exact wpAny_pyNext_tuple_end (I.ok.hd hc) st (show s.heap.IsTuple a its.toArray from p) (by simp;lia) fun h' eb=>⟨rfl,I.turned (t':=s.toks) (fun b o hb e=>eb b o hb e) f0 f1 f3 f4 f5⟩
 self:=fun _ _ _ _ _ st h=>wpAny_pyIter_tupleiter st h
theorem qK{P:L4}{w:P7}{K:o0}{tg:J5}(it:F9) (lo:Int) (n:Nat):iP P w K tg (Itr lo n) [it] it (fun i h=>ac4 h it (lo+(i:Nat)*1) ((n:Int)-(i:Nat)) 1) where
 mem:=by simp
 obj:=fun i h st b hb=>by
  have e:b=it:=by simpa using hb
  subst e;exact⟨_,st,fun v z=>by
   have z':Data.fields _=Data.cell v:=z;cases z'⟩
 keep:=fun i h h' st k=>k it (by simp) _ st
 item:=by
  intro X hP hw hK hc i ag s σ H E I hf st hg;subst hP hw hK;obtain⟨f0,f1,f2,f3,f4,f5⟩:=hf it (by simp);have W:=Walks.range (prog:=X.prog) (w:=X.w) (I.ok.hd hc) it lo 1 n;refine W.item i s _ _ hg st fun v h' tk hv st' kk=>?_;obtain⟨t,rfl⟩:=hv;have I1:Inv X ag σ H { s with heap:=h',toks:=tk }:=I.turned (fun b o hb e=>kk b o (by simpa using hb) e) f0 f1 f3 f4 f5;refine⟨_,rfl,nu (s:={ s with heap:=h',toks:=tk }) (n:="range_iterator") st' rfl rfl (by decide) ⟨.int (lo+i),H,I1,⟨t,?_⟩,⟨rfl,rfl⟩,st',fun b hb=>(hf b hb).1⟩⟩;rw[Int.mul_one]
 done:=by
  intro X hP hw hK hc i ag s σ H E I hf st hg;subst hP hw hK;obtain⟨f0,f1,f2,f3,f4,f5⟩:=hf it (by simp);exact wpAny_pyNext_range_end (I.ok.hd hc) st (by have:n<=i:=hg;lia) fun h' eb=>⟨rfl,I.turned (t':=s.toks) (fun b o hb e=>eb b o hb e) f0 f1 f3 f4 f5⟩
 self:=fun _ _ _ _ _ st h=>wpAny_pyIter_rangeiter st h
section
variable{X:Cx}{tg:J5}
theorem wN{ag:List (F9×Obj)}{σ:St}{H:Hp}{s:F0}{R:It->Hp->Prop}{E:u8->F0->Prop}{lo hi:Int}{t u v:Tok}{tk:Nat}(I:Inv X ag σ H s) (h1:-(2 ^ 62)<=lo) (h2:lo<2 ^ 62) (h3:-(2 ^ 62)<=hi) (h4:hi<2 ^ 62)
  (q:R (Itr lo (hi-lo).toNat) H):J3 (K6 X.prog X.w) X.A (pyIter (.ref s.heap.objs.size)) (PIE X ag σ tg R) E { s with heap:=s.heap.push { cls:=.type "range",data:=.fields #[.int lo t,.int hi u,.int 1 v] },toks:=tk }:=by
 refine wpAny_pyIter_range (IsRange.new ..) (small_one h1 h2 h3 h4) ?_;have I1:Inv X ag σ H { s with heap:=s.heap.push { cls:=.type "range",data:=.fields #[.int lo t,.int hi u,.int 1 v] },toks:=tk }:=I.kept fun b o e=>F1 _ e;refine⟨(s.heap.push { cls:=.type "range",data:=.fields #[.int lo t,.int hi u,.int 1 v] }).objs.size,[(s.heap.push { cls:=.type "range",data:=.fields #[.int lo t,.int hi u,.int 1 v] }).objs.size],_,_,H,rfl,
  I1.kept (t':=tk) fun b o e=>F1 _ e,qK _ lo (hi-lo).toNat,?_,fun b hb=>?_,q⟩
 ·have e1:lo+((0:Nat):Int)*1=lo:=by simp
  have e2:(((hi-lo).toNat:Nat):Int)-((0:Nat):Int)=O5 lo hi 1:=by rw[rangeSize_one];split<;>lia
  show ac4 _ _ (lo+((0:Nat):Int)*1) ((((hi-lo).toNat:Nat):Int)-((0:Nat):Int)) 1;rw[e1,e2];exact F6 _ rfl
 ·have e:b=(s.heap.push { cls:=.type "range",data:=.fields #[.int lo t,.int hi u,.int 1 v] }).objs.size:=by simpa using hb
  subst e;exact I1.fpOk (F7 _) (I1.hok.fresh (F7 _))
def DX(ta:TA):TI:=fun σ H R=>ta σ H fun vs H1=>∃j:Int,vs=[.int j]/\-(2 ^ 62)<=j/\j<2 ^ 62/\R (Itr 0 j.toNat) H1
theorem uO{a:J5}{ta:TA}{p pos:Pos}(hg:Gl X "range") (hm:X.mg "range"=none) (ha:PA X [a] ta) (hs:J7 [a] X.env=[(false,V1 a X.env)]:=by rfl):PI X tg (.Call (.Name "range" p) [a] [] pos) (DX ta):=by
 intro ag s σ H R I h;refine Call_ (e8 I hg hm boot_range (O6 (thn (ha pos ag s σ H _ I h) fun us s1 hup=>hup.el fun vs H1 I1 r1 q1=>?_) hs rfl));obtain⟨j,e,q1,q2,q⟩:=q1;subst e;cases r1 with
 |cons r rr =>
  cases rr;obtain⟨t,rfl⟩:=r;exact call_range_1 (wN I1 (by lia) (by lia) q1 q2 (by simpa using q))
def E4(wi:TI) (g:TG) (tb:TS):TS:=fun D σ H=>wi σ H fun J H1=>∃W:Nat->Nat->St->Hp->Prop,(∃m,W 0 m σ H1)/\∀i m σ H,W i m σ H ->
 (J.stop i H/\D.nx σ H)∨(J.go i H/\∃N:St->Hp->Prop,(∀ σ' H',N σ' H'->∃m',m'<m/\W (i+1) m' σ' H')/\∀x H',J.yld i H x H'->g x σ H' fun σ2 H2=>tb { D with nx:=N,ct:=N,bk:=D.nx } σ2 H2)
def gV(fp:List F9) (h:K5):List (F9×Obj):=fp.filterMap fun b=>(h.get? b).map fun o=>(b,o)
theorem cS{fp:List F9}{h:K5}{b:F9}{o:Obj}(hb:b∈fp) (e:h.get? b=some o):(b,o)∈gV fp h:=P4.mpr ⟨b,hb,by rw[e];rfl⟩
theorem m7{fp:List F9}{h:K5}{p:F9×Obj}(hp:p∈gV fp h):p.1∈fp/\h.get? p.1=some p.2:=by
 obtain⟨b,hb,e⟩:=P4.mp hp;cases q:h.get? b with
 |none=>rw[q]at e;cases e
 |some o =>
  rw[q]at e;have e':(b,o)=p:=J4 e;subst e';exact⟨hb,q⟩
theorem Inv.pinned{ag:List (F9×Obj)}{σ:St}{H:Hp}{s:F0}{fp:List F9}(I:Inv X ag σ H s) (hf:∀b∈fp,cz X ag H b) (ho:∀b∈fp,∃o,s.heap.get? b=some o/\∀v,o.data≠.cell v):Inv X (ag++gV fp s.heap) σ H s :=
 I.pins_of fun p hp=>(V0.mp hp).elim (fun z=>I.pin p (H0 _ z)) fun z=>by
  obtain⟨hb,e⟩:=m7 z;obtain⟨f0,f1,f2,_⟩:=hf p.1 hb;obtain⟨o,e',d⟩:=ho p.1 hb;rw[e]at e';cases e';exact⟨e,f0,f1,f2,d⟩
theorem Inv.unpinned{ag pl:List (F9×Obj)}{σ:St}{H:Hp}{s:F0}(I:Inv X (ag++pl) σ H s):Inv X ag σ H s:=I.pins_of fun p hp=>I.pin p (H0 _ (List.mem_append_left _ hp))
theorem Cf{iter:J5}{body:List ab2}{wi:TI}{g:TG}{tb:TS}{pos:Pos}(hp:ad9 (K6 X.prog X.w) X.A X.env X.xe) (hc:X.calm=true) (hi:PI X tg iter wi) (hg:PG X tg g) (hb:PSs X body tb)
  (hs:∀x,O3 iter X.env x=V9 x:=by intro _;rfl):PS X (.For tg iter body [] pos) (E4 wi g tb):=by
 intro ag s σ H D I h;refine wpAny_For (thn (hi ag s σ H _ I h) fun v s1 h1=>thn h1 fun itv s2 h2=>?_) hs;obtain⟨it,fp,tn,J,H2,e,I2,T,st2,f2,W,⟨m0,w0⟩,turn⟩:=h2;subst e
 -- what stays true of the iterator's objects through the loop
 have stat:∀{H':Hp},(∀b∈fp,H' b=none)->∀b∈fp,cz X ag H' b:=fun hn b hb=>⟨hn b hb,(f2 b hb).2⟩;refine codeAny_forLoop_any (fun n s'=>∃i σ' H',Inv X ag σ' H' s'/\tn i s'.heap/\(∀b∈fp,H' b=none)/\W i n σ' H') ?_ m0 ⟨0,σ,H2,I2,st2,fun b hb=>(f2 b hb).1,w0⟩;rintro n s3 ⟨i,σ3,H3,I3,st3,fr3,w3⟩;rcases turn i n σ3 H3 w3 with⟨stop,qn⟩|⟨go,N,hN,step⟩
 ·refine R9 hp (thn (T.done X rfl rfl rfl hc i ag s3 σ3 H3 X.xe I3 (stat fr3) st3 stop) fun r s4 ⟨hr,I4⟩=>?_);subst hr;exact X8 ⟨σ3,H3,I4,qn⟩
 ·refine R9 hp (thn (T.item X rfl rfl rfl hc i ag s3 σ3 H3 X.xe I3 (stat fr3) st3 go) fun r s4 ⟨u,hr,h4⟩=>?_);subst hr;refine R9 hp (thn h4 fun _ s5 ⟨x,H5,I5,r5,y5,st5,fr5⟩=>?_);have I5':=I5.pinned (stat fr5) (T.obj _ _ st5);refine R9 hp (thn (hg _ s5 σ3 H5 x u _ I5' r5 (step x H5 y5)) fun _ s6 ⟨σ6,H6,I6,q6⟩=>?_);refine R9 hp (thn (hb _ s6 σ6 H6 _ I6 q6) fun f s7 q7=>?_);have again:∀{σ7:St} {H7:Hp},Inv X (ag++gV fp s5.heap) σ7 H7 s7->N σ7 H7->∃m,m<n/\∃i σ' H',Inv X ag σ' H' s7/\tn i s7.heap/\(∀b∈fp,H' b=none)/\W i m σ' H':=fun {σ7 H7} I7 n7=>by
   obtain⟨m',hm,w7⟩:=hN σ7 H7 n7;refine⟨m',hm,i+1,σ7,H7,I7.unpinned,T.keep _ _ _ st5 fun b hb o e=>(I7.pin (b,o) (H0 _ (H0 _ (cS hb e)))).1,fun b hb=>?_,w7⟩;obtain⟨o,e,d⟩:=T.obj _ _ st5 b hb;exact(I7.pin (b,o) (H0 _ (H0 _ (cS hb e)))).2.1
  cases f with
  |next=>obtain⟨σ7,H7,I7,n7⟩:=q7;exact again I7 n7
  |cont=>obtain⟨σ7,H7,I7,n7⟩:=q7;exact again I7 n7
  |brk=>obtain⟨σ7,H7,I7,q7⟩:=q7;exact⟨σ7,H7,I7.unpinned,q7⟩
  |ret v=>obtain⟨x7,σ7,H7,I7,r7,q7⟩:=q7;exact⟨x7,σ7,H7,I7.unpinned,r7,q7⟩
end
abbrev R2:=V->V->Hp->VK->Prop
def OpR(X:Cx) (f:u8->u8->Sem u8) (r:R2):Prop :=
 ∀(ag:List (F9×Obj)) (s:F0) (σ:St) (H:Hp) (x y:V) (v u:u8) (Q:VK),Inv X ag σ H s->aE x v->aE y u->r x y H Q ->
  J3 (K6 X.prog X.w) X.A (f v u) (EP X ag σ Q) X.xe s
def UnR(X:Cx) (f:u8->Sem u8) (r:V->Hp->VK->Prop):Prop :=
 ∀(ag:List (F9×Obj)) (s:F0) (σ:St) (H:Hp) (x:V) (v:u8) (Q:VK),Inv X ag σ H s->aE x v->r x H Q ->
  J3 (K6 X.prog X.w) X.A (f v) (EP X ag σ Q) X.xe s
def dR(X:Cx) (f:u8) (r:List V->Hp->VK->Prop):Prop :=
 ∀(ag:List (F9×Obj)) (s:F0) (σ:St) (H:Hp) (xs:List V) (us:List u8) (Q:VK),Inv X ag σ H s->ay xs us->r xs H Q ->
  J3 (K6 X.prog X.w) X.A (call f us) (EP X ag σ Q) X.xe s
def tOp(r:R2) (ta tb:TE):TE:=fun σ H Q=>ta σ H fun x H1=>tb σ H1 fun y H2=>r x y H2 Q
def tUn(r:V->Hp->VK->Prop) (ta:TE):TE:=fun σ H Q=>ta σ H fun x H1=>r x H1 Q
def rI(C:Int->Int->Prop) (g:Int->Int->V):R2:=fun x y H Q=>∃i j,x=.int i/\y=.int j/\C i j/\Q (g i j) H
def rI0(g:Int->Int->V):R2:=fun x y H Q=>∃i j,x=.int i/\y=.int j/\Q (g i j) H
def rU(g:Int->V):V->Hp->VK->Prop:=fun x H Q=>∃i,x=.int i/\Q (g i) H
section
variable{X:Cx}{a b c:J5}{ta tb tc:TE}{pos:Pos}
theorem As(ha:PE X a ta) (hb:PE X b tb) {ag:List (F9×Obj)}{s:F0}{σ:St}{H:Hp}{R:V->V->Hp->Prop}(I:Inv X ag σ H s)
  (h:ta σ H fun x H1=>tb σ H1 fun y H2=>R x y H2) {Q:u8->F0->Prop} {f:u8->u8->Sem u8}
  (hf:∀v u s2 x y H2,Inv X ag σ H2 s2->aE x v->aE y u->R x y H2->J3 (K6 X.prog X.w) X.A (f v u) Q X.xe s2) :
  J3 (K6 X.prog X.w) X.A (V1 a X.env) (fun v s₁=>J3 (K6 X.prog X.w) X.A (V1 b X.env) (fun u s₂=>J3 (K6 X.prog X.w) X.A (f v u) Q X.xe s₂) X.xe s₁) X.xe s:=by
 refine thn (ha ag s σ H _ I h) fun v s1 hup=>hup.el fun x H1 I1 r1 q1=>?_;refine thn (hb ag s1 σ H1 _ I1 q1) fun u s2 hup=>hup.el fun y H2 I2 r2 q2=>?_;exact hf v u s2 x y H2 I2 r1 r2 q2
theorem Ap{op:ad6}{r:R2}(ho:OpR X (O9 op) r) (ha:PE X a ta) (hb:PE X b tb):PE X (.BinOp a op b pos) (tOp r ta tb):=by
 intro ag s σ H Q I h;exact wpAny_BinOp (As ha hb I h fun v u s2 x y H2 I2 rx ry q=>ho ag s2 σ H2 x y v u Q I2 rx ry q)
theorem C6{op:UnaryOp}{r:V->Hp->VK->Prop}(ho:UnR X (unaryOp op) r) (ha:PE X a ta):PE X (.UnaryOp op a pos) (tUn r ta):=by
 intro ag s σ H Q I h;exact UnaryOp_ (thn (ha ag s σ H _ I h) fun v s1 hup=>hup.el fun x H1 I1 r1 q1=>ho ag s1 σ H1 x v Q I1 r1 q1)
theorem opI{f:u8->u8->Sem u8}{C:Int->Int->Prop}{g:Int->Int->Int}
  (rule:∀(i j:Int) (t u:Tok) (s:F0) (Q:u8->F0->Prop) (E:u8->F0->Prop),C i j->Q (.int (g i j) s.toks) { s with toks:=s.toks+1 }->J3 (K6 X.prog X.w) X.A (f (.int i t) (.int j u)) Q E s) :
  OpR X f (rI C fun i j=>.int (g i j)):=by
 intro ag s σ H x y v u Q I rx ry h;obtain⟨i,j,rfl,rfl,hc,q⟩:=h;obtain⟨t,rfl⟩:=rx;obtain⟨t',rfl⟩:=ry;exact rule i j t t' s _ _ hc ⟨.int (g i j),H,I.tok _,⟨_,rfl⟩,q⟩
theorem D5{f:u8->u8->Sem u8}{g:Int->Int->Int}
  (rule:∀(i j:Int) (t u:Tok) (s:F0) (Q:u8->F0->Prop) (E:u8->F0->Prop),Q (.int (g i j) s.toks) { s with toks:=s.toks+1 }->J3 (K6 X.prog X.w) X.A (f (.int i t) (.int j u)) Q E s) :
  OpR X f (rI0 fun i j=>.int (g i j)):=by
 intro ag s σ H x y v u Q I rx ry h;obtain⟨i,j,rfl,rfl,q⟩:=h;obtain⟨t,rfl⟩:=rx;obtain⟨t',rfl⟩:=ry;exact rule i j t t' s _ _ ⟨.int (g i j),H,I.tok _,⟨_,rfl⟩,q⟩
theorem AQ{f:u8->u8->Sem u8}{g:Int->Int->Bool}
  (rule:∀(i j:Int) (t u:Tok) (s:F0) (Q:u8->F0->Prop) (E:u8->F0->Prop),Q (.bool (g i j)) s->J3 (K6 X.prog X.w) X.A (f (.int i t) (.int j u)) Q E s) :
  OpR X f (rI0 fun i j=>.bl (g i j)):=by
 intro ag s σ H x y v u Q I rx ry h;obtain⟨i,j,rfl,rfl,q⟩:=h;obtain⟨t,rfl⟩:=rx;obtain⟨t',rfl⟩:=ry;exact rule i j t t' s _ _ ⟨.bl (g i j),H,I,rfl,q⟩
def kf(i j:Int):Prop:=0<j/\j<1073741824
def pM(i j:Int):Prop:=0<=j/\j<=1000000/\i.natAbs<2 ^ 64
def i7(i j:Int):Prop:=(-(2 ^ 64)<i/\i<2 ^ 64)∨(-(2 ^ 64)<j/\j<2 ^ 64)
theorem i7.ok{i j:Int}(h:i7 i j):IntMulOk i j:=by
 rcases h with⟨h1,h2⟩|⟨h1,h2⟩
 ·exact .of_left (intBits_le_64 h1 h2)
 ·exact .of_right (intBits_le_64 h1 h2)
theorem AE:OpR X (O9 .Add) (rI0 fun i j=>.int (i+j)):=D5 fun _ _ _ _ _ _ _ q=>add_int q
theorem Bp:OpR X (O9 .Sub) (rI0 fun i j=>.int (i-j)):=D5 fun _ _ _ _ _ _ _ q=>sub_int q
theorem B4:OpR X (O9 .Mult) (rI i7 fun i j=>.int (i*j)):=opI fun _ _ _ _ _ _ _ hc q=>mul_int q hc.ok
theorem zD:OpR X (O9 .FloorDiv) (rI kf fun i j=>.int (i / j)):=opI fun i j _ _ _ _ _ hc q=>by
 have h1:(0:Int)<j:=hc.1;have h2:j<1073741824:=hc.2;exact floordiv_int (by lia) (by rw[Int.fdiv_eq_ediv_of_nonneg i (by lia)];exact q) (.inl (PyProof.noPylong_small (by lia)))
theorem Ax:OpR X (O9 .Mod) (rI (fun _ j=>0<j) fun i j=>.int (i % j)):=opI fun i j _ _ _ _ _ hc q=>by
 have h1:(0:Int)<j:=hc;exact mod_int' (by lia) (by rw[Int.fmod_eq_emod_of_nonneg i (by lia)];exact q)
theorem Cr:OpR X (O9 .Pow) (rI pM fun i j=>.int (i ^ j.toNat)):=opI fun _ _ _ _ _ _ _ hc q=>pow_int_small hc.1 hc.2.1 hc.2.2 q
theorem unI{f:u8->Sem u8}{g:Int->Int}
  (rule:∀(i:Int) (t:Tok) (s:F0) (Q:u8->F0->Prop) (E:u8->F0->Prop),Q (.int (g i) s.toks) { s with toks:=s.toks+1 }->J3 (K6 X.prog X.w) X.A (f (.int i t)) Q E s) :
  UnR X f (rU fun i=>.int (g i)):=by
 intro ag s σ H x v Q I rx h;obtain⟨i,rfl,q⟩:=h;obtain⟨t,rfl⟩:=rx;exact rule i t s _ _ ⟨.int (g i),H,I.tok _,⟨_,rfl⟩,q⟩
theorem AM:UnR X (unaryOp .USub) (rU fun i=>.int (-i)):=unI fun _ _ _ _ _ q=>neg_int q
end
section
variable{X:Cx}{a b c:J5}{ta tb tc:TE}{pos:Pos}
theorem qT{ag:List (F9×Obj)}{σ:St}{H:Hp}{s:F0}{Q:VK}{k k':Bool}(I:Inv X ag σ H s) (q:Q (.bl k) H) (e:k=k'):EP X ag σ Q (.bool k') s:=by
 subst e;exact⟨.bl k,H,I,rfl,q⟩
theorem D7:OpR X (N0 .Lt) (rI0 fun i j=>.bl (decide (i<j))):=AQ fun _ _ _ _ _ _ _ q=>lt_int q
theorem Df:OpR X (N0 .LtE) (rI0 fun i j=>.bl (decide (i<=j))):=AQ fun _ _ _ _ _ _ _ q=>le_int q
theorem CW:OpR X (N0 .Gt) (rI0 fun i j=>.bl (decide (j<i))):=AQ fun _ _ _ _ _ _ _ q=>gt_int q
theorem uK:OpR X (N0 .In) (fun x y H Q=>∃i j,x=.str i/\y=.str j/\Q (.bl (!(S8 j i 0 j.length 1).isEmpty)) H):=by
 intro ag s σ H x y v u Q I rx ry h;obtain⟨i,j,rfl,rfl,q⟩:=h;obtain⟨t,rfl⟩:=rx;obtain⟨t',rfl⟩:=ry;exact in_str (qT I q rfl)
theorem B7:OpR X (N0 .Is) (fun x y H Q=>y=.non/\Q (.bl (decide (x=.non))) H):=by
 intro ag s σ H x y v u Q I rx ry h;obtain⟨rfl,q⟩:=h;cases ry;refine is_none_gen (qT I q ?_);cases x<;>first
  |(cases rx;rfl)
  |(obtain⟨t,rfl⟩:=rx;rfl)
theorem ow:OpR X (N0 .NotIn) (fun x y H Q=>∃i j,x=.str i/\y=.str j/\Q (.bl (!(!(S8 j i 0 j.length 1).isEmpty))) H):=by
 intro ag s σ H x y v u Q I rx ry h;obtain⟨i,j,rfl,rfl,q⟩:=h;obtain⟨t,rfl⟩:=rx;obtain⟨t',rfl⟩:=ry;exact notIn_str (qT I q rfl)
theorem zG{op:CmpOp}{r:R2}(ho:OpR X (N0 op) r) (ha:PE X a ta) (hb:PE X b tb) (hm:V2 op b=false):PE X (.Compare a [op] [b] pos) (tOp r ta tb):=by
 intro ag s σ H Q I h;exact wpAny_Compare1 (As ha hb I h fun v u s2 x y H2 I2 rx ry q=>ho ag s2 σ H2 x y v u Q I2 rx ry q) hm
def wU(t:TE):TT:=fun σ H Q=>t σ H fun x H'=>∃k,x=.bl k/\Q k H'
theorem yd{op:CmpOp}{r:R2}(ho:OpR X (N0 op) r) (ha:PE X a ta) (hb:PE X b tb) (hm:V2 op b=false):PT X (.Compare a [op] [b] pos) (wU (tOp r ta tb)):=by
 intro ag s σ H Q I h;refine wpAny_isTrue_Compare1 (thn (ha ag s σ H _ I h) fun v s1 hup=>hup.el fun x H1 I1 r1 q1=>thn (hb ag s1 σ H1 _ I1 q1) fun u s2 hup=>hup.el fun y H2 I2 r2 q2 =>
  thn (ho ag s2 σ H2 x y v u _ I2 r1 r2 q2) fun c s3 ⟨z,H3,I3,r3,k,e,q3⟩=>?_) hm
 subst e;cases r3;exact U4 ⟨H3,I3,q3⟩
def B1(r r':R2) (ta tb tc:TE):TE:=fun σ H Q=>ta σ H fun x H1=>tb σ H1 fun y H2=>r x y H2 fun z H3=>∃k,z=.bl k /\
 (if k=true then tc σ H3 fun w' H4=>r' y w' H4 Q else Q (.bl false) H3)
theorem wI{op op':CmpOp}{r r':R2}(ho:OpR X (N0 op) r) (ho':OpR X (N0 op') r') (ha:PE X a ta) (hb:PE X b tb) (hc:PE X c tc)
  (hm:lastMarks [op,op'] [b,c]=false:=by with_unfolding_all rfl):PT X (.Compare a [op,op'] [b,c] pos) (wU (B1 r r' ta tb tc)):=by
 intro ag s σ H Q I h;refine isTrue_chain (thn (ha ag s σ H _ I h) fun v s1 hup=>hup.el fun x H1 I1 r1 q1=>test_link (thn (hb ag s1 σ H1 _ I1 q1) fun u s2 hup=>hup.el fun y H2 I2 r2 q2 =>
  thn (ho ag s2 σ H2 x y v u _ I2 r1 r2 q2) fun d s3 ⟨z,H3,I3,r3,k,e,q3⟩=>?_)) hm
 subst e;cases r3;refine U4 ?_;cases k with
 |false =>
  obtain⟨k',e',q'⟩:=q3;cases e';exact ite_ff ⟨H3,I3,q'⟩
 |true =>
  refine ite_tt (test_last (thn (hc ag s3 σ H3 _ I3 q3) fun w' s4 ⟨z',H4,I4,r4,q4⟩=>thn (ho' ag s4 σ H4 y z' u w' _ I4 r2 r4 q4) fun d' s5 ⟨z2,H5,I5,r5,k2,e2,q5⟩=>?_));subst e2;cases r5;exact U4 ⟨H5,I5,q5⟩
theorem jc:(F2:Nat)<2 ^ 63:=by rw[sizeLine_eq];decide
theorem rm:OpR X (O9 .Add) (fun x y H Q=>∃i j,x=.str i/\y=.str j/\i.length+j.length<=F2/\Q (.str (i++j)) H):=by
 intro ag s σ H x y v u Q I rx ry h;obtain⟨i,j,rfl,rfl,hz,q⟩:=h;obtain⟨t,rfl⟩:=rx;obtain⟨t',rfl⟩:=ry;exact add_str (fun t' tk=>⟨.str (i++j),H,I.tok _,⟨_,rfl⟩,q⟩) hz
theorem u5{x:V}{us:List u8}(r:ay [x] us):∃u,us=[u]/\aE x u:=by
 cases r with
 |cons r1 r2=>cases r2;exact⟨_,rfl,r1⟩
theorem z8{x y:V}{us:List u8}(r:ay [x,y] us):∃u w',us=[u,w']/\aE x u/\aE y w':=by
 cases r with
 |cons r1 r2 =>
  cases r2 with
  |cons r3 r4=>cases r4;exact⟨_,_,rfl,r1,r3⟩
theorem uS(hc:X.calm=true):dR X (.builtin "max") (fun xs H Q=>∃i j,xs=[.int i,.int j]/\Q (.int (if j > i then j else i)) H):=by
 intro ag s σ H xs us Q I r h;obtain⟨i,j,rfl,q⟩:=h;obtain⟨u,w',rfl,⟨t,rfl⟩,⟨t',rfl⟩⟩:=z8 r;refine max_two_ints (I.ok.hd hc) fun h' tk k=>⟨_,H,I.kept k,?_,q⟩
 by_cases hj:j > i
 ·rw[if_pos hj,if_pos hj];exact⟨_,rfl⟩
 ·rw[if_neg hj,if_neg hj];exact⟨_,rfl⟩
theorem pE:dR X (.builtin "divmod") (fun xs H Q=>∃i j,xs=[.int i,.int j]/\kf i j/\∀p,H p=none->Q (.ref p) (upd H p (.tup [.int (i / j),.int (i % j)]))):=by
 intro ag s σ H xs us Q I r h;obtain⟨i,j,rfl,⟨h1,h2⟩,q⟩:=h;obtain⟨u,w',rfl,⟨t,rfl⟩,⟨t',rfl⟩⟩:=z8 r;refine divmod_int (by lia) ?_ (.inl (PyProof.noPylong_small (by lia)));rw[Int.fdiv_eq_ediv_of_nonneg i (by lia),Int.fmod_eq_emod_of_nonneg i (by lia)];have hn:H s.heap.objs.size=none:=I.hok.fresh (F7 _);refine⟨.ref s.heap.objs.size,_,?_,rfl,q _ hn⟩;refine I.laid (fun b o e=>F1 _ e) (F7 _) ⟨by simp only[T4,X9];rw[sizeLine_eq];decide,[.int (i / j) s.toks,.int (i % j) (s.toks+1)],.cons ⟨_,rfl⟩ (.cons ⟨_,rfl⟩ .nil),?_⟩;exact⟨_,F6 s.heap rfl,rfl,⟨0,rfl⟩,rfl⟩
end
theorem j0.some_of{v:V}{o:Option u8}(r:j0 (some v) o):∃u,o=some u/\aE v u:=by
 cases o with
 |none=>exact(show False from r).elim
 |some u=>exact⟨u,rfl,r⟩
structure cw(k:Nat) (A:N5):Prop where
 hd:A.handled=none
 dp:A.depth+3*k+5<recursionLimit
 un:A.units+16*k+200<aa9
theorem cw.mono{j k:Nat}{A:N5}(r:cw k A) (h:j<=k):cw j A:=⟨r.hd,by have:=r.dp;lia,by have:=r.un;lia⟩
theorem cw.deeper{k:Nat}{A:N5}(r:cw (k+1) A) (env:Env):cw k (A.deeper env) :=
 ⟨r.hd,by have:=r.dp;show A.depth+1+3*k+5<_;lia,by have:=r.un;show A.units+3+16*k+200<_;lia⟩
theorem cw.in1{k:Nat}{A:N5}(r:cw (k+1) A):cw k A.in1 :=
 ⟨r.hd,by have:=r.dp;show A.depth+3*k+5<_;lia,by have:=r.un;show A.units+1+16*k+200<_;lia⟩
theorem cw.depth{k:Nat}{A:N5}(r:cw k A):A.depth<recursionLimit:=by have:=r.dp;lia
theorem cw.units{k:Nat}{A:N5}(r:cw k A):A.units+64<aa9:=by have:=r.un;lia
theorem cw.units0{k:Nat}{A:N5}(r:cw k A):A.units<aa9:=by have:=r.un;lia
def EU:TA:=fun _ H Q=>Q [] H
def DK(ta:TE) (tr:TA):TA:=fun σ H Q=>ta σ H fun x H1=>tr σ H1 fun xs H2=>Q (x::xs) H2
section
variable{X:Cx}{e:J5}{es:List J5}{te:TE}{t:TA}{pos:Pos}
theorem nN:PA X [] EU:=fun _ _ _ _ H Q I h=>Calls.spliced_nil ⟨[],H,I,.nil,h⟩
theorem j5(ha:PE X e te) (hr:PA X es t) (hs:J7 (e::es) X.env=(false,V1 e X.env)::J7 es X.env:=by rfl):PA X (e::es) (DK te t):=by
 intro pos ag s σ H Q I h;rw[hs];show J3 _ _ (spliced ((false,V1 e X.env)::V8 pos (J7 es X.env))) _ _ s;refine Calls.spliced_cons (thn (ha ag s σ H _ I h) fun u s1 hup=>hup.el fun x H1 I1 r1 q1=>?_);exact thn (hr pos ag s1 σ H1 _ I1 q1) fun us s2 hup=>hup.el fun xs H2 I2 r2 q2=>⟨x::xs,H2,I2,.cons r1 r2,q2⟩
def B2(t:TA):TE:=fun σ H Q=>t σ H fun xs H1=>xs.length<=F2/\∀p,H1 p=none->Q (.ref p) (upd H1 p (.tup xs))
def ER(t:TA):TE:=fun σ H Q=>t σ H fun xs H1=>xs.length<=F2/\∀p,H1 p=none->Q (.ref p) (upd H1 p (.lst xs))
theorem lL{x1}(h:PA X es t):PE X (.Tuple es x1 pos) (B2 t):=by
 intro ag s σ H Q I hq;refine wpAny_Tuple_spliced (thn (h pos ag s σ H _ I hq) fun us s1 ⟨xs,H1,I1,r,z,q⟩=>⟨by rw[<-r.length];exact z,?_⟩);have hf:H1 s1.heap.objs.size=none:=I1.hok.fresh (F7 _);refine⟨.ref s1.heap.objs.size,upd H1 s1.heap.objs.size (.tup xs),I1.laid (t':=s1.toks) (fun b u e=>F1 _ e) (F7 _) ?_,rfl,q _ hf⟩;exact⟨z,us,r,⟨_,F6 _ rfl,rfl,⟨_,rfl⟩,rfl⟩⟩
theorem xh(h:PA X es t):PE X (.List es pos) (ER t):=by
 intro ag s σ H Q I hq;refine wpAny_List_spliced (thn (h pos ag s σ H _ I hq) fun us s1 ⟨xs,H1,I1,r,z,q⟩=>⟨by rw[<-r.length];exact z,?_⟩);have hf:H1 s1.heap.objs.size=none:=I1.hok.fresh (F7 _);refine⟨.ref s1.heap.objs.size,upd H1 s1.heap.objs.size (.lst xs),I1.laid (t':=s1.toks) (fun b u e=>F1 _ e) (F7 _) ?_,rfl,q _ hf⟩;exact⟨z,us,0,r,F6 _ rfl⟩
end
abbrev Sp:=List V->Hp->VK->XK->Prop
abbrev CXT:=List Env->Hp->F0->XK->u8->F0->Prop
structure rQ(P:L4) (w:P7) (K:o0) (mg:Str->Option u8) (base:K5) (A:N5) (outer:List Env) (s:F0) (H:Hp):Prop where
 frames:A.frames=some outer
 mod:Mod K mg base
 bs:∀b o,base.get? b=some o->s.heap.get? b=some o/\H b=none
 bsz:base.objs.size<=s.heap.objs.size
 funs:s.heap.FunFrames base outer
 frf:∀b∈frs outer,H b=none
 hok:HOk P w H s.heap
 bare:ab1 s.gens
def CE(outer:List Env) (P:L4) (w:P7) (H:Hp) (s:F0) (Q:VK) (u:u8) (s':F0):Prop :=
 ∃v H',s'.os=s.os/\ab1 s'.gens/\Un (frs outer) [] H H' s.heap s'.heap/\HOk P w H' s'.heap/\aE v u/\Q v H'
def CR(CX:CXT) (outer:List Env) (P:L4) (w:P7) (H:Hp) (s:F0) (Q:VK) (E:XK) (r:ae0) (s':F0):Prop :=
 match r with
 |.ok (.ret u)=>CE outer P w H s Q u s'
 |.ok _=>False
 |.error e=>CX outer H s E e s'
structure bg(P:L4) (w:P7) (K:o0) (mg:Str->Option u8) (base:K5) (CX:CXT) (k:Nat) (f:F9) (fd:V4) (ps:List Str) (sp:Sp):Prop where
 len:∀vs H Q E,sp vs H Q E->vs.length=ps.length
 run:∀(A:N5) (outer:List Env) (s:F0) (H:Hp) (args:Args) (us:List u8) (vs:List V) (Q:VK) (E:XK),cw k A->rQ P w K mg base A outer s H->BindsTo s fd args (ps.zip us)->ay vs us->sp vs H Q E ->
  Z9 (K6 P w) A (.call (.ref f) args) (CR CX outer P w H s Q E) s
theorem rQ.in1{P:L4}{w:P7}{K:o0}{mg:Str->Option u8}{base:K5}{A:N5}{outer:List Env}{s:F0}{H:Hp}(e:rQ P w K mg base A outer s H) :
  rQ P w K mg base A.in1 outer s H:=⟨e.frames,e.mod,e.bs,e.bsz,e.funs,e.frf,e.hok,e.bare⟩
section
variable{X:Cx}{ag:List (F9×Obj)}{σ:St}{H:Hp}{s s':F0}
theorem Inv.env0(I:Inv X ag σ H s):rQ X.prog X.w X.K X.mg X.base X.A X.stack s H :=
 ⟨I.ok.frames,I.ok.mod,I.bs,L5 I.ok.bsz I.sz,I.stack,I.stkFree,I.hok,I.bare⟩
theorem Inv.after{Q:VK}{u:u8}(I:Inv X ag σ H s) (h:CE X.stack X.prog X.w H s Q u s'):EP X ag σ Q u s':=by
 obtain⟨v,H',os,bare,un,hok,r,q⟩:=h;obtain⟨hh,g,d,t,os'⟩:=s';obtain rfl:os'=s.os:=os;exact⟨v,H',I.call (h':=hh) (g':=g) (d':=d) (t':=t) (ch:=[]) un hok bare (fun b z=>absurd z (by simp)),r,q⟩
end
def Dw(sp:Sp) (dvs:List V) (E:XK) (t:TA):TE:=fun σ H Q=>t σ H fun vs H1=>sp (vs++dvs) H1 Q E
def dO(K:o0) (fd:V4) (ps:List Str) (ds:List u8):Prop :=
 ∀(s:F0) (us:List u8),K.In s.heap->(us++ds).length=ps.length->BindsTo s fd ⟨us,[]⟩ (ps.zip (us++ds))
theorem dO.all{K:o0}{fd:V4}{ps:List Str}(h:∀us:List u8,us.length=ps.length->bindArgs fd ⟨us,[]⟩=V9 (ps.zip us)):dO K fd ps []:=fun s us _ hl=>by
 rw[Z0]at hl ⊢;exact .of_eq (h us hl)
def qY(CX:CXT) (X:Cx) (E:XK):Prop:=∀(ag:List (F9×Obj)) (σ:St) (H:Hp) (s:F0) (e:u8) (s':F0),Inv X ag σ H s->CX X.stack H s E e s'->X.xe e s'
section
variable{X:Cx}{CX:CXT}{k:Nat}{f C:F9}{fd:V4}{ps:List Str}{sp:Sp}{dvs:List V}{ds:List u8}{E:XK}{x m:Str}{p pos cb:Pos}{e o:J5}{es:List J5}{ta:TE}{t:TA}
theorem AB{ag:List (F9×Obj)}{σ:St}{H:Hp}{s:F0}{Q:VK}{us:List u8}{vs:List V}(F:bg X.prog X.w X.K X.mg X.base CX k f fd ps sp) (hr:cw k X.A) (hb:dO X.K fd ps ds) (hd:ay dvs ds) (hx:qY CX X E)
  (I:Inv X ag σ H s) (r:ay vs us) (h:sp (vs++dvs) H Q E):J3 (K6 X.prog X.w) X.A (call (.ref f) us) (EP X ag σ Q) X.xe s:=by
 have r2:ay (vs++dvs) (us++ds):=r.append hd;have hl:(us++ds).length=ps.length:=by rw[<-r2.length];exact F.len _ _ _ _ h
 refine wpAny_call (codeAny_mono (F.run X.A X.stack s H ⟨us,[]⟩ (us++ds) (vs++dvs) Q E hr I.env0 (hb s us I.kIn hl) r2 h) fun r s' hq=>?_);cases r with
 |error e=>exact hx ag σ H s e s' I hq
 |ok fl =>
  cases fl with
  |ret u=>exact I.after hq
  |next=>exact U8 hq
  |brk=>exact U8 hq
  |cont=>exact U8 hq
theorem yz(F:bg X.prog X.w X.K X.mg X.base CX k f fd ps sp) (hr:cw k X.A) (hg:Gl X x) (hm:X.mg x=some (.ref f)) (hk:W5 X.K (.ref f)=true) (hb:dO X.K fd ps ds) (hd:ay dvs ds) (hx:qY CX X E)
  (ha:PA X (e::es) t) (hdb:(x==("__debug__":Str))=false:=by decide) (he:J7 (e::es) X.env=(false,V1 e X.env)::J7 es X.env:=by rfl) (hpl:(V8 pos (J7 es X.env)).any (·.1)=false:=by rfl) :
  PE X (.Call (.Name x p) (e::es) [] pos) (Dw sp dvs E t):=by
 intro ag s σ H Q I h;refine wpAny_Call_Name_kw (zg I hg hm ?_ hdb);refine PySem.W.callWith_K (h₀:=X.base) I.ok.mod.kin hk (thn (ha pos ag s σ H _ I h) fun us s1 hup=>hup.el fun vs H1 I1 r q=>⟨I1.kIn,?_⟩) he hpl;exact AB F hr hb hd hx I1 r q
end
structure az(N P:List Str) (sc:R0):Prop where
 kind:sc.kind=.function
 co:sc.isCoroutine=false
 gen:sc.isGenerator=false
 nd:N.Nodup
 pre:N.take P.length=P
 par:∀x∈P,sc.names.lookup x=some .local∨sc.names.lookup x=some .cell
 nofree:∀y∈sc.names,y.2≠.free
theorem mW{aa3:Str->Option J9}{x:Str}:∀{binds:List (Str×u8)}{m:Str->Option u8},(∀v,(x,v)∉binds)->bindL aa3 binds m x=m x
 |[],_,_=>rfl
 |(n,v)::r,m,h=>by
  unfold bindL;rw[mW fun w hw=>h w (K8 _ hw)]
  split
  ·have:x≠n:=by rintro rfl;exact h v L9
   simp[this]
  ·rfl
theorem mK{aa3:Str->Option J9}{x:Str}:∀{binds:List (Str×u8)}{m:Str->Option u8},(∀v,(x,v)∉binds)->bindC aa3 binds m x=m x
 |[],_,_=>rfl
 |(n,v)::r,m,h=>by
  unfold bindC;rw[mK fun w hw=>h w (K8 _ hw)]
  split
  ·rfl
  ·have:x≠n:=by rintro rfl;exact h v L9
   simp[this]
theorem nI{aa3:Str->Option J9}{x:Str}{v:u8}:∀{P:List Str}{vs:List u8}{i:Nat}{m:Str->Option u8},P.Nodup->P[i]?=some x->vs[i]?=some v->aa3 x=some .local ->
  bindL aa3 (P.zip vs) m x=some v
 |[],_,_,_,_,h,_,_=>by simp at h
 |_::_,[],_,_,_,_,h,_=>by simp at h
 |p::P,w::vs,0,m,nd,h1,h2,hk=>by
  simp at h1 h2;subst h1;subst h2;show bindL aa3 ((p,w)::P.zip vs) m p=_;unfold bindL;rw[mW fun v hv=>(V5.mp nd).1 (List.of_mem_zip hv).1,if_pos hk];simp
 |p::P,w::vs,i+1,m,nd,h1,h2,hk=>by
  show bindL aa3 ((p,w)::P.zip vs) m x=_;unfold bindL;exact nI (i:=i) (V5.mp nd).2 (by simpa using h1) (by simpa using h2) hk
theorem nH{aa3:Str->Option J9}{x:Str}{v:u8}:∀{P:List Str}{vs:List u8}{i:Nat}{m:Str->Option u8},P.Nodup->P[i]?=some x->vs[i]?=some v->aa3 x≠some .local ->
  bindC aa3 (P.zip vs) m x=some v
 |[],_,_,_,_,h,_,_=>by simp at h
 |_::_,[],_,_,_,_,h,_=>by simp at h
 |p::P,w::vs,0,m,nd,h1,h2,hk=>by
  simp at h1 h2;subst h1;subst h2;show bindC aa3 ((p,w)::P.zip vs) m p=_;unfold bindC;rw[mK fun v hv=>(V5.mp nd).1 (List.of_mem_zip hv).1,if_neg hk];simp
 |p::P,w::vs,i+1,m,nd,h1,h2,hk=>by
  show bindC aa3 ((p,w)::P.zip vs) m x=_;unfold bindC;exact nH (i:=i) (V5.mp nd).2 (by simpa using h1) (by simpa using h2) hk
def fG(N:List Str) (vs:List V):St:=vs.map some++J0 (N.length-vs.length) none
noncomputable def n4(CX:CXT) (P:L4) (w:P7) (K:o0) (mg:Str->Option u8) (base:K5) (N:List Str) (qual:Str) (scope:R0) (f:F9) (cd:u8) (A:N5) (outer:List Env) (s:F0) (H:Hp) (E:XK):Cx where
 prog:=P
 w:=w
 K:=K
 mg:=mg
 base:=base
 A:=A.deeper (ad0 qual scope s.heap.objs.size f cd)
 N:=N
 s₀:=s
 H₀:=H
 env:=ad0 qual scope s.heap.objs.size f cd
 outer:=outer
 stack:=ad0 qual scope s.heap.objs.size f cd::outer
 ex:=[]
 calm:=true
 fn:=fun _=>true
 pn:=[]
 xe:=fun e s'=>J3 (K6 P w) (A.deeper (ad0 qual scope s.heap.objs.size f cd)) (leaving (ad0 qual scope s.heap.objs.size f cd) e) (fun _ s''=>CX outer H s E e s'') (fun e' s''=>CX outer H s E e' s'') s'
theorem o6{sc:R0}{n:Nat}{x:Str}(h:sc.names.lookup x=some .cell):∃c,(P0 n sc.names []).lookup x=some c:=by
 have q:=O1 sc.names n [] (.inl h);exact O4.mp q
theorem uw{CX:CXT}{P:L4}{w:P7}{K:o0}{mg:Str->Option u8}{base:K5}{N ps:List Str}{qual:Str}{scope:R0}{f:F9}{cd:u8}{A:N5}{outer:List Env}{s s1:F0}{H:Hp}{E:XK}{us:List u8}{vs:List V}
  (S:az N ps scope) (hd:A.handled=none) (e0:rQ P w K mg base A outer s H) (hl:vs.length=ps.length) (r:ay vs us)
  (x:InCallC s s.heap.objs.size (bindL (ad0 qual scope s.heap.objs.size f cd).kindOf (ps.zip us) fun _=>none) (P0 (s.heap.objs.size+1) scope.names []) (bindC (ad0 qual scope s.heap.objs.size f cd).kindOf (ps.zip us) fun _=>none) s1) :
  Inv (n4 CX P w K mg base N qual scope f cd A outer s H E) [] (fG N vs) H s1:=by
 have hpl:ps.length<=N.length:=by have:=congrArg aa4 S.pre;rw[List.length_take]at this;lia
 obtain⟨h1,tk,rfl,hk⟩:=x.done;have noA:∀b:F9,b∉(n4 CX P w K mg base N qual scope f cd A outer s H E).ex:=fun b z=>absurd (show b∈([]:List F9)from z) (by simp);refine⟨⟨e0.mod,S.kind,rfl,rfl,F7 _,fun y z c h1 h2=>?_,fun y hy=>?_,fun y c _ h=>?_,fun _=>hd,N5.frames_deeper e0.frames,.inr ⟨rfl,rfl⟩,fun b z=>absurd z (noA b),e0.bs,e0.bsz,fun b _ _=>noA b,fun b z=>absurd z (noA b),e0.funs,e0.frf⟩,
  rfl,e0.bare,Un.kept hk,⟨_,x.toInCall.ns,fun i y v h1 h2 h3=>?_⟩,fun y c h=>⟨_,x.cell y c h⟩,e0.hok.fresh (F7 _),fun y c h=>?_,fun p hp=>absurd (show p∈([]:List (F9×Obj))from hp) (by simp),e0.hok.kept hk,?_⟩
 ·exact name_of_addr x.apart (K3 h1) (K3 h2)
 ·have hy:scope.names.lookup y=some .cell∨scope.names.lookup y=some .free:=hy;rcases hy with hy|hy
  ·exact o6 hy
  ·exact absurd rfl (S.nofree _ (K3 hy))
 ·exact Nat.le_of_lt (x.above y c (K3 h))
 ·have hi:i<vs.length:=by
   unfold fG at h2
   by_cases hi:i<vs.length
   ·exact hi
   ·rw[Q6 (by simpa using hi)]at h2;rw[S9]at h2
    split at h2<;>cases h2
  have ha:vs[i]?=some v:=by
   unfold fG at h2;rw[L8 (by simpa using hi),P9]at h2;cases e:vs[i]? with
   |none=>rw[e]at h2;cases h2
   |some a=>rw[e]at h2;cases h2;rfl
  obtain⟨u,hu,rv⟩:=r.get ha;have hp:ps[i]?=some y:=by
   rw[<-S.pre,List.getElem?_take_of_lt (by lia)];exact h1
  have ndP:ps.Nodup:=by rw[<-S.pre];exact S.nd.sublist (List.take_sublist _ _)
  refine⟨u,rv,?_⟩;rcases S.par y (List.mem_of_getElem? hp)with k|k
  ·exact .inl ⟨k,nI ndP hp hu k⟩
  ·obtain⟨c,e⟩:=o6 (n:=s.heap.objs.size+1) k;refine .inr ⟨.inl k,c,e,?_⟩;have q:=x.cell y c e;rw[nH ndP hp hu (by show scope.names.lookup y≠_;rw[k];decide)]at q;exact q
 ·exact e0.hok.fresh (Nat.le_of_lt (x.above y c (K3 h)))
 ·unfold fG;show _=N.length;rw[L6,Z1,List.length_replicate]
  lia
theorem zV{CX:CXT}{P:L4}{w:P7}{K:o0}{mg:Str->Option u8}{base:K5}{k:Nat}{f:F9}{name qual:Str}{params:Arguments}{body:List ab2}{scope:R0}{dV kV doc pm cdv ct oc:u8}{an od:Option F9}
  {osl:Array (Option u8)} {N ps:List Str} {sp:Sp} (lk:K.lookup f=some ⟨oc,od,.func (X0 name qual params body scope dV kV doc pm an cdv ct),osl⟩) (hcd:PySem.W.codeIn K cdv qual=true) (S:az N ps scope)
  (len:∀vs H Q E,sp vs H Q E->vs.length=ps.length)
  (hbody:∀ (A:N5) (outer:List Env) (s:F0) (H:Hp) (vs:List V) (Q:VK) (E:XK),cw k (A.deeper (ad0 qual scope s.heap.objs.size f cdv)) → sp vs H Q E →
   ∃t,PSs (n4 CX P w K mg base N qual scope f cdv A outer s H E) body t/\t { nx:=fun _ H'=>Q .non H',rt:=Q } (fG N vs) H) :
  bg P w K mg base CX (k+1) f (X0 name qual params body scope dV kV doc pm an cdv ct) ps sp:=by
 refine⟨len,fun A outer s H args us vs Q E hr e0 hb r hsp=>?_⟩;have hl:=len _ _ _ _ hsp;have KX:K.In s.heap:=e0.mod.kin.keeps fun b o e=>(e0.bs b o e).1;have lim:s.heap.NoLimit:=e0.mod.nolimit.keeps fun b o e=>(e0.bs b o e).1;have hkind:∀y∈ps.zip us,scope.names.lookup y.1=some .local∨(scope.names.lookup y.1=some .cell/\((P0 (s.heap.objs.size+1) scope.names []).lookup y.1).isSome=true):=fun⟨n,v⟩ hy=>by
  rcases S.par n (List.of_mem_zip hy).1 with q|q
  ·exact .inl q
  ·exact .inr ⟨q,O1 _ _ _ (.inl q)⟩
 refine codeAny_call_function hr.depth (KX _ _ lk) rfl S.co S.gen rfl (PySem.W.codeRec_of KX hcd) (hb _ _ _ _ ?_);refine wpAny_newFunctionEnv_cells S.kind hkind fun env he s1 x=>?_;subst he;refine⟨lim.keeps x.toInCall.keep,codeAny_func ?_⟩;obtain⟨t,ht,hq⟩:=hbody A outer s H vs Q E (hr.deeper _) hsp;have I:Inv (n4 CX P w K mg base N qual scope f cdv A outer s H E) [] (fG N vs) H s1:=uw S hr.hd e0 hl r x;refine M0 (ht [] s1 (fG N vs) H _ I hq) (fun fl s' hs=>?_) fun e s' hs=>hs;have fin:∀{σ':St} {H':Hp} {v:V} {u:u8},Inv (n4 CX P w K mg base N qual scope f cdv A outer s H E) [] σ' H' s'->aE v u->Q v H'->CE outer P w H s Q u s' :=
  fun {σ' H' v u} J rv q=>⟨v,H',J.os,J.bare,J.base,J.hok,rv,q⟩
 cases fl with
 |ret u =>
  obtain⟨v,σ',H',J,rv,q⟩:=hs;exact fin J rv q
 |next =>
  obtain⟨σ',H',J,q⟩:=hs;exact fin (v:=V.non) (u:=W0) J rfl q
 |brk =>
  obtain⟨_,_,_,q⟩:=hs;exact U8 q
 |cont =>
  obtain⟨_,_,_,q⟩:=hs;exact U8 q
section
variable{X:Cx}{x:Str}{p pos:Pos}{e:J5}{es:List J5}{t:TA}{id T:String}{r:List V->Hp->VK->Prop}
def tCB(r:List V->Hp->VK->Prop) (t:TA):TE:=fun σ H Q=>t σ H fun vs H1=>r vs H1 Q
theorem xt(hc:dR X (.builtin id) r) (hg:Gl X x) (hm:X.mg x=none) (hv:T7 x=some (.builtin id)) (ha:PA X (e::es) t) (hn:x≠"__name__":=by decide) (hdb:(x==("__debug__":Str))=false:=by decide)
  (he:J7 (e::es) X.env=(false,V1 e X.env)::J7 es X.env:=by rfl) (hpl:(V8 pos (J7 es X.env)).any (·.1)=false:=by rfl):PE X (.Call (.Name x p) (e::es) [] pos) (tCB r t):=by
 intro ag s σ H Q I h;refine wpAny_Call_Name_kw (e8 I hg hm hv ?_ hn hdb);exact PyProof.Rows.callWith_builtin1 (thn (ha pos ag s σ H _ I h) fun us s1 hup=>hup.el fun vs H1 I1 r1 q1=>hc ag s1 σ H1 vs us Q I1 r1 q1) he hpl
theorem uN(hc:dR X (.type T) r) (hg:Gl X x) (hm:X.mg x=none) (hv:T7 x=some (.type T)) (ha:PA X (e::es) t) (hn:x≠"__name__":=by decide) (hdb:(x==("__debug__":Str))=false:=by decide)
  (he:J7 (e::es) X.env=(false,V1 e X.env)::J7 es X.env:=by rfl) (hpl:(V8 pos (J7 es X.env)).any (·.1)=false:=by rfl):PE X (.Call (.Name x p) (e::es) [] pos) (tCB r t):=by
 intro ag s σ H Q I h;refine wpAny_Call_Name_kw (e8 I hg hm hv ?_ hn hdb);exact O6 (thn (ha pos ag s σ H _ I h) fun us s1 hup=>hup.el fun vs H1 I1 r1 q1=>hc ag s1 σ H1 vs us Q I1 r1 q1) he hpl
end
end L2
namespace HT
open PySem PyProof.Rows
section
open PySem.SeqAt
open PySem.AutoSeq1 (wpAny_loadPart')
open PySem.MeetsSeq PySem.MeetsSeq2 PySem.MeetsSeq3
end
section
variable{prog:L4}{w:P7}{A:N5}{E:u8->F0->Prop}{s:F0}
theorem cat_tup{t b:F9}{vs ws:List u8}{Q:u8->F0->Prop}(ht:ac9 s.heap t vs.toArray) (hb:ac9 s.heap b ws.toArray) (hv:vs≠[])
  (h1:ws=[]->Q (.ref t) s) (h2:ws≠[]->Q (.ref s.heap.objs.size) { s with heap:=s.heap.push { cls:=.type "tuple",data:=.seq (vs++ws).toArray } })
  (hsz:vs.length+ws.length<=F2):J3 (K6 prog w) A (O9 .Add (.ref t) (.ref b)) Q E s:=by
 obtain⟨⟨cls,dd,data,sl⟩,ho,hc,n,hd⟩:=id ht;obtain⟨⟨cls2,dd2,data2,sl2⟩,ho2,hc2,n2,hd2⟩:=id hb;simp only at hc hd hc2 hd2;subst hc hd hc2 hd2;have e:vs.toArray++ws.toArray=(vs++ws).toArray:=by simp
 by_cases hw:ws=[]
 ·exact concat_meets ⟨_,ho,rfl⟩ ⟨_,ho2,rfl⟩ noFill_tuple_add seq_tuple_add PySem.F.slot_tuple_add PySem.F.entry_tuple_add (PySem.F.args_tuple_add_2 _ _)
   (tuple_addW1 t b vs.toArray ws.toArray n n2 dd dd2 sl sl2 (by simpa using hv) (by simp[hw])) ⟨ho,ho2,h1 hw⟩
 ·refine concat_meets ⟨_,ho,rfl⟩ ⟨_,ho2,rfl⟩ noFill_tuple_add seq_tuple_add PySem.F.slot_tuple_add PySem.F.entry_tuple_add (PySem.F.args_tuple_add_2 _ _)
   (tuple_addW2 t b vs.toArray ws.toArray n n2 dd dd2 sl sl2 (by simpa using hv) (by simpa using hw) (by rw[F3,F3];exact hsz)) ⟨ho,ho2,?_⟩
  rw[e];exact h2 hw
noncomputable def sIx(n d:Nat):Option Int->Nat
 |none=>d
 |some v=>if v<0 then(v+(n:Int)).toNat else min v.toNat n
theorem sIx_none(n d:Nat):sIx n d none=d:=rfl
theorem sIx_nat(n d k:Nat):sIx n d (some (k:Int))=min k n:=by
 show(if(k:Int)<0 then((k:Int)+(n:Int)).toNat else min (k:Int).toNat n)=min k n;rw[if_neg (by lia),W1]
theorem Aw(n d:Nat) (hd:d<=n) (o:Option Int):sIx n d o<=n:=by
 cases o with
 |none=>exact hd
 |some v =>
  show(if v<0 then(v+(n:Int)).toNat else min v.toNat n)<=n
  by_cases hv:v<0
  ·rw[if_pos hv];lia
  ·rw[if_neg hv];exact Nat.min_le_right _ _
theorem sS(v:Int) (n d:Nat):(if v<0 then max (v+(n:Int)) 0 else min v (n:Int))=((sIx n d (some v):Nat):Int):=by
 show(if v<0 then max (v+(n:Int)) 0 else min v (n:Int))=(((if v<0 then(v+(n:Int)).toNat else min v.toNat n):Nat):Int)
 by_cases hv:v<0
 ·simp only[if_pos hv];lia
 ·simp only[if_neg hv];lia
theorem rf(lo hi:Option Int) (n:Nat):J1.Slice.sliceAdjust lo hi 1 (n:Int)=(((sIx n 0 lo:Nat):Int),((sIx n n hi:Nat):Int)):=by
 have h1:¬ ((1:Int)<0):=by lia
 unfold J1.Slice.sliceAdjust;simp only[h1,if_false];refine Prod.ext ?_ ?_
 ·cases lo with
  |none=>rfl
  |some v=>exact sS v n 0
 ·cases hi with
  |none=>rfl
  |some v=>exact sS v n n
theorem qW(i j:Nat):N2 (i:Int) (j:Int) 1=j-i:=by
 unfold N2;have h1:(1:Int) > 0:=by lia
 simp only[h1,if_true,Int.ediv_one]
 split<;>lia
theorem lA{v:u8}{o:Option Int}{Q:Option Int->F0->Prop}(p:ad1 v o) (h:Q o s):J3 (K6 prog w) A (J1.Slice.slicePartIndex v) Q E s:=by
 cases p with
 |none=>exact aa0 h
 |int i t=>exact slicePart_int h
theorem eQ{sl:F9}{vl vu:u8}{lo hi:Option Int}{n:Nat}{Q:Int×Int×Nat->F0->Prop}(hs:s.heap.IsSliceOf sl vl vu .none) (pl:ad1 vl lo) (pu:ad1 vu hi)
  (h:Q (((sIx n 0 lo:Nat):Int),1,sIx n n hi-sIx n 0 lo) s):J3 (K6 prog w) A (Q7 (.ref sl) (V9 (n:Int))) Q E s:=by
 obtain⟨os,hos,hcs,hds⟩:=id hs;unfold Q7 J1.Slice.sliceFields;refine s0 (s0 (O7 hos hds (x:=vl) rfl (s0 (O7 hos hds (x:=vu) rfl (s0 (O7 hos hds (x:=.none) rfl (F4 ?_)))))));refine s0 (aa0 ?_);show J3 _ _ (if((1:Int)==0)=true then _ else _) _ _ s;rw[if_neg (by decide)];refine s0 (lA pl (s0 (lA pu (s0 (F4 ?_)))));show J3 _ _ (match J1.Slice.sliceAdjust lo hi 1 (n:Int)with|(lo,hi)=>V9 (lo,(1:Int),N2 lo hi 1)) _ _ s;rw[rf lo hi n];show J3 _ _ (V9 (((sIx n 0 lo:Nat):Int),(1:Int),N2 ((sIx n 0 lo:Nat):Int) ((sIx n n hi:Nat):Int) 1)) _ _ s;rw[qW];exact F4 h
theorem vR(xs:Array u8) (i k:Nat):((T6 k).filterMap fun(m:Nat)=>xs[((i:Int)+(m:Int)*1).toNat]?).toArray=((xs.toList.drop i).take k).toArray:=by
 have e:(fun(m:Nat)=>xs[((i:Int)+(m:Int)*1).toNat]?)=fun m=>xs[i+m]?:=by
  funext m;have:((i:Int)+(m:Int)*1).toNat=i+m:=by lia
  rw[this]
 rw[e];have:=pick_run xs i k;rw[List.filterMap_map]at this;have e2:((fun x=>xs[x]?)∘fun x=>i+x)=fun m=>xs[i+m]?:=rfl;rw[e2]at this;rw[this]
theorem getItem_tuple_cut{t sl:F9}{items:Array u8}{vl vu:u8}{lo hi:Option Int}{Q:u8->F0->Prop}(ht:ac9 s.heap t items) (hs:s.heap.IsSliceOf sl vl vu .none) (pl:ad1 vl lo) (pu:ad1 vu hi)
  (hw:¬ (sIx items.size 0 lo=0/\sIx items.size items.size hi=items.size))
  (h:Q (.ref s.heap.objs.size) { s with heap:=s.heap.push { cls:=.type "tuple",data:=.seq ((items.toList.drop (sIx items.size 0 lo)).take (sIx items.size items.size hi-sIx items.size 0 lo)).toArray } })
  (hsz:items.size<=F2):J3 (K6 prog w) A (Z3 (.ref t) (.ref sl)) Q E s:=by
 have htake:sizeOk (.seq ((items.toList.drop (sIx items.size 0 lo)).take (sIx items.size items.size hi-sIx items.size 0 lo)).toArray):=by
  show((items.toList.drop (sIx items.size 0 lo)).take (sIx items.size items.size hi-sIx items.size 0 lo)).toArray.size<=F2;rw[F3,List.length_take,List.length_drop,U7]
  lia
 have hj:sIx items.size items.size hi<=items.size:=Aw _ _ (F7 _) hi;obtain⟨os,hos,hcs,hds⟩:=id hs;have hTs:s.TypeIs (.ref sl) "slice":=⟨os,hos,hcs⟩;unfold Z3
 try with_reducible refine S7 ?_
 first|refine s0 (F4 ?_)|skip
 refine s0 (wpAny_sequenceKey ht.typeIs (by decide) ?_);refine s0 (N8 (name:=U9 "__getitem__") ht.typeIs J6
  (P5 J6 ht.typeIs entry_tuple_getitem ?_ (args_tuple_getitem _ _)))
 show J3 _ _ (Q8 (.ref t) >>= _) _ _ s;refine s0 (aa5 ht ?_);refine s0 (ab3 hTs ?_);rw[if_pos (by decide)];refine s0 (eQ hs pl pu ?_);have hno:¬ ((((sIx items.size 0 lo:Nat):Int)==0&&(1:Int)==1&&(sIx items.size items.size hi-sIx items.size 0 lo)==items.size)=true):=by
  intro q;rw[K1,K1]at q;have q1:((sIx items.size 0 lo:Nat):Int)=0:=eq_of_beq q.1.1;have q2:sIx items.size items.size hi-sIx items.size 0 lo=items.size:=eq_of_beq q.2;exact hw ⟨by lia,by lia⟩
 show J3 _ _ (if(((sIx items.size 0 lo:Nat):Int)==0&&(1:Int)==1&&(sIx items.size items.size hi-sIx items.size 0 lo)==items.size)=true then _ else _) _ _ s;rw[if_neg hno,vR]
 first
  |exact s0 (m:=K2 _) (K0 (F4 ⟨_,rfl,F4 h⟩) htake)
  |exact s0 (m:=K2 _) (K0 (s0 (F4 (F4 ⟨_,rfl,F4 h⟩))) htake)
  |exact s0 (s0 (m:=K2 _) (K0 (F4 (F4 ⟨_,rfl,F4 h⟩)) htake))
  |exact s0 (s0 (m:=K2 _) (K0 (F4 ⟨_,rfl,F4 h⟩) htake))
end
end HT
namespace L2
open PySem PySem.Spec PyProof.Rows
abbrev TO:=St->Hp->(Option Int->Hp->Prop)->Prop
def PO(X:Cx) (e:Option J5) (t:TO):Prop :=
 ∀(ag:List (F9×Obj)) (s:F0) (σ:St) (H:Hp) (Q:Option Int->Hp->Prop),Inv X ag σ H s->t σ H Q ->
  J3 (K6 X.prog X.w) X.A (evalPart e X.env) (fun u s'=>∃o H',Inv X ag σ H' s'/\ad1 u o/\Q o H') X.xe s
def zi:TO:=fun _ H Q=>Q none H
def De(t:TE):TO:=fun σ H Q=>t σ H fun x H1=>∃i,x=.int i/\Q (some i) H1
section
variable{X:Cx}{e:J5}{te:TE}{lo hi:Option J5}{tl th:TO}{pos p2:Pos}
theorem yT:PO X none zi:=by
 intro ag s σ H Q I h;rw[aa6];exact F4 ⟨none,H,I,.none,h⟩
theorem ya(h:PE X e te):PO X (some e) (De te):=by
 intro ag s σ H Q I hw;rw[evalPart_some];refine thn (h ag s σ H _ I hw) fun u s1 hup=>hup.el fun x H1 I1 r1 q1=>?_;obtain⟨i,rfl,q⟩:=q1;obtain⟨t,rfl⟩:=r1;exact⟨some i,H1,I1,.int i t,q⟩
def SlR(X:Cx) (r:V->Option Int->Option Int->Hp->VK->Prop):Prop :=
 ∀(ag:List (F9×Obj)) (s:F0) (σ:St) (H:Hp) (x:V) (v vl vu:u8) (lo hi:Option Int) (sl:F9) (Q:VK),Inv X ag σ H s->aE x v->s.heap.IsSliceOf sl vl vu .none->ad1 vl lo->ad1 vu hi->r x lo hi H Q ->
  ∃T id,typeLookup (.type T) "__getitem__"=V9 (some (.builtin id))/\s.TypeIs v T/\J3 (K6 X.prog X.w) X.A (Z3 v (.ref sl)) (EP X ag σ Q) X.xe s
theorem SlR.or{r r':V->Option Int->Option Int->Hp->VK->Prop}(h:SlR X r) (h':SlR X r'):SlR X (fun x lo hi H Q=>r x lo hi H Q∨r' x lo hi H Q):=by
 intro ag s σ H x v vl vu lo hi sl Q I rx hs pl pu q;rcases q with q|q
 ·exact h ag s σ H x v vl vu lo hi sl Q I rx hs pl pu q
 ·exact h' ag s σ H x v vl vu lo hi sl Q I rx hs pl pu q
def tSl(r:V->Option Int->Option Int->Hp->VK->Prop) (te:TE) (tl th:TO):TE:=fun σ H Q=>te σ H fun x H1=>tl σ H1 fun l H2=>th σ H2 fun u H3=>r x l u H3 Q
theorem xq{r:V->Option Int->Option Int->Hp->VK->Prop}(hr:SlR X r) (he:PE X e te) (hl:PO X lo tl) (hu:PO X hi th):PE X (.Subscript e (.Slice lo hi none p2) pos) (tSl r te tl th):=by
 intro ag s σ H Q I h;refine ab6 (thn (he ag s σ H _ I h) fun v s1 hup=>hup.el fun x H1 I1 r1 q1=>?_);refine wpAny_Slice (thn (hl ag s1 σ H1 _ I1 q1) fun vl s2 ⟨l,H2,I2,pl,q2⟩=>thn (hu ag s2 σ H2 _ I2 q2) fun vu s3 ⟨u,H3,I3,pu,q3⟩=>?_);rw[aa6];refine F4 ?_;have I4:Inv X ag σ H3 { s3 with heap:=s3.heap.push { cls:=.type "slice",data:=.fields #[vl,vu,.none] } }:=I3.kept (t':=s3.toks) fun b ob q=>F1 _ q;obtain⟨T,id,hT,ht,hg⟩:=hr ag { s3 with heap:=s3.heap.push { cls:=.type "slice",data:=.fields #[vl,vu,.none] } } σ H3 x v vl vu l u s3.heap.objs.size Q I4 r1 (K5.IsSliceOf.new ..) pl pu q3;show J3 (K6 X.prog X.w) X.A (subscriptTail e (.Slice lo hi none p2) v (.ref s3.heap.objs.size)) (EP X ag σ Q) X.xe { s3 with heap:=s3.heap.push { cls:=.type "slice",data:=.fields #[vl,vu,.none] } };exact tail_any (ops:=[.ref s3.heap.objs.size,v]) ht hT hg (by with_unfolding_all rfl)
def oP(xs:List V) (lo hi:Option Int):List V:=(xs.drop (HT.sIx xs.length 0 lo)).take (HT.sIx xs.length xs.length hi-HT.sIx xs.length 0 lo)
theorem jB(xs:List V) (lo hi:Option Int):(oP xs lo hi).length<=xs.length:=by
 unfold oP;rw[List.length_take,List.length_drop]
 lia
def En(K:o0):V->Option Int->Option Int->Hp->VK->Prop:=fun x lo hi H Q=>∃a xs,x=.ref a/\SqT K H a xs /\
 ¬ (HT.sIx xs.length 0 lo=0/\HT.sIx xs.length xs.length hi=xs.length)/\∀p,H p=none->Q (.ref p) (upd H p (.tup (oP xs lo hi)))
theorem B8:SlR X (En X.K):=by
 intro ag s σ H x v vl vu lo hi sl Q I rx hs pl pu h;obtain⟨a,xs,rfl,hx,hw,q⟩:=h;cases rx;obtain⟨its,r,ht,hz⟩:=I.tuple hx;have bP:its.toArray.size=xs.length:=by rw[F3];exact r.length.symm
 refine⟨"tuple",_,J6.lookup,ht.typeIs,?_⟩;refine HT.getItem_tuple_cut ht hs pl pu (by rw[bP];exact hw) ?_ (by rw[bP];exact hz);rw[bP];refine⟨.ref s.heap.objs.size,_,I.laid (t':=s.toks) (o:=.tup (oP xs lo hi)) (fun b ob q=>F1 _ q) (F7 _) ?_,rfl,q _ (I.hok.fresh (F7 _))⟩;exact⟨L5 (jB xs lo hi) hz,_,(r.drop (HT.sIx xs.length 0 lo)).take (HT.sIx xs.length xs.length hi-HT.sIx xs.length 0 lo),jI.new _ _⟩
def DT(K:o0):R2:=fun x y H Q=>∃a b xs ys,x=.ref a/\y=.ref b/\SqT K H a xs/\SqT K H b ys/\xs≠[]/\xs.length+ys.length<=F2 /\
 (ys=[]->Q (.ref a) H)/\(ys≠[]->∀p,H p=none->Q (.ref p) (upd H p (.tup (xs++ys))))
theorem ay.nil_iff{xs:List V}{us:List u8}(r:ay xs us):us=[]↔xs=[]:=by
 cases r with
 |nil=>simp
 |cons _ _=>simp
theorem yB:OpR X (O9 .Add) (DT X.K):=by
 intro ag s σ H x y v u Q I rx ry h;obtain⟨a,b,xs,ys,rfl,rfl,ha,hb,hx,hz,q1,q2⟩:=h;cases rx;cases ry;obtain⟨its,r1,p1,_⟩:=I.tuple ha;obtain⟨its2,r2,p2,_⟩:=I.tuple hb;refine HT.cat_tup p1 p2 (fun z=>hx (r1.nil_iff.mp z)) (fun z=>⟨.ref a,H,I,rfl,q1 (r2.nil_iff.mp z)⟩) (fun z=>?_) (by rw[<-r1.length,<-r2.length];exact hz);refine⟨.ref s.heap.objs.size,_,I.laid (t':=s.toks) (o:=.tup (xs++ys)) (fun b ob q=>F1 _ q) (F7 _) ?_,rfl,q2 (fun w=>z (r2.nil_iff.mpr w)) _ (I.hok.fresh (F7 _))⟩;exact⟨by rw[L6];exact hz,_,r1.append r2,jI.new _ _⟩
end
noncomputable def ixN(n:Nat) (i:Int):Option Nat:=if 0<=i then(if i<n then some i.toNat else none)else if -(n:Int)<=i then some (i+n).toNat else none
def atI{α:Type}(xs:List α) (i:Int):Option α:=(ixN xs.length i).bind fun j=>xs[j]?
theorem sk{n:Nat}{i:Int}{j:Nat}(h:ixN n i=some j):seqIndex? i n=some j/\j<n/\-(n:Int)<=i/\i<n:=by
 unfold ixN at h
 by_cases h0:0<=i
 ·rw[if_pos h0]at h
  by_cases h1:i<n
  ·rw[if_pos h1]at h;have e:i.toNat=j:=J4 h;exact⟨by rw[seqIndex_of h0 h1,e],by lia,by lia,h1⟩
  ·rw[if_neg h1]at h;cases h
 ·rw[if_neg h0]at h
  by_cases h1:-(n:Int)<=i
  ·rw[if_pos h1]at h;have e:(i+n).toNat=j:=J4 h;exact⟨by rw[seqIndex_neg (by lia) h1,e],by lia,h1,by lia⟩
  ·rw[if_neg h1]at h;cases h
theorem nS{α:Type}{xs:List α}{i:Int}{v:α}(h:atI xs i=some v):∃j,seqIndex? i xs.length=some j/\xs[j]?=some v/\j<xs.length/\-(xs.length:Int)<=i/\i<xs.length:=by
 unfold atI at h;cases e:ixN xs.length i with
 |none=>rw[e]at h;cases h
 |some j =>
  rw[e]at h;obtain⟨h1,h2,h3,h4⟩:=sk e;exact⟨j,h1,h,h2,h3,h4⟩
theorem dw{α:Type}{xs:List α}{j:Nat}{v:α}(h:xs[j]?=some v):atI xs (j:Int)=some v:=by
 have hj:j<xs.length:=(L7.mp h).1;have e:ixN xs.length (j:Int)=some j:=by
  unfold ixN;rw[if_pos (by lia),if_pos (by lia)];simp
 unfold atI;rw[e];exact h
theorem vb{α:Type}(xs:List α) (v:α):atI (xs++[v]) (-1)=some v:=by
 have hl:(xs++[v]).length=xs.length+1:=by simp
 have e:ixN (xs++[v]).length (-1)=some xs.length:=by
  unfold ixN;rw[hl,if_neg (by decide),if_pos (by lia)];congr 1
  lia
 unfold atI;rw[e];show(xs++[v])[xs.length]?=some v;simp
def tP(b:J5):Prop:=∀o i,ac5 b false o i=operate [o,i] (Z3 o i)
def IxR(X:Cx) (r:R2):Prop :=
 ∀(value slice:J5) (ag:List (F9×Obj)) (s:F0) (σ:St) (H:Hp) (x y:V) (v u:u8) (Q:VK),Inv X ag σ H s->aE x v->aE y u->r x y H Q ->
  ac5 slice false v u=operate [v,u] (Z3 v u)->J3 (K6 X.prog X.w) X.A (subscriptTail value slice v u) (EP X ag σ Q) X.xe s
def MtR(X:Cx) (id:String) (r:V->List V->Hp->VK->Prop):Prop :=
 ∀(ag:List (F9×Obj)) (s:F0) (σ:St) (H:Hp) (x:V) (xs:List V) (v:u8) (us:List u8) (Q:VK),Inv X ag σ H s->aE x v->ay xs us->r x xs H Q ->
  J3 (K6 X.prog X.w) X.A (call (.builtin id) (v::us)) (EP X ag σ Q) X.xe s
section
variable{X:Cx}{a b:J5}{ta tb:TE}{pos:Pos}
theorem DC{r:R2}(hr:IxR X r) (ha:PE X a ta) (hb:PE X b tb) (hs:tP b):PE X (.Subscript a b pos) (tOp r ta tb):=by
 intro ag s σ H Q I h;exact ab6 (As ha hb I h fun v u s2 x y H2 I2 rx ry q=>hr a b ag s2 σ H2 x y v u Q I2 rx ry q (hs _ _))
def EN(K:o0):R2:=fun x y H Q=>∃p xs i v,x=.ref p/\y=.int i/\SqL K H p xs/\atI xs i=some v/\Q v H
def EK(K:o0):R2:=fun x y H Q=>∃p xs i v,x=.ref p/\y=.int i/\SqT K H p xs/\atI xs i=some v/\Q v H
def E2:R2:=fun x y H Q=>∃z i c,x=.str z/\y=.int i/\z.length<=F2/\atI z.cps.toList i=some c/\Q (.str ⟨#[c]⟩) H
theorem sR:IxR X (EN X.K):=by
 intro value slice ag s σ H x y v u Q I rx ry h hs;obtain⟨p,xs,i,z,rfl,rfl,hq,he,q⟩:=h;cases rx;obtain⟨t,rfl⟩:=ry;obtain⟨its,r,pl,hz⟩:=I.list hq;obtain⟨j,h1,h2,h3,h4,h5⟩:=nS he;obtain⟨w,ew,rw'⟩:=r.get h2;have hl:=r.length;have hn:=jc;have fin:EP X ag σ Q w s:=⟨z,H,I,rw',q⟩
 by_cases h0:0<=i
 ·have hj:i.toNat=j:=by
   rw[seqIndex_of h0 h5]at h1;exact J4 h1
  exact item_listR pl.isList h0 (by lia) (by rw[hj];simpa using ew) fin hs
 ·have hj:(i+(its.toArray.size:Int)).toNat=j:=by
   rw[seqIndex_neg (by lia) h4]at h1;rw[F3,<-hl];exact J4 h1
  exact subscriptTail_builtinR (x:=w) pl.isList.typeIs slot_list_getitem.lookup
   (wpAny_getItem_list_neg (Q:=fun r s'=>r=w/\EP X ag σ Q r s') pl.isList (by lia) (by rw[F3]<;>lia) (by lia) (by rw[hj];simpa using ew) ⟨rfl,fin⟩) hs
theorem BV:IxR X (EK X.K):=by
 intro value slice ag s σ H x y v u Q I rx ry h hs;obtain⟨p,xs,i,z,rfl,rfl,hq,he,q⟩:=h;cases rx;obtain⟨t,rfl⟩:=ry;obtain⟨its,r,pl,hz⟩:=I.tuple hq;obtain⟨j,h1,h2,h3,h4,h5⟩:=nS he;obtain⟨w,ew,rw'⟩:=r.get h2;have hl:=r.length;have hn:=jc;have fin:EP X ag σ Q w s:=⟨z,H,I,rw',q⟩;exact subscriptTail_builtinR (x:=w) pl.typeIs slot_tuple_getitem.lookup
  (getItem_tuple (j:=j) (Q:=fun r s'=>r=w/\EP X ag σ Q r s') pl (by lia) (by lia) (by rw[F3,<-hl];exact h1) (by simpa using ew) ⟨rfl,fin⟩) hs
theorem AL:IxR X E2:=by
 intro value slice ag s σ H x y v u Q I rx ry h hs;obtain⟨z,i,c,rfl,rfl,hz,he,q⟩:=h;obtain⟨t,rfl⟩:=rx;obtain⟨t',rfl⟩:=ry;obtain⟨j,h1,h2,h3,h4,h5⟩:=nS he;have hl:z.cps.toList.length=z.length:=by simp[Str.length]
 rw[hl]at h1 h4 h5;have hn:=jc;exact tail_any (typeIs_str s z t) slot_str_getitem.lookup (getItem_str (c:=c) (by
  have e1:decide (i < -(2 ^ 63:Int))=false:=decide_eq_false (by lia);have e2:decide (i>=2 ^ 63)=false:=decide_eq_false (by lia);rw[e1,e2,Bool.or_false]) (by rw[h1];simpa using h2) ⟨.str ⟨#[c]⟩,H,I.tok _,⟨_,rfl⟩,q⟩) hs
theorem rM(its:List u8) (n j:Nat) (u:u8):ab7 (·.setIfInBounds j u) { cls:=.type "list",data:=.seq its.toArray n }={ cls:=.type "list",data:=.seq (its.set j u).toArray n }:=by
 simp[ab7]
theorem Inv.lst{ag:List (F9×Obj)}{σ:St}{H:Hp}{s:F0}{p:F9}{xs:List V}(I:Inv X ag σ H s) (h:H p=some (.lst xs)) :
  ∃(its:List u8) (n:Nat),ay xs its/\s.heap.get? p=some { cls:=.type "list",data:=.seq its.toArray n }/\xs.length<=F2:=by
 obtain⟨z,its,n,r,e⟩:=I.hok p _ h;exact⟨its,n,r,e,z⟩
theorem Inv.lstUpd{ag:List (F9×Obj)}{σ:St}{H:Hp}{s:F0}{p:F9}{xs ys:List V}{its its':List u8}{n n':Nat}{f:Obj->Obj}(I:Inv X ag σ H s) (h:H p=some (.lst xs))
  (ho:s.heap.get? p=some { cls:=.type "list",data:=.seq its.toArray n }) (hf:f { cls:=.type "list",data:=.seq its.toArray n }={ cls:=.type "list",data:=.seq its'.toArray n' }) (r:ay ys its') (hz:ys.length<=F2) (t:Nat) :
  Inv X ag σ (upd H p (.lst ys)) { s with heap:=s.heap.update p f,toks:=t }:=by
 have e:(s.heap.update p f).get? p=some { cls:=.type "list",data:=.seq its'.toArray n' }:=by
  rw[U0 f ho (by rw[hf]<;>rfl),hf]
 refine I.write (x:=p) (e:=p) (by rw[h];trivial) (.inl rfl) (fun b u hb q=>(K5.get?_update_other _ _ (X7 hb)).trans q) ⟨_,e⟩ ?_;exact⟨hz,its',n',r,e⟩
def CU:V->V->V->Hp->(Hp->Prop)->Prop:=fun o i v H Q=>∃p xs k j,o=.ref p/\i=.int k/\H p=some (.lst xs)/\ixN xs.length k=some j/\Q (upd H p (.lst (xs.set j v)))
theorem wu:DD X CU:=by
 intro ag s σ H o i v ov iv u Q I ro ri rv h;obtain⟨p,xs,k,j,rfl,rfl,hp,hj,q⟩:=h;cases ro;obtain⟨t,rfl⟩:=ri;obtain⟨its,n,r,ho,hz⟩:=I.lst hp;obtain⟨h1,h2,h3,h4⟩:=sk hj;have hl:=r.length;have hn:=jc;have I':Inv X ag σ (upd H p (.lst (xs.set j v))) { s with heap:=s.heap.update p (ab7 (·.setIfInBounds j u)) } :=
  I.lstUpd hp ho (rM its n j u) (r.set rv j) (by rw[List.length_set];exact hz) s.toks
 by_cases h0:0<=k
 ·have hk:k.toNat=j:=by
   rw[seqIndex_of h0 h4]at h1;exact J4 h1
  exact PySem.W.ki_setAt ho h0 (by lia) (by rw[F3,<-hl];exact h4) (by rw[hk];exact⟨_,I',q⟩)
 ·have hk:(k+(its.toArray.size:Int)).toNat=j:=by
   rw[seqIndex_neg (by lia) h3]at h1;rw[F3,<-hl];exact J4 h1
  exact PySem.W.ki_setBack ho (by lia) (by rw[F3,<-hl];exact h3) (by lia) (by rw[hk];exact⟨_,I',q⟩)
theorem ox(lo hi:Option Int) (n:Nat):(R4 lo hi none n).1=((HT.sIx n 0 lo:Nat):Int)/\(R4 lo hi none n).2.1=((HT.sIx n n hi:Nat):Int)/\(R4 lo hi none n).2.2=1:=by
 refine⟨?_,?_,rfl⟩
 ·cases lo with
  |none=>simp[R4,HT.sIx]
  |some i =>
   simp only[R4,HT.sIx,Option.getD_none,show(1:Int) > 0 by decide,if_true]
   by_cases h:i<0
   ·simp only[h,if_true]<;>lia
   ·simp only[h,if_false]<;>lia
 ·cases hi with
  |none=>simp[R4,HT.sIx]
  |some i =>
   simp only[R4,HT.sIx,Option.getD_none,show(1:Int) > 0 by decide,if_true]
   by_cases h:i<0
   ·simp only[h,if_true]<;>lia
   ·simp only[h,if_false]<;>lia
theorem mH(its:List u8) (lo hi:Option Int):ae1 its.toArray lo hi none=((its.drop (HT.sIx its.length 0 lo)).take (HT.sIx its.length its.length hi-HT.sIx its.length 0 lo)).toArray:=by
 obtain⟨h1,h2,h3⟩:=ox lo hi its.toArray.size;unfold ae1;rw[h1,h2,h3];simp only[sliceRange_one,pick_run,F3]<;>rfl
def EE(K:o0):V->Option Int->Option Int->Hp->VK->Prop:=fun x lo hi H Q=>∃a xs,x=.ref a/\SqL K H a xs/\∀p,H p=none->Q (.ref p) (upd H p (.lst (oP xs lo hi)))
theorem yK:SlR X (EE X.K):=by
 intro ag s σ H x v vl vu lo hi sl Q I rx hs pl pu h;obtain⟨a,xs,rfl,hx,q⟩:=h;cases rx;obtain⟨its,r,ht,hz⟩:=I.list hx;have bP:=r.length;refine⟨"list",_,slot_list_getitem.lookup,ht.isList.typeIs,?_⟩;refine wpAny_getItem_list_slice ht.isList hs pl pu .none (by simp) ?_ (by rw[F3]<;>lia);rw[mH,<-bP];refine⟨.ref s.heap.objs.size,_,I.laid (t':=s.toks) (o:=.lst (oP xs lo hi)) (fun b ob q=>F1 _ q) (F7 _) ?_,rfl,q _ (I.hok.fresh (F7 _))⟩;exact⟨L5 (jB xs lo hi) hz,_,0,(r.drop (HT.sIx xs.length 0 lo)).take (HT.sIx xs.length xs.length hi-HT.sIx xs.length 0 lo),F6 _ rfl⟩
def fT:V->Bool
 |.non=>true
 |.bl _=>true
 |.int _=>true
 |.str _=>true
 |_=>false
noncomputable def eqV:V->V->Bool
 |.non,.non=>true
 |.bl a,.bl b=>a==b
 |.bl a,.int b=>(if a then 1 else 0)==b
 |.int a,.bl b=>a==(if b then 1 else 0)
 |.int a,.int b=>a==b
 |.str a,.str b=>a==b
 |_,_=>false
theorem BM{A:N5}{s:F0}{y x:V}{u v:u8}(ry:aE y u) (rx:aE x v) (fy:fT y=true) (fx:fT x=true):N6 A s u v (eqV y x):=by
 cases y with
 |non =>
  cases ry;cases x with
  |non=>cases rx;exact N6.same _
  |bl b=>cases rx;exact N6.none_bool b
  |int b=>obtain⟨t,rfl⟩:=rx;exact N6.none_int b t
  |str b=>obtain⟨t,rfl⟩:=rx;exact N6.none_str b t
  |_=>exact absurd (show false=true from fx) L3
 |bl a =>
  cases ry;cases x with
  |non=>cases rx;exact N6.bool_none a
  |bl b=>cases rx;exact N6.bool_bool a b
  |int b=>obtain⟨t,rfl⟩:=rx;exact N6.bool_int a b t
  |str b=>obtain⟨t,rfl⟩:=rx;exact N6.bool_str a b t
  |_=>exact absurd (show false=true from fx) L3
 |int a =>
  obtain⟨t',rfl⟩:=ry;cases x with
  |non=>cases rx;exact N6.int_none a t'
  |bl b=>cases rx;exact N6.int_bool a t' b
  |int b=>obtain⟨t,rfl⟩:=rx;exact N6.int_int a t' b t
  |str b=>obtain⟨t,rfl⟩:=rx;exact N6.int_str a t' b t
  |_=>exact absurd (show false=true from fx) L3
 |str a =>
  obtain⟨t',rfl⟩:=ry;cases x with
  |non=>cases rx;exact N6.str_none a t'
  |bl b=>cases rx;exact N6.str_bool a t' b
  |int b=>obtain⟨t,rfl⟩:=rx;exact N6.str_int a t' b t
  |str b=>obtain⟨t,rfl⟩:=rx;exact N6.str_str a t' b t
  |_=>exact absurd (show false=true from fx) L3
 |_=>exact absurd (show false=true from fy) L3
def eqU(x:V) (u:u8):Bool:=match u with
 |.none=>eqV .non x
 |.bool b=>eqV (.bl b) x
 |.int i _=>eqV (.int i) x
 |.str z _=>eqV (.str z) x
 |_=>false
theorem vk{x y:V}{u:u8}(r:aE y u) (f:fT y=true):eqU x u=eqV y x:=by
 cases y with
 |non=>cases r;rfl
 |bl b=>cases r;rfl
 |int i=>obtain⟨t,rfl⟩:=r;rfl
 |str z=>obtain⟨t,rfl⟩:=r;rfl
 |_=>exact absurd (show false=true from f) L3
theorem iS{x:V}:∀{xs:List V}{us:List u8},ay xs us->xs.all fT=true->us.any (eqU x)=xs.any fun y=>eqV y x
 |_,_,.nil,_=>rfl
 |y::xs,u::us,.cons r t,f=>by
  rw[V7,K1]at f;rw[P2,P2,vk r f.1,iS t f.2]
theorem gj{A:N5}{s:F0}{x:V}{v:u8}(rx:aE x v) (fx:fT x=true):∀{xs:List V}{us:List u8},ay xs us->xs.all fT=true->∀u∈us,N6 A s u v (eqU x u)
 |_,_,.nil,_=>fun u hu=>by cases hu
 |y::xs,u::us,.cons r t,f=>fun u' hu=>by
  rw[V7,K1]at f;rcases N7.mp hu with rfl|hu
  ·rw[vk r f.1];exact BM r rx f.1 fx
  ·exact gj rx fx t f.2 u' hu
def inV(x:V) (xs:List V):Bool:=xs.any fun y=>eqV y x
def rIn(K:o0) (neg:Bool):R2:=fun x y H Q=>∃p xs,y=.ref p/\(SqL K H p xs∨SqT K H p xs)/\fT x=true/\xs.all fT=true/\Q (.bl (if neg then !inV x xs else inV x xs)) H
theorem uD:OpR X (N0 .In) (rIn X.K false):=by
 intro ag s σ H x y v u Q I rx ry h;obtain⟨p,xs,rfl,hq,fx,fs,q⟩:=h;cases ry;rcases hq with hq|hq
 ·obtain⟨its,r,pl,hz⟩:=I.list hq;refine SeqAt.in_listAt (eqU x) pl.isList (fun w hw=>gj rx fx r fs w (by simpa using hw)) ⟨.bl _,H,I,rfl,?_⟩;rw[show its.toArray.any (eqU x)=its.any (eqU x)by simp,iS r fs];exact q
 ·obtain⟨its,r,pl,hz⟩:=I.tuple hq;refine SeqAt.in_tupleAt (eqU x) pl (fun w hw=>gj rx fx r fs w (by simpa using hw)) ⟨.bl _,H,I,rfl,?_⟩;rw[show its.toArray.any (eqU x)=its.any (eqU x)by simp,iS r fs];exact q
theorem oB:OpR X (N0 .NotIn) (rIn X.K true):=by
 intro ag s σ H x y v u Q I rx ry h;obtain⟨p,xs,rfl,hq,fx,fs,q⟩:=h;cases ry;rcases hq with hq|hq
 ·obtain⟨its,r,pl,hz⟩:=I.list hq;refine SeqAt.notIn_listAt (eqU x) pl.isList (fun w hw=>gj rx fx r fs w (by simpa using hw)) ⟨.bl _,H,I,rfl,?_⟩;rw[show its.toArray.any (eqU x)=its.any (eqU x)by simp,iS r fs];exact q
 ·obtain⟨its,r,pl,hz⟩:=I.tuple hq;refine SeqAt.notIn_tupleAt (eqU x) pl (fun w hw=>gj rx fx r fs w (by simpa using hw)) ⟨.bl _,H,I,rfl,?_⟩;rw[show its.toArray.any (eqU x)=its.any (eqU x)by simp,iS r fs];exact q
theorem oI:dR X (.builtin "len") (fun xs H Q=>∃p ys,xs=[.ref p]/\(SqL X.K H p ys∨SqT X.K H p ys)/\Q (.int ys.length) H):=by
 intro ag s σ H xs us Q I r h;obtain⟨p,ys,rfl,hq,q⟩:=h;obtain⟨u,rfl,rx⟩:=u5 r;cases rx;have hn:=jc;rcases hq with hq|hq
 ·obtain⟨its,r',pl,hz⟩:=I.list hq;have bP:=r'.length;exact Calls.call_len_list pl.isList (by simp only[F3]<;>lia) ⟨.int ys.length,H,I.tok _,⟨s.toks+1,by rw[F3,bP]⟩,q⟩
 ·obtain⟨its,r',pl,hz⟩:=I.tuple hq;have bP:=r'.length;exact len_tuple pl (by simp only[F3]<;>lia) ⟨.int ys.length,H,I.tok _,⟨s.toks+1,by rw[F3,bP]⟩,q⟩
theorem oK:dR X (.builtin "len") (fun xs H Q=>∃z,xs=[.str z]/\z.length<=F2/\Q (.int z.length) H):=by
 intro ag s σ H xs us Q I r h;obtain⟨z,rfl,hz,q⟩:=h;obtain⟨u,rfl,t,rfl⟩:=u5 r;have hn:=jc;exact len_str (by lia) ⟨.int z.length,H,I.tok _,⟨_,rfl⟩,q⟩
theorem dR.or{f:u8}{r r':List V->Hp->VK->Prop}(h:dR X f r) (h':dR X f r'):dR X f (fun xs H Q=>r xs H Q∨r' xs H Q):=by
 intro ag s σ H xs us Q I rs q;rcases q with q|q
 ·exact h ag s σ H xs us Q I rs q
 ·exact h' ag s σ H xs us Q I rs q
theorem mw:dR X (.type "tuple") (fun xs H Q=>∃p ys,xs=[.ref p]/\((SqL X.K H p ys/\∀l,H l=none->Q (.ref l) (upd H l (.tup ys)))∨(SqT X.K H p ys/\Q (.ref p) H))):=by
 intro ag s σ H xs us Q I r h;obtain⟨p,ys,rfl,h⟩:=h;obtain⟨u,rfl,rx⟩:=u5 r;cases rx;rcases h with⟨hq,q⟩|⟨hq,q⟩
 ·obtain⟨its,r',pl,hz⟩:=I.list hq;have bP:=r'.length;refine call_tuple_list pl.isList (fun h' kp=>?_) (by simp only[F3]<;>lia);have I1:Inv X ag σ H { s with heap:=h' }:=I.kept (t':=s.toks) kp;have I2:Inv X ag σ (upd H h'.objs.size (.tup ys)) { s with heap:=h'.push { cls:=.type "tuple",data:=.seq its.toArray } } :=
   I1.laid (t':=s.toks) (fun b o e=>F1 _ e) (F7 _) (show bB X.prog X.w _ _ _ (.tup ys)from⟨hz,its,r',jI.new _ _⟩)
  exact⟨.ref h'.objs.size,_,I2,rfl,q _ (I1.hok.fresh (F7 _))⟩
 ·obtain⟨its,r',pl,hz⟩:=I.tuple hq;exact call_tuple_same pl ⟨.ref p,H,I,rfl,q⟩
def tyV(K:o0) (T:String) (x:V) (H:Hp):Prop:=match x with
 |.str _=>T="str"
 |.int _=>T="int"
 | .ref p => (T = "list" ∧ ∃ xs,SqL K H p xs) ∨ (T = "tuple" ∧ ∃ o,K.lookup p = some o ∧ o.cls = .type "tuple" ∧ o.dict = none) ∨
   (T="dict"/\((∃kvs,H p=some (.dK kvs))∨∃kvs,H p=some (.dT kvs)))∨(T="set"/\∃S n,H p=some (.set S n))
 |_=>False
theorem v8{ag:List (F9×Obj)}{σ:St}{H:Hp}{s:F0}{T:String}{x:V}{v:u8}(I:Inv X ag σ H s) (r:aE x v) (ty:tyV X.K T x H) :
  s.TypeIs v T/\∀a,v=.ref a->∃ob,s.heap.get? a=some ob/\ob.dict=none:=by
 cases x with
 |str z =>
  obtain⟨t,rfl⟩:=r;cases(show T="str" from ty);exact⟨typeIs_str s z t,fun _ e=>nomatch e⟩
 |int i =>
  obtain⟨t,rfl⟩:=r;cases(show T="int" from ty);exact⟨ab8 s i t,fun _ e=>nomatch e⟩
 |ref p =>
  cases r;rcases ty with⟨rfl,xs,hq⟩|⟨rfl,o,hk,hc,hd⟩|⟨rfl,hk⟩|⟨rfl,S,n,hk⟩
  ·obtain⟨its,_,pl,_⟩:=I.list hq;refine⟨pl.isList.typeIs,fun a e=>?_⟩;cases e;obtain⟨o,n,e,c,hd,_⟩:=pl;exact⟨o,e,hd⟩
  ·refine⟨⟨o,I.kIn p o hk,hc⟩,fun a e=>?_⟩;cases e;exact⟨o,I.kIn _ o hk,hd⟩
  ·have z:∃o,s.heap.get? p=some o/\o.ExactDict:=by
    rcases hk with⟨kvs,hk⟩|⟨kvs,hk⟩
    ·obtain⟨_,_,_,_,o,_,_,e,ex,_⟩:=I.hok p _ hk;exact⟨o,e,ex⟩
    ·obtain⟨_,_,_,_,o,_,_,e,ex,_⟩:=I.hok p _ hk;exact⟨o,e,ex⟩
   obtain⟨o,e,ex⟩:=z;refine⟨⟨o,e,ex.1⟩,fun a e2=>?_⟩;cases e2;exact⟨o,e,ex.2.1⟩
  ·obtain⟨o,_,_,_,e,ex,_⟩:=I.hok p _ hk;refine⟨⟨o,e,ex.1⟩,fun a e2=>?_⟩;cases e2;exact⟨o,e,ex.2.1⟩
 |_=>exact U8 ty
def EY(K:o0) (T:String) (r:V->List V->Hp->VK->Prop) (to:TE):TE:=fun σ H Q=>to σ H fun x H1=>tyV K T x H1/\r x [] H1 Q
def tBM(K:o0) (T:String) (r:V->List V->Hp->VK->Prop) (to:TE) (t:TA):TE:=fun σ H Q=>to σ H fun x H1=>tyV K T x H1/\t σ H1 fun xs H2=>r x xs H2 Q
variable{o e:J5}{es:List J5}{to:TE}{t:TA}{name:Str}{cb bf:Pos}{T id:String}{r:V->List V->Hp->VK->Prop}
theorem Cu(pa:PlainAttrs T) (slot:Slot T name id) (hty:typeOf (.builtin id)=V9 (.type "method_descriptor")) (hm:MtR X id r) (ho:PE X o to)
  (dU:X4 o name X.env (V1 o X.env)=V1 o X.env:=by rfl) (dN:(cb.endLine==bf.line)=true:=by rfl):PE X (.Call (.Attribute o name cb) [] [] bf) (EY X.K T r to):=by
 intro ag s σ H Q I h;refine wpAny_Call_method0_late dU dN (thn (ho ag s σ H _ I h) fun v s1 ⟨x,H1,I1,r1,ty,q1⟩=>?_);obtain⟨h1,h2⟩:=v8 I1 r1 ty;exact⟨T,id,pa,slot,hty,h1,h2,Calls.callWith_builtin rfl (PySem.evalArgs_none (hm ag s1 σ H1 x [] v [] Q I1 r1 .nil q1))⟩
theorem wb(pa:PlainAttrs T) (slot:Slot T name id) (hty:typeOf (.builtin id)=V9 (.type "method_descriptor")) (hm:MtR X id r) (ho:PE X o to) (ha:PA X (e::es) t)
  (dU:X4 o name X.env (V1 o X.env)=V1 o X.env:=by rfl)
  (oM:((V8 bf (J7 (e :: es) X.env)).all (fun x => !x.1) && (backToKw bf (ac6 [] X.env)).all (fun x => x.1.isSome)
  &&decide ((e::es).length+([]:List ac7).length+(if([]:List ac7).isEmpty then 0 else 1)<30))=true:=by rfl)
  (dN:(cb.endLine==bf.line)=true:=by rfl) (hs:J7 (e::es) X.env=(false,V1 e X.env)::J7 es X.env:=by rfl) (g7:(V8 bf (J7 es X.env)).any (·.1)=false:=by rfl) :
  PE X (.Call (.Attribute o name cb) (e::es) [] bf) (tBM X.K T r to t):=by
 intro ag s σ H Q I h;refine wpAny_Call_method_late dU oM dN rfl (thn (ho ag s σ H _ I h) fun v s1 ⟨x,H1,I1,r1,ty,q1⟩=>?_);obtain⟨h1,h2⟩:=v8 I1 r1 ty;refine⟨T,id,pa,slot,hty,h1,h2,?_⟩;have hA:=ha bf ag s1 σ H1 _ I1 q1;rw[hs]at hA ⊢;refine Calls.callWith_builtin (by show(false || (V8 bf (J7 es X.env)).any (·.1))=false;rw[g7]<;>rfl) (Calls.evalArgs_plain ?_);exact thn hA fun us s2 hup=>hup.el fun vs H2 I2 r2 q2=>hm ag s2 σ H2 x vs v us Q I2 r1 r2 q2
end
def MtM(X:Cx) (id:String) (r:V->List V->Hp->VK->Prop):Prop :=
 ∀(ag:List (F9×Obj)) (s:F0) (σ:St) (H:Hp) (x:V) (xs:List V) (v:u8) (us:List u8) (Q:VK),Inv X ag σ H s->aE x v->ay xs us->r x xs H Q ->
  J3 (K6 X.prog X.w) X.A (call (.builtin id) (v::us)) (EP X ag σ Q) X.xe s
theorem ay.un{x:V}{xs:List V}{us:List u8}(h:ay (x::xs) us):∃u vs,us=u::vs/\aE x u/\ay xs vs:=by
 cases h with
 |cons r t=>exact⟨_,_,rfl,r,t⟩
theorem ay.one{x:V}{us:List u8}(h:ay [x] us):∃u,us=[u]/\aE x u:=by
 obtain⟨u,vs,rfl,r,t⟩:=h.un;cases t;exact⟨u,rfl,r⟩
theorem ay.two{x y:V}{us:List u8}(h:ay [x,y] us):∃u v,us=[u,v]/\aE x u/\aE y v:=by
 obtain⟨u,vs,rfl,r,t⟩:=h.un;obtain⟨v,rfl,q⟩:=t.one;exact⟨u,v,rfl,r,q⟩
theorem ay.zero:∀{us:List u8},ay [] us->us=[]
 |_,.nil=>rfl
theorem ay.dropLast{xs:List V}{us:List u8}(h:ay xs us):ay xs.dropLast us.dropLast:=by
 induction h with
 |nil=>exact .nil
 |cons r t ih =>
  cases t with
  |nil=>exact .nil
  |cons q t'=>exact .cons r ih
theorem ay.reverse{xs:List V}{us:List u8}(h:ay xs us):ay xs.reverse us.reverse:=by
 induction h with
 |nil=>exact .nil
 |cons r t ih=>rw[W3,W3];exact ay.append ih (.cons r .nil)
theorem ay.rep{xs:List V}{us:List u8}(h:ay xs us):∀k:Nat,ay (J0 k xs).flatten (J0 k us).flatten
 |0=>.nil
 |k+1=>by
  rw[P1,P1,S0,S0];exact ay.append h (ay.rep h k)
theorem qJ{α:Type}(l:List α):l.eraseIdx (l.length-1)=l.dropLast:=by
 induction l with
 |nil=>rfl
 |cons a r ih =>
  cases r with
  |nil=>rfl
  |cons b r =>
   have e:(a::b::r).length-1=((b::r).length-1)+1:=by
    have h1:(a::b::r).length=r.length+2:=rfl;have h2:(b::r).length=r.length+1:=rfl
    lia
   rw[e,List.eraseIdx_cons_succ,ih]
   all_goals rfl
theorem i9(its:List u8):∀(k:Nat) (acc:List u8),
  ad3 (fun x1 x2=>x1++x2) acc.toArray (J0 k its.toArray)=(acc++(J0 k its).flatten).toArray
 |0,acc=>by simp
 |k+1,acc=>by
  have e:acc.toArray++its.toArray=(acc++its).toArray:=by simp
  have e2:(acc++its)++(J0 k its).flatten=acc++(J0 (k+1) its).flatten:=by
   rw[P1,S0,List.append_assoc]
  rw[<-e2,<-i9 its k (acc++its),<-e,P1,List.foldl_cons]
section
variable{X:Cx}{ag:List (F9×Obj)}{σ:St}{H:Hp}{s:F0}{l b:F9}{xs ys zs:List V}
theorem Inv.lset{its its':List u8}{n:Nat}{f:Array u8->Array u8}{t':Nat}(I:Inv X ag σ H s) (hH:H l=some (.lst xs))
  (e:s.heap.get? l=some { cls:=.type "list",data:=.seq its.toArray n }) (hf:f its.toArray=its'.toArray) (hv:ay ys its') (hz:ys.length<=F2) :
  Inv X ag σ (upd H l (.lst ys)) { s with heap:=s.heap.update l (ab7 f),toks:=t' }:=by
 have q:=PySem.IsL.update e f;rw[hf]at q;refine I.write (x:=l) (e:=l) (by rw[hH];exact trivial) (.inl rfl) (fun b' u hb hu=>(K5.get?_update_other s.heap (ab7 f) (X7 hb)).trans hu) ⟨_,q⟩ ?_;exact⟨hz,its',_,hv,q⟩
theorem Inv.lnew{its:List u8}{t':Nat}(I:Inv X ag σ H s) (hv:ay ys its) (hz:ys.length<=F2) :
  Inv X ag σ (upd H s.heap.objs.size (.lst ys)) { s with heap:=s.heap.push { cls:=.type "list",data:=.seq its.toArray },toks:=t' } :=
 I.laid (fun _ _ q=>F1 _ q) (F7 _) ⟨hz,its,0,hv,F6 _ rfl⟩
theorem Inv.fresh(I:Inv X ag σ H s):H s.heap.objs.size=none:=I.hok.fresh (F7 _)
theorem Inv.lstM(I:Inv X ag σ H s) (hH:H l=some (.lst xs)):xs.length<=F2/\∃(its:List u8) (n:Nat),ay xs its/\xs.length=its.length/\s.heap.get? l=some { cls:=.type "list",data:=.seq its.toArray n }:=by
 obtain⟨z,its,n,r,e⟩:=I.hok l _ hH;exact⟨z,its,n,r,r.length,e⟩
theorem qk{n:Nat}(h:n<=F2):S1 n=false:=by
 unfold S1;exact decide_eq_false (by lia)
end
section
variable{X:Cx}
def sG:V->List V->Hp->VK->Prop:=fun x vs H Q=>∃l xs y,x=.ref l/\vs=[y]/\H l=some (.lst xs)/\xs.length<F2/\Q .non (upd H l (.lst (xs++[y])))
theorem uM:MtM X "list.append" sG:=by
 intro ag s σ H x vs v us Q I rx rv h;obtain⟨l,xs,y,rfl,rfl,hH,hz,q⟩:=h;cases rx;obtain⟨u,rfl,ru⟩:=rv.one;obtain⟨z,its,n,r,hl,e⟩:=I.lstM hH;refine X6 F.slot_list_append ⟨_,e,rfl⟩ F.entry_list_append (F.args_list_append_2 _ _) (PySem.list_append l its.toArray n u (by rw[F3];lia)) ⟨e,?_⟩;refine⟨.non,_,I.lset (its':=its++[u]) hH e (by simp) (r.append (.cons ru .nil)) ?_,rfl,q⟩;rw[L6,List.length_singleton]
 lia
def sT:V->List V->Hp->VK->Prop:=fun x vs H Q=>∃l b xs zs,x=.ref l/\vs=[.ref b]/\H l=some (.lst xs)/\H b=some (.lst zs)/\xs.length+zs.length<=F2/\Q .non (upd H l (.lst (xs++zs)))
theorem uL:MtM X "list.extend" sT:=by
 intro ag s σ H x vs v us Q I rx rv h;obtain⟨l,b,xs,zs,rfl,rfl,hH,hB,hz,q⟩:=h;cases rx;obtain⟨u,rfl,ru⟩:=rv.one;cases ru;obtain⟨z,its,n,r,hl,e⟩:=I.lstM hH;obtain⟨z2,its2,n2,r2,hl2,e2⟩:=I.lstM hB;have hsz:its.toArray.size+its2.toArray.size<=F2:=by rw[F3,F3];lia
 have hlong:¬ (!its.toArray.isEmpty&&S1 (its.toArray.size+its2.toArray.size))=true:=by
  rw[qk hsz,Bool.and_false];exact L3
 refine X6 F.slot_list_extend ⟨_,e,rfl⟩ F.entry_list_extend (F.args_list_extend_2 _ _)
  (AutoSeq1.list_extend_list_list_0 l its.toArray n b its2.toArray n2 hlong (by rw[F3];lia) (by lia)) ⟨e,e2,?_⟩
 refine⟨.non,_,I.lset (its':=its++its2) hH e (by simp) (r.append r2) ?_,rfl,q⟩;rw[L6]
 lia
def C4:V->List V->Hp->VK->Prop:=fun x vs H Q=>∃l xs y,x=.ref l/\vs=[]/\H l=some (.lst xs)/\xs[xs.length-1]?=some y/\Q y (upd H l (.lst xs.dropLast))
theorem Bg:MtM X "list.pop" C4:=by
 intro ag s σ H x vs v us Q I rx rv h;obtain⟨l,xs,y,rfl,rfl,hH,hy,q⟩:=h;cases rx;have hus:=rv.zero;subst hus;obtain⟨z,its,n,r,hl,e⟩:=I.lstM hH;obtain⟨u,hu,ru⟩:=r.get hy;have hy':its.toArray[its.toArray.size-1]?=some u:=by
  show its.toArray[its.length-1]?=some u;rw[<-Array.getElem?_toList,<-hl];exact hu
 refine X6 F.slot_list_pop ⟨_,e,rfl⟩ F.entry_list_pop (F.args_list_pop_1 _) (MeetsSeq.list_pop_last l its.toArray n u hy' (by rw[F3];lia)) ⟨e,?_⟩;refine⟨y,_,I.lset (its':=its.dropLast) hH e ?_ r.dropLast ?_,ru,q⟩
 ·show its.toArray.eraseIdxIfInBounds (its.toArray.size-1)=its.dropLast.toArray;rw[F3,List.eraseIdxIfInBounds_toArray,qJ]
 ·rw[List.length_dropLast]
  lia
def EJ:R2:=fun x y H Q=>∃l b xs zs,x=.ref l/\y=.ref b/\H l=some (.lst xs)/\H b=some (.lst zs)/\xs.length+zs.length<=F2/\∀p,H p=none->Q (.ref p) (upd H p (.lst (xs++zs)))
theorem wq:OpR X (O9 .Add) EJ:=by
 intro ag s σ H x y v u Q I rx ry h;obtain⟨l,b,xs,zs,rfl,rfl,hH,hB,hz,q⟩:=h;cases rx;cases ry;obtain⟨z,its,n,r,hl,e⟩:=I.lstM hH;obtain⟨z2,its2,n2,r2,hl2,e2⟩:=I.lstM hB;refine PySem.P.add_list e e2 ?_ (by rw[F3,F3];lia);have ea:its.toArray++its2.toArray=(its++its2).toArray:=by simp
 rw[ea];exact⟨.ref _,_,I.lnew (t':=s.toks) (r.append r2) (by rw[L6];lia),rfl,q _ I.fresh⟩
def EH:R2:=fun x y H Q=>∃l k xs,x=.ref l/\y=.int k/\H l=some (.lst xs)/\-(2 ^ 63)<=k/\k<2 ^ 63/\xs.length*k.toNat<=F2 /\
 ∀p,H p=none->Q (.ref p) (upd H p (.lst (J0 k.toNat xs).flatten))
theorem nL{α:Type}(xs:List α) (k:Nat):(J0 k xs).flatten.length=k*xs.length:=by
 induction k with
 |zero=>simp
 |succ k ih=>rw[P1,S0,L6,ih,Nat.succ_mul,Nat.add_comm]
theorem Cd:OpR X (O9 .Mult) EH:=by
 intro ag s σ H x y v u Q I rx ry h;obtain⟨l,k,xs,rfl,rfl,hH,h1,h2,hz,q⟩:=h;cases rx;obtain⟨t,rfl⟩:=ry;obtain⟨z,its,n,r,hl,e⟩:=I.lstM hH;have bP:its.toArray.size*k.toNat<=F2:=by rw[F3,<-hl];exact hz
 have hcap:¬ its.toArray.size*k.toNat > (2 ^ 63-1) / 8:=by
  have:(F2:Nat)<=(2 ^ 63-1) / 8:=by decide
  lia
 have hfit:¬ (!Builtin.List.listFitsIndex k)=true:=by
  rw[fitsIndex_both h1 h2];exact L3
 have hlong:¬ S1 (its.toArray.size*k.toNat)=true:=by
  rw[qk bP];exact L3
 have hnew:ad3 (fun x1 x2=>x1++x2) #[] (J0 (if its.toArray.isEmpty=true then 0 else k.toNat) its.toArray)=(J0 k.toNat its).flatten.toArray:=by
  have f0:∀m:Nat,ad3 (fun x1 x2=>x1++x2) #[] (J0 m its.toArray)=(J0 m its).flatten.toArray:=fun m=>by
   have:=i9 its m [];rw[List.nil_append]at this;exact this
  rw[f0];cases its with
  |nil=>simp
  |cons a r'=>rw[if_neg (by simp)]
 refine wpAny_binaryOp_repeat_ref (T:="list") (U:="int") (by decide) ⟨_,e,rfl⟩ (fun s'=>ab8 s' k t) noFill_list_mul F.fills_int_mul Z4 repeat_list F.slot_int_index.lookup
  (X6 Z4 (ab8 s k t) F.entry_int_rmul (F.args_int_rmul_2 _ _) (int___rmul___int_list k t l its.toArray n)
   ⟨e,rfl,⟨_,e,rfl⟩,X6 F.slot_list_mul ⟨_,e,rfl⟩ F.entry_list_mul (F.args_list_mul_2 _ _) (AutoListH.list___mul___list_int_3 l its.toArray n k t hfit hcap hlong) ⟨e,?_⟩⟩)
 rw[hnew];exact⟨.ref _,_,I.lnew (t':=s.toks) (r.rep k.toNat) (by rw[nL,Nat.mul_comm];exact hz),rfl,q _ I.fresh⟩
end
section
variable{prog:L4}{w:P7}{A:N5}{E:u8->F0->Prop}{s:F0}
theorem rY{a c n:Nat}(hac:a<=c) (hc:c<=n):R4 (some (a:Int)) (some (c:Int)) none n=((a:Int),(c:Int),1):=by
 simp only[R4,Option.getD_none];have h1:¬ ((a:Int)<0):=by lia
 have h2:¬ ((c:Int)<0):=by lia
 simp only[h1,h2,if_false,show(1:Int) > 0 by decide,if_true];congr 1
 ·lia
 ·congr 1;lia
end
end L2
namespace Att
open PySem PySem.W PySem.Calls PyProof.Rows
theorem jO{P:Params}{h:K5}:∀(ns:List Int) (vs:List u8),WellAll P h vs (ns.map WData.int)->IntsAre vs ns:=by
 intro ns
 induction ns with
 |nil =>
  intro vs w;rw[List.map_nil]at w;cases w;exact .nil
 |cons n ns ih =>
  intro vs w;rw[N9]at w;cases w with
  |cons a b =>
   cases a;exact .cons _ _ (ih _ b)
theorem uf{l:OpenLaw}{n:Nat}(hn:l.most=some n) {P:Params}{h:K5}{args:List WData}{vals:List u8}
  (hpre:l.row.toRowW.claim.pre args=true) (hwl:WellAll P h vals args) :
  ∃a vs ns,vals=[Q0 a]/\args=[WData.list (ns.map WData.int)]/\h.get? a=some { cls:=.type "list",data:=.seq vs.toArray }/\IntsAre vs ns/\ns.length<=n:=by
 have hsh:WShape.hasAll [] args [.list .int]=true:=(pre_splitW hpre).1;have hc:l.pre.holds [] { args:=args }=true:=(pre_splitW hpre).2;obtain⟨d,r,rfl,h1,h2⟩:=hasAllW_cons hsh;obtain rfl:=hasAllW_nil h2;obtain⟨xs,rfl,h3⟩:=hasW_list h1;obtain⟨ns,rfl⟩:=items_int h3;have bP:ns.length<=n:=by
  unfold OpenLaw.pre at hc;have h4:(WTm.not (.lt (.lit (.int (n:Int))) (.len (.arg 0)))).holds [] { args:=[.list (ns.map .int)] }=true:=by
   have h4:=(holds_andW hc).1;rw[hn]at h4;exact h4
  have h5:=condW_of h4 (w_not (w_lt w_lit (w_len_list (w_arg rfl))));rw[Z1]at h5;refine Nat.le_of_not_lt fun q=>?_;have q':(n:Int)<((ns.length:Nat):Int):=by lia
  first
   |(rw[decide_eq_true q']at h5;exact absurd h5 (by decide))
   |(simp at h5;lia)
 cases hwl with
 |cons w1 w2 =>
  cases w2;cases w1 with
  |list ho hall=>exact⟨_,_,ns,rfl,rfl,ho,jO ns _ hall,bP⟩
theorem tZ(l:OpenLaw) (args:List WData):l.row.toRowW.claim.post args (.bool true) args=true :=
 postW_of (r:=l.row.toRowW) (X:=(true==true))
  (show WShape.has [] (.bool true) .bool=true by first|rfl|decide|simp[WShape.has,WShape.arms,WShape.armsAll])
  (show(WTm.eq .res (.lit (.bool true))).value [] { args:=args,res:=some (.bool true),after:=args }=some (.bool (true==true))from w_eq_bool (w_res rfl) w_lit) rfl
section
variable{prog:L4}{w:P7}{A:N5}{E:u8->F0->Prop}{s:F0}{K:Frag}
def noObjs(h:K5):K5:={ h with objs:=#[] }
theorem noObjs_get(h:K5) (b:F9):(noObjs h).get? b=none:=by
 cases e:(noObjs h).get? b with
 |none=>rfl
 |some o=>exact absurd (F5 e) (Nat.not_lt_zero _)
theorem fr_all{h:K5}{L:F9}{m:Str->Option u8}(n:h.Ns L m):Fr (noObjs h) L h m :=
 ⟨n,fun b o e=>(by rw[noObjs_get]at e;cases e),R5 _⟩
end
end Att
namespace L2
open PySem PySem.Spec PyProof.Rows
theorem mT:∀{vs:List u8}{ns:List Int},IntsAre vs ns->ay (ns.map V.int) vs
 |_,_,.nil=>.nil
 |_,_,.cons n t h=>.cons ⟨t,rfl⟩ (mT h)
end L2
/- THE LAST THEOREM (shape; LID,My.* are yours):
   My.Adr: a structure of the addresses that your layer names (classes,functions);My.Txt K t: a structure (Prop) of the equations over K;
   My.txt_mk:{K} {implicit addresses ..} (e1:nsIn K ac2 "law"=some (some (.ref f))) (e2:K.lookup f=some ⟨oc,od,.func (fnOf "law" "law" params body scope dV kV doc pm an cdv ct),sl⟩) (e3:codeIn K cdv "law"=true) ..:∃t,My.Txt K t
set_option maxRecDepth 100000 in
set_option maxHeartbeats 0 in
theorem PySem.Challenge.cw_LID_holds : PySem.Challenge.rw_LID.Holds := by
 w_on;o_law;k_head;(case hw=>w_witness2)
 k_fill
 refine L2.walk_of (l:=PySem.Challenge.rw_LID) (n:=63) (k:=40) (x:="script") (CX:=fun w=>..) (sp:=fun _=>My.sp_law) rfl (by decide) rfl ⟨rfl,by decide,by decide⟩ (fun w h Y=>PySem.W.kIn_of Y) ?F ?S ?C
 case F =>
  intro w mg fa h KX G hmg;have T:∃t,My.Txt (L2.KOf KX) t:=by
   dsimp only[L2.KOf]                          -- K must stand as «<heap const> w.params» for k_is
   refine' My.txt_mk ?e1 ?e2 ?e3 ..
   (case e1=>PySem.W.k_is)                    -- in the order: a name->its address->its object->its parts
   (case e2=>PySem.W.k_is)
   ..
  obtain⟨t,T⟩:=T;have e0:=hmg.symm.trans (PySem.W.mg_of KX G T.law);cases e0                                       -- fa is the law's own address;exact⟨_,fun s u=>.of_eq rfl,fun base kb nb=>My.law_fn T kb nb⟩     -- if «.of_eq rfl» comes too early: refine' ⟨_,?b,fun base kb nb=>My.law_fn T kb nb⟩;exact fun s u=>.of_eq rfl
 case S=>exact fun w H a ns hl hO hS=>..
 case C=>exact ..
(the tactic k_is has no namespace: write k_is) -/
namespace L2
open PySem PySem.Spec PyProof.Rows
def fB(s:ab2):Arguments:=match s with
 |.FunctionDef _ a _ _ _ _ _ _ _ _=>a
 |_=>{ posonlyargs:=[],args:=[],vararg:=none,kwonlyargs:=[],kw_defaults:=[],kwarg:=none,defaults:=[] }
def cK(s:ab2):List ab2:=match s with
 |.FunctionDef _ _ b _ _ _ _ _ _ _=>b
 |_=>[]
def am(s:ab2):R0:=match s with
 |.FunctionDef _ _ _ _ _ _ sc _ _ _=>sc
 |_=>{ kind:=.function,names:=[],isGenerator:=false,isCoroutine:=false }
abbrev CX0:CXT:=fun _ _ _ _ _ _=>False
abbrev E0:XK:=fun _ _ _=>False
theorem D6{X:Cx}:qY CX0 X E0:=fun _ _ _ _ _ _ _ h=>h.elim
structure Fun(K:o0) (x qual:Str) (st:ab2) (f:F9) (fd:V4):Prop where
 ex:∃(oc:u8) (od:Option F9) (kV doc pm:u8) (an:Option F9) (cdv ct:u8) (osl:Array (Option u8)),
  fd=X0 x qual (fB st) (cK st) (am st) .none kV doc pm an cdv ct/\K.lookup f=some ⟨oc,od,.func fd,osl⟩/\PySem.W.codeIn K cdv qual=true
 kp:W5 K (.ref f)=true
section
variable{P:L4}{w:P7}{K:o0}{mg:Str->Option u8}{base:K5}{f:F9}{fd:V4}
theorem Fun.ok{x qual:Str}{st:ab2}{f:F9}{fd:V4}{N ps:List Str}{k:Nat}{sp:Sp}(F:Fun K x qual st f fd) (S:az N ps (am st)) (len:∀vs H Q E,sp vs H Q E->vs.length=ps.length)
  (hbody:∀ (cdv:u8) (A:N5) (outer:List Env) (s:F0) (H:Hp) (vs:List V) (Q:VK) (E:XK),cw k (A.deeper (ad0 qual (am st) s.heap.objs.size f cdv)) → sp vs H Q E →
   ∃t,PSs (n4 CX0 P w K mg base N qual (am st) f cdv A outer s H E).nox (cK st) t/\t { nx:=fun _ H'=>Q .non H',rt:=Q } (fG N vs) H):bg P w K mg base CX0 (k+1) f fd ps sp:=by
 obtain⟨oc,od,kV,doc,pm,an,cdv,ct,osl,rfl,lk,hcd⟩:=F.ex;refine zV lk hcd S len fun A outer s H vs Q E hr hsp=>?_;obtain⟨t,h,q⟩:=hbody cdv A outer s H vs Q E hr hsp;exact⟨t,h.nox,q⟩
theorem Fun.binds{x qual:Str}{st:ab2}{f:F9}{fd:V4}{ps:List Str}(F:Fun K x qual st f fd)
  (h:∀(kV doc pm:u8) (an:Option F9) (cdv ct:u8) (us:List u8),us.length=ps.length->bindArgs (X0 x qual (fB st) (cK st) (am st) .none kV doc pm an cdv ct) ⟨us,[]⟩=V9 (ps.zip us)):dO K fd ps []:=by
 obtain⟨oc,od,kV,doc,pm,an,cdv,ct,osl,rfl,lk,hcd⟩:=F.ex;exact .all (h kV doc pm an cdv ct)
theorem vO{x qual:Str}{st:ab2}{f:F9}{oc:u8}{od an:Option F9}{osl:Array (Option u8)}{kV doc pm cdv ct:u8}(l:K.lookup f=some ⟨oc,od,.func (X0 x qual (fB st) (cK st) (am st) .none kV doc pm an cdv ct),osl⟩)
  (c:PySem.W.codeIn K cdv qual=true) (k:W5 K (.ref f)=true):Fun K x qual st f (X0 x qual (fB st) (cK st) (am st) .none kV doc pm an cdv ct):=⟨⟨oc,od,kV,doc,pm,an,cdv,ct,osl,rfl,l,c⟩,k⟩
end
theorem uh{n:Nat}(h:n<=1000):n<F2:=Nat.lt_of_le_of_lt h (by decide)
theorem eJ{c A B:Prop} [Decidable c] (h1:c->A) (h2:¬ c->B):if c then A else B:=by
 by_cases h:c
 ·rw[if_pos h];exact h1 h
 ·rw[if_neg h];exact h2 h
section
variable{κ:Type} [DecidableEq κ]
noncomputable def gK(kvs:List (κ×V)) (k:κ):Option V:=(kvs.find? fun kv=>decide (kv.1=k)).map (·.2)
noncomputable def eY(kvs:List (κ×V)) (k:κ) (v:V):List (κ×V) :=
 if(kvs.any fun kv=>decide (kv.1=k))=true then kvs.map (fun kv=>if kv.1=k then(kv.1,v)else kv)else kvs++[(k,v)]
def Fb(kvs:List (κ×V)) (k:κ):List (κ×V):=kvs.filter fun kv=>decide (kv.1≠k)
theorem iI{p:κ×V}{r:List (κ×V)}{k:κ}(e:p.1=k):gK (p::r) k=some p.2:=by simp[gK,Q4,e]
theorem ix{p:κ×V}{r:List (κ×V)}{k:κ}(e:¬ p.1=k):gK (p::r) k=gK r k:=by simp[gK,Q4,e]
theorem pq(k:κ):∀kvs:List (κ×V),(kvs.any fun kv=>decide (kv.1=k))=(gK kvs k).isSome
 |[]=>rfl
 |p::r=>by
  rw[P2]
  by_cases e:p.1=k
  ·simp only[iI e,decide_eq_true e,Bool.true_or,Option.isSome_some]
  ·rw[ix e,decide_eq_false e,Bool.false_or];exact pq k r
theorem fY(kvs:List (κ×V)) (k:κ) (v:V):(eY kvs k v).length<=kvs.length+1:=by
 unfold eY
 split
 ·rw[Z1];lia
 ·rw[L6,T4,X9];lia
theorem j0.isSome_eq{o:Option V}{u:Option u8}(r:j0 o u):o.isSome=u.isSome:=by
 cases o with
 |none=>cases u with
  |none=>rfl
  |some _=>exact(show False from r).elim
 |some _=>cases u with
  |none=>exact(show False from r).elim
  |some _=>rfl
theorem j0.getD{o:Option V}{u:Option u8}{d:V}{d':u8}(r:j0 o u) (rd:aE d d'):aE (o.getD d) (u.getD d'):=by
 cases o with
 |none=>cases u with
  |none=>exact rd
  |some _=>exact(show False from r).elim
 |some _=>cases u with
  |none=>exact(show False from r).elim
  |some _=>exact r
theorem KV.val{kvs:List (κ×V)}{vs:List (κ×u8)}(r:KV kvs vs) (k:κ):j0 (gK kvs k) (ad4 vs k):=by
 unfold KV at r
 induction r with
 |nil=>exact ab9
 |@cons p q ps qs h t ih =>
  obtain⟨h1,h2⟩:=h
  by_cases e:p.1=k
  ·have e':q.1=k:=h1.symm.trans e;have b:ad4 (q::qs) k=some q.2:=by simp[ad4,Q4,e']
   rw[iI e,b];exact h2
  ·have e':¬ q.1=k:=fun z=>e (h1.trans z);have b:ad4 (q::qs) k=ad4 qs k:=by simp[ad4,Q4,e']
   rw[ix e,b];exact ih
theorem KV.any{kvs:List (κ×V)}{vs:List (κ×u8)}(r:KV kvs vs) (k:κ):(kvs.any fun kv=>decide (kv.1=k))=vs.any fun kv=>decide (kv.1=k):=by
 unfold KV at r
 induction r with
 |nil=>rfl
 |cons h t ih=>rw[P2,P2,ih,h.1]
theorem KV.repl{kvs:List (κ×V)}{vs:List (κ×u8)}(r:KV kvs vs) (k:κ) {y:V}{u:u8}(ry:aE y u) :
  KV (kvs.map fun kv=>if kv.1=k then(kv.1,y)else kv) (vs.map fun kv=>if kv.1=k then(kv.1,u)else kv):=by
 unfold KV at r ⊢
 induction r with
 |nil=>exact .nil
 |@cons p q ps qs h t ih =>
  rw[N9,N9];refine .cons ?_ ih;obtain⟨h1,h2⟩:=h
  by_cases e:p.1=k
  ·rw[if_pos e,if_pos (h1.symm.trans e)];exact⟨h1,ry⟩
  ·rw[if_neg e,if_neg (fun z=>e (h1.trans z))];exact⟨h1,h2⟩
theorem KV.put{kvs:List (κ×V)}{vs:List (κ×u8)}(r:KV kvs vs) (k:κ) {y:V}{u:u8}(ry:aE y u):KV (eY kvs k y) (stored vs k u):=by
 unfold eY stored;rw[r.any k]
 by_cases e:(vs.any fun kv=>decide (kv.1=k))=true
 ·rw[if_pos e,if_pos e];exact r.repl k ry
 ·rw[if_neg e,if_neg e];exact P8.snoc r ⟨rfl,ry⟩
theorem KV.length{kvs:List (κ×V)}{vs:List (κ×u8)}(r:KV kvs vs):kvs.length=vs.length:=X3 r
end
theorem tw{P:L4}{w:P7}{k:Key}{u:u8}(r:aE (kV k) u):(bv P w).is k u=true:=by
 cases k with
 |inl i=>obtain⟨t,e⟩:=(show ∃t,u=u8.int i t from r);subst e;exact pT P w i t
 |inr x=>obtain⟨t,e⟩:=(show ∃t,u=u8.str x t from r);subst e;exact pJ P w x t
theorem nE{P:L4}{w:P7}:∀{ks:List Key}{us:List u8},ay (ks.map kV) us->ItemsAre (bv P w) ks us
 |[],_,r=>by rw[List.map_nil]at r;cases r;exact .nil
 |k::ks,_,r=>by
  rw[N9]at r;cases r with
  |cons h t=>exact .cons (tw h) (nE t)
abbrev KT(H:Hp):List (List Key×V)->List (List Key×F9×u8)->Prop:=P8 fun p q=>p.1=q.1/\H q.2.1=some (.tup (p.1.map kV))/\aE p.2 q.2.2
theorem KT.val{H:Hp}{kvs:List (List Key×V)}{xs:List (List Key×F9×u8)}(r:KT H kvs xs) (k:List Key):j0 (gK kvs k) ((atKey xs k).map (·.2)):=by
 induction r with
 |nil=>exact ab9
 |@cons p q ps qs h t ih =>
  obtain⟨h1,_,h2⟩:=h
  by_cases e:p.1=k
  ·have e':q.1=k:=h1.symm.trans e;have b:atKey (q::qs) k=some q.2:=by simp[atKey,Q4,e']
   rw[iI e,b];exact h2
  ·have e':¬ q.1=k:=fun z=>e (h1.trans z);have b:atKey (q::qs) k=atKey qs k:=by simp[atKey,Q4,e']
   rw[ix e,b];exact ih
theorem KT.repl{H:Hp}{kvs:List (List Key×V)}{xs:List (List Key×F9×u8)}(r:KT H kvs xs) (k:List Key) {y:V}{u:u8}(ry:aE y u) :
  KT H (kvs.map fun kv=>if kv.1=k then(kv.1,y)else kv) (xs.map (putAt k u)):=by
 induction r with
 |nil=>exact .nil
 |@cons p q ps qs h t ih =>
  rw[N9,N9];refine .cons ?_ ih;obtain⟨h1,h2,h3⟩:=h;unfold putAt
  by_cases e:p.1=k
  ·rw[if_pos e,if_pos (h1.symm.trans e)];exact⟨h1,h2,ry⟩
  ·rw[if_neg e,if_neg (fun z=>e (h1.trans z))];exact⟨h1,h2,h3⟩
theorem KT.put{H:Hp}{kvs:List (List Key×V)}{xs:List (List Key×F9×u8)}(r:KT H kvs xs) (k:List Key) {b:F9}{y:V}{u:u8}(hb:H b=some (.tup (k.map kV))) (ry:aE y u) :
  KT H (eY kvs k y) (storedH xs k b u):=by
 have e:(kvs.any fun kv=>decide (kv.1=k))=(atKey xs k).isSome:=by
  rw[pq,(r.val k).isSome_eq,Option.isSome_map]
 unfold eY storedH;rw[e]
 by_cases q:(atKey xs k).isSome=true
 ·rw[if_pos q,if_pos q];exact r.repl k ry
 ·rw[if_neg q,if_neg q];exact P8.snoc r ⟨rfl,hb,ry⟩
theorem KT.keeps{H H':Hp}{kvs:List (List Key×V)}{xs:List (List Key×F9×u8)}(r:KT H kvs xs) (ht:∀b ys,H b=some (.tup ys)->H' b=some (.tup ys)):KT H' kvs xs :=
 P8.mapP r fun _ _ z=>⟨z.1,ht _ _ z.2.1,z.2.2⟩
section
variable{P:L4}{w:P7}{H:Hp}{h:K5}{a:F9}
theorem zS{u:HO}(ok:HOk P w H h) (e:Rd H a u):bB P w H h a u:=e.ok ok
theorem pj{kvs:List (Key×V)}(ok:HOk P w H h) (e:Rd H a (.dK kvs)):kvs.length<=F2/\(a==U3)=false/\∃vs,KV kvs vs/\h.DictOf (bv P w) a vs :=
 show bB P w H h a (.dK kvs)from zS ok e
theorem Dg{kvs:List (Key×V)}(ok:HOk P w H h) (e:H a=some (.dK kvs)):kvs.length<=F2/\(a==U3)=false/\∃vs,KV kvs vs/\h.DictOf (bv P w) a vs:=pj ok (.inl e)
theorem kL{ks:List Key}(ok:HOk P w H h) (e:H a=some (.tup (ks.map kV))):(ab0 (bv P w)).is h ks a:=by
 obtain⟨_,its,r,o,h1,h2,⟨n,h3⟩,_⟩:=(show bB P w H h a (.tup (ks.map kV))from ok a _ e);exact⟨o,its.toArray,n,h1,h2,h3,by simpa using nE r⟩
theorem qi{kvs:List (List Key×V)}(ok:HOk P w H h) (e:Rd H a (.dT kvs)):kvs.length<=F2/\(a==U3)=false /\
  ∃xs,KT H kvs xs/\h.DictOfH (ab0 (bv P w)) a xs:=by
 obtain⟨z,y,xs,r,o,es,ep,h1,h2,h3,h4,h5⟩:=(show bB P w H h a (.dT kvs)from zS ok e);refine⟨z,y,xs,r,o,es,ep,h1,h2,h3,h4,fun x hx=>?_,h5⟩;have all:∀{l:List (List Key×V)} {m:List (List Key×F9×u8)},KT H l m->∀x∈m,(ab0 (bv P w)).is h x.1 x.2.1:=by
  intro l m q
  induction q with
  |nil=>intro x hx;exact nomatch hx
  |@cons p q ps qs hq t ih =>
   intro x hx;rcases N7.mp hx with e|hx
   ·subst e;exact kL ok (by rw[<-hq.1];exact hq.2.1)
   ·exact ih x hx
 exact all r x hx
theorem Ae{kvs:List (List Key×V)}(ok:HOk P w H h) (e:H a=some (.dT kvs)):kvs.length<=F2/\(a==U3)=false /\
  ∃xs,KT H kvs xs/\h.DictOfH (ab0 (bv P w)) a xs:=qi ok (.inl e)
end
def lD(H:Hp) (a:F9) (y:V) (r:Option V):Prop :=
 (∃kvs k,Rd H a (.dK kvs)/\y=kV k/\r=gK kvs k)∨∃kvs k b,Rd H a (.dT kvs)/\y=.ref b/\H b=some (.tup (k.map kV))/\r=gK kvs k
def qE(H:Hp) (a:F9) (y v:V) (H':Hp):Prop :=
 (∃kvs k,H a=some (.dK kvs)/\y=kV k/\kvs.length<F2/\H'=upd H a (.dK (eY kvs k v))) ∨
 ∃kvs k b,H a=some (.dT kvs)/\y=.ref b/\H b=some (.tup (k.map kV))/\kvs.length<F2/\H'=upd H a (.dT (eY kvs k v))
theorem lD.k{H:Hp}{a:F9}{kvs:List (Key×V)}{k:Key}(e:H a=some (.dK kvs)):lD H a (kV k) (gK kvs k):=.inl ⟨kvs,k,.inl e,rfl,rfl⟩
theorem lD.t{H:Hp}{a b:F9}{kvs:List (List Key×V)}{k:List Key}(e:H a=some (.dT kvs)) (eb:H b=some (.tup (k.map kV))):lD H a (.ref b) (gK kvs k):=.inr ⟨kvs,k,b,.inl e,rfl,eb,rfl⟩
theorem qE.k{H:Hp}{a:F9}{kvs:List (Key×V)}{k:Key}{v:V}(e:H a=some (.dK kvs)) (hl:kvs.length<F2):qE H a (kV k) v (upd H a (.dK (eY kvs k v))):=.inl ⟨kvs,k,e,rfl,hl,rfl⟩
theorem qE.t{H:Hp}{a b:F9}{kvs:List (List Key×V)}{k:List Key}{v:V}(e:H a=some (.dT kvs)) (eb:H b=some (.tup (k.map kV))) (hl:kvs.length<F2) :
  qE H a (.ref b) v (upd H a (.dT (eY kvs k v))):=.inr ⟨kvs,k,b,e,rfl,eb,hl,rfl⟩
section
variable{X:Cx}{ag:List (F9×Obj)}{σ:St}{H:Hp}{s:F0}{a:F9}{y v:V}{u r:u8}{o:Option V}{A:N5}{E:u8->F0->Prop}
theorem Inv.big(I:Inv X ag σ H s):U3<s.heap.objs.size:=by
 have h:ac2<s.heap.objs.size:=(I.mod.glob.keeps I.bk).lt;exact Nat.lt_trans (by decide) h
theorem rq{Q:u8->F0->Prop}(hu:A.units+1<aa9) (I:Inv X ag σ H s) (g:lD H a y (some v)) (ry:aE y u) (h:∀w' s',Inv X ag σ H s'->aE v w'->Q w' s') :
  J3 (K6 X.prog X.w) A (Z3 (.ref a) u) Q E s:=by
 rcases g with⟨kvs,k,e,ey,l⟩|⟨kvs,k,b,e,ey,eb,l⟩
 ·subst ey;obtain⟨z,hd,vs,rel,dd⟩:=pj I.hok e;obtain⟨w',hw,rw'⟩:=j0.some_of (v:=v) (o:=ad4 vs k) (by rw[l];exact rel.val k);exact wpAny_getItem_of (tw ry) dd.mapOf hw (h w' _ (I.tok _) rw')
 ·subst ey;cases(show u=Q0 b from ry);obtain⟨z,hd,xs,rel,dd⟩:=qi I.hok e;obtain⟨w',hw,rw'⟩:=j0.some_of (v:=v) (o:=(atKey xs k).map (·.2)) (by rw[l];exact rel.val k);obtain⟨p,hp,hp2⟩:=Option.map_eq_some_iff.mp hw;refine wpAny_getItem_heap (tupleKind_room_in1 hu) (kL I.hok eb) dd hp ?_;rw[hp2];exact h w' _ (I.tok _) rw'
theorem kR{h':K5}{t':Nat}{ob:HO}(I:Inv X ag σ H s) (mu:Mut (H a)) (hs:O0 a s.heap h') (he:∃q,h'.get? a=some q) (new:bB X.prog X.w (upd H a ob) h' a ob) :
  Inv X ag σ (upd H a ob) { s with heap:=h',toks:=t' } :=
 I.write (x:=a) (e:=a) mu (.inl rfl) (fun b q hb z=>(hs.2 b hb).trans z) he new
theorem BI{P:L4}{w:P7}{H':Hp}{h':K5}{kvs:List (Key×V)}{vs:List (Key×u8)}(z:kvs.length<=F2) (hd:(a==U3)=false) (rel:KV kvs vs) (dd:h'.DictOf (bv P w) a vs) :
  bB P w H' h' a (.dK kvs):=⟨z,hd,vs,rel,dd⟩
theorem rj{H':Hp}{Q:Unit->F0->Prop}(hu:A.units+1<aa9) (I:Inv X ag σ H s) (g:qE H a y v H') (ry:aE y u) (rv:aE v r) (h:∀s',Inv X ag σ H' s'->Q () s') :
  J3 (K6 X.prog X.w) A (setItem (.ref a) u r) Q E s:=by
 rcases g with⟨kvs,k,e,ey,l,eH⟩|⟨kvs,k,b,e,ey,eb,l,eH⟩
 ·subst ey eH;obtain⟨z,hd,vs,rel,dd⟩:=Dg I.hok e;have hz:vs.length<=F2:=by rw[<-rel.length];exact z
  have hl:(eY kvs k v).length<=F2:=by have:=fY kvs k v;lia
  refine wpAny_setItem_pairs (hsz:=hz) (tw ry) dd fun h' dd' hs=>h _ ?_;have he:∃q,h'.get? a=some q:=let⟨q,_,_,hq,_⟩:=dd';⟨q,hq⟩
  exact kR I (by rw[e];exact ab9) hs he (BI hl hd (rel.put k rv) dd')
 ·subst ey eH;cases(show u=Q0 b from ry);obtain⟨z,hd,xs,rel,dd⟩:=Ae I.hok e;have hz:xs.length<=F2:=by rw[<-X3 rel];exact z
  have hl:(eY kvs k v).length<=F2:=by have:=fY kvs k v;lia
  refine wpAny_setItem_heap (hsz:=hz) (tupleKind_room_in1 hu) (kL I.hok eb) dd fun h' dd' hs=>h _ ?_;obtain⟨q,es,ep,hq,h2,h3,h4,_,h5⟩:=dd';refine kR I (by rw[e];exact ab9) hs ⟨q,hq⟩ ⟨hl,hd,_,(rel.put k eb rv).keeps fun c ys ec=>?_,q,es,ep,hq,h2,h3,h4,h5⟩;rw[ax (zQ ec e (fun z=>nomatch z))];exact ec
end
def A7(i:J5):Prop:=∀ov iv,ac5 i false ov iv=operate [ov,iv] (Z3 ov iv)
theorem xU{prog:L4}{w:P7}{A:N5}{E:u8->F0->Prop}{s:F0}{env:Env}{value slice:J5}{pos:Pos}{T id:String}{Q:u8->F0->Prop}
  (hl:typeLookup (.type T) "__getitem__"=V9 (some (.builtin id))) (hs:A7 slice)
  (h:J3 (K6 prog w) A (V1 value env) (fun o s₁=>J3 (K6 prog w) A (V1 slice env) (fun i s₂=>s₂.TypeIs o T/\J3 (K6 prog w) A (Z3 o i) Q E s₂) E s₁) E s) :
  J3 (K6 prog w) A (V1 (.Subscript value slice pos) env) Q E s:=by
 refine ab6 (M0 h (fun o s₁ h₁=>M0 h₁ (fun i s₂ h₂=>?_) fun _ _ x=>x) fun _ _ x=>x);obtain⟨hT,h₂⟩:=h₂;unfold subscriptTail;refine s0 ?_;rw[getitemInPython_of_ne hT.not_modules];refine s0 (Z5 hT hl ?_);have fin:J3 (K6 prog w) A (ac5 slice false o i) (fun r s₃=>J3 (K6 prog w) A (letTemporaryGo value o r >>= fun _=>V9 r) Q E s₃) E s₂:=by
  rw[hs o i];exact wpAny_operating (M0 h₂ (fun r s₃ h₃=>s0 (wpAny_letTemporaryGo (F4 h₃))) fun _ _ x=>x)
 first
  |exact F4 (s0 fin)
  |exact s0 (F4 (s0 fin))
  |exact s0 fin
theorem pf{X:Cx}{ag:List (F9×Obj)}{σ:St}{H:Hp}{s:F0}{a:F9}{y:V}{o:Option V}(I:Inv X ag σ H s) (g:lD H a y o):s.TypeIs (.ref a) "dict":=by
 rcases g with⟨kvs,k,e,_,_⟩|⟨kvs,k,b,e,_,_,_⟩
 ·obtain⟨_,_,vs,_,dd⟩:=pj I.hok e;exact dd.typeIs
 ·obtain⟨_,_,xs,_,dd⟩:=qi I.hok e;exact dd.typeIs
def D2(td ty:TE):TE:=fun σ H Q=>td σ H fun x H1=>ty σ H1 fun y H2=>∃a v,x=.ref a/\lD H2 a y (some v)/\Q v H2
def CL(td ty tv:TE):TS:=fun D σ H=>tv σ H fun v H1=>td σ H1 fun x H2=>ty σ H2 fun y H3=>∃a H4,x=.ref a/\qE H3 a y v H4/\D.nx σ H4
section
variable{X:Cx}{o i e value:J5}{pos pos' tpos:Pos}{td ty tv:TE}
theorem yP(hu:X.A.units+1<aa9) (ho:PE X o td) (hi:PE X i ty) (hs:A7 i):PE X (.Subscript o i pos) (D2 td ty):=by
 intro ag s σ H Q I h;refine xU PySem.F.slot_dict_getitem.lookup hs (thn (ho ag s σ H _ I h) fun u s1 hup=>hup.el fun x H1 I1 rx q1=>thn (hi ag s1 σ H1 _ I1 q1) fun iv s2 ⟨y,H2,I2,ry,a,v,ex,g,q2⟩=>?_);subst ex;obtain rfl:u=Q0 a:=rx;exact⟨pf I2 g,rq hu I2 g ry fun w' s3 I3 rw'=>⟨v,H2,I3,rw',q2⟩⟩
theorem yg(hu:X.A.units+1<aa9) (ho:PE X o td) (hi:PE X i ty) (hv:PE X value tv) (hs:W9 value (some (.Subscript o i pos')) pos.line X.env=V9 false) :
  PS X (.Assign [.Subscript o i pos'] value pos) (CL td ty tv):=by
 intro ag s σ H D I h;refine wpAny_Assign_Subscript (thn (hv ag s σ H _ I h) fun r s1 hup=>hup.el fun v H1 I1 rv q1=>thn (ho ag s1 σ H1 _ I1 q1) fun u s2 hup=>hup.el fun x H2 I2 rx q2=>thn (hi ag s2 σ H2 _ I2 q2) fun iv s3 ⟨y,H3,I3,ry,a,H4,ex,g,q3⟩=>?_) hs;subst ex;obtain rfl:u=Q0 a:=rx;exact rj hu I3 g ry rv fun s4 I4=>⟨σ,H4,I4,q3⟩
end
theorem vn{P:L4}{w:P7}{H:Hp}(h:K5) (hb:U3<h.objs.size):bB P w H (h.push { cls:=.type "dict",data:=.dict #[] }) h.objs.size (.dT []) :=
 ⟨R5 _,beq_eq_false_iff_ne.mpr (X7 (I0 hb)),[],.nil,_,#[],0,F6 _ rfl,⟨rfl,rfl,rfl⟩,rfl,rfl,List.nodup_nil⟩
structure M1(X:Cx) (o:J5) (m:Str) (cb:Pos) (e:J5) (bf:Pos):Prop where
 base:X4 o m X.env (V1 o X.env)=V1 o X.env
 few:((V8 bf (J7 [e] X.env)).all (fun x=>!x.1)&&(backToKw bf (ac6 [] X.env)).all (fun x=>x.1.isSome)
 &&decide (([e]:List J5).length+([]:List ac7).length+(if([]:List ac7).isEmpty then 0 else 1)<30))=true
 line:(cb.endLine==bf.line)=true
 trees:V8 bf (J7 [e] X.env)=[(false,V1 e X.env)]
structure M2(X:Cx) (o:J5) (m:Str) (cb:Pos) (e f:J5) (bf:Pos):Prop where
 base:X4 o m X.env (V1 o X.env)=V1 o X.env
 few:((V8 bf (J7 [e,f] X.env)).all (fun x=>!x.1)&&(backToKw bf (ac6 [] X.env)).all (fun x=>x.1.isSome)
 &&decide (([e,f]:List J5).length+([]:List ac7).length+(if([]:List ac7).isEmpty then 0 else 1)<30))=true
 line:(cb.endLine==bf.line)=true
 trees:V8 bf (J7 [e,f] X.env)=[(false,V1 e X.env),(false,V1 f X.env)]
def IsD(H:Hp) (a:F9):Prop:=(∃kvs,Rd H a (.dK kvs))∨∃kvs,Rd H a (.dT kvs)
theorem xG{X:Cx}{ag:List (F9×Obj)}{σ:St}{H:Hp}{s:F0}{a:F9}(I:Inv X ag σ H s) (d:IsD H a) :
  s.TypeIs (.ref a) "dict"/\(∀b,Q0 a=.ref b->∃ob,s.heap.get? b=some ob/\ob.dict=none)/\(a==U3)=false:=by
 rcases d with⟨kvs,e⟩|⟨kvs,e⟩
 ·obtain⟨_,hd,vs,_,dd⟩:=pj I.hok e;refine⟨dd.typeIs,fun b q=>?_,hd⟩;cases q;obtain⟨ob,_,_,h1,h2,_⟩:=dd;exact⟨ob,h1,h2.2.1⟩
 ·obtain⟨_,hd,xs,_,dd⟩:=qi I.hok e;refine⟨dd.typeIs,fun b q=>?_,hd⟩;cases q;obtain⟨ob,_,_,h1,h2,_⟩:=dd;exact⟨ob,h1,h2.2.1⟩
section
variable{X:Cx}{ag:List (F9×Obj)}{σ:St}{H:Hp}{s:F0}{a:F9}{y d:V}{u r:u8}{o:Option V}{A:N5}{E:u8->F0->Prop}
theorem xZ{Q:u8->F0->Prop}(hu:A.units+1<aa9) (I:Inv X ag σ H s) (g:lD H a y o) (ry:aE y u) (rd:aE d r) (h:∀w' s',Inv X ag σ H s'->aE (o.getD d) w'->Q w' s') :
  J3 (K6 X.prog X.w) A (call (.builtin "dict.get") [.ref a,u,r]) Q E s:=by
 rcases g with⟨kvs,k,e,ey,l⟩|⟨kvs,k,b,e,ey,eb,l⟩
 ·subst ey;obtain⟨z,hd,vs,rel,dd⟩:=pj I.hok e;refine call_meetsIn PySem.F.slot_dict_get dd.typeIs PySem.F.entry_dict_get (PySem.F.args_dict_get_3 _ _ _) (meets_dict_get_default (bv X.prog X.w) a (tw ry) hd r) ⟨_,dd.mapOf,h _ _ (I.tok _) ?_⟩;rw[l];exact(rel.val k).getD rd
 ·subst ey;cases(show u=Q0 b from ry);obtain⟨z,hd,xs,rel,dd⟩:=qi I.hok e;refine call_meetsIn PySem.F.slot_dict_get dd.typeIs PySem.F.entry_dict_get (PySem.F.args_dict_get_3 _ _ _) (meetsH_dict_get_default (ab0 (bv X.prog X.w)) a b hd r) ⟨tupleKind_room_in1 hu,k,xs,kL I.hok eb,dd,h _ _ (I.tok _) ?_⟩;rw[l];exact(rel.val k).getD rd
end
def AS(td ty tx:TE):TE:=fun σ H Q=>td σ H fun x H1=>∃a,x=.ref a/\IsD H1 a/\ty σ H1 fun y H2=>tx σ H2 fun z H3=>∃o,lD H3 a y o/\Q (o.getD z) H3
section
variable{X:Cx}{o e f:J5}{cb bf:Pos}{td ty tx:TE}
theorem vp(hu:X.A.units+1<aa9) (ho:PE X o td) (he:PE X e ty) (hf:PE X f tx) (m:M2 X o "get" cb e f bf):PE X (.Call (.Attribute o "get" cb) [e,f] [] bf) (AS td ty tx):=by
 intro ag s σ H Q I h;refine wpAny_Call_method m.base m.few m.line PySem.F.plainAttrs_dict PySem.F.slot_dict_get PySem.F.type_dict_get (thn (ho ag s σ H _ I h) fun u s1 ⟨x,H1,I1,rx,a,ex,d,q1⟩=>?_);subst ex;obtain rfl:u=Q0 a:=rx;obtain⟨t1,t2,_⟩:=xG I1 d;refine⟨t1,t2,?_⟩;rw[m.trees];refine Calls.callWith_builtin rfl (Calls.evalArgs_plain (Calls.spliced_cons (thn (he ag s1 σ H1 _ I1 q1) fun iv s2 hup=>hup.el fun y H2 I2 ry q2 =>
  Calls.spliced_cons (thn (hf ag s2 σ H2 _ I2 q2) fun fv s3 ⟨z,H3,I3,rz,ov,g,q3⟩=>Calls.spliced_nil ?_))))
 exact xZ hu I3 g ry rz fun w' s4 I4 rw'=>⟨_,H3,I4,rw',q3⟩
end
noncomputable def aB(X:Cx) (scope:R0) (cl:List (Str×F9)) (N:List Str) (C:F9) (s:F0) (H:Hp) (ex:List F9):Cx where
 prog:=X.prog
 w:=X.w
 K:=X.K
 mg:=X.mg
 base:=X.base
 A:=X.A
 N:=N
 s₀:=s
 H₀:=H
 env:=ad7 scope cl C X.env
 outer:=X.stack
 stack:=X.stack
 ex:=ex
 calm:=X.calm
 fn:=fun _=>false
 pn:=[]
 xe:=fun _ _=>False
noncomputable def bF:List Bool->St->St
 |true::ms,v::σ=>v::bF ms σ
 |false::ms,_::σ=>none::bF ms σ
 |[],_::σ=>none::bF [] σ
 |_,[]=>[]
theorem bw:∀(ms:List Bool) (σ:St),(bF ms σ).length=σ.length
 |true::ms,v::σ=>by simp[bF,bw ms σ]
 |false::ms,_::σ=>by simp[bF,bw ms σ]
 |[],_::σ=>by simp[bF,bw [] σ]
 |[],[]=>by simp[bF]
 |true::_,[]=>by simp[bF]
 |false::_,[]=>by simp[bF]
theorem gC:∀{ms:List Bool}{σ:St}{i:Nat}{v:V},(bF ms σ)[i]?=some (some v)->ms[i]?=some true/\σ[i]?=some (some v)
 |true::ms,v::σ,0,x,h=>by simpa[bF]using h
 |true::ms,v::σ,i+1,x,h=>by
  have:=gC (ms:=ms) (σ:=σ) (i:=i) (v:=x) (by simpa[bF]using h);simpa using this
 |false::ms,_::σ,0,x,h=>by simp[bF]at h
 |false::ms,_::σ,i+1,x,h=>by
  have:=gC (ms:=ms) (σ:=σ) (i:=i) (v:=x) (by simpa[bF]using h);simpa using this
 |[],_::σ,0,x,h=>by simp[bF]at h
 |[],_::σ,i+1,x,h=>by
  have:=gC (ms:=[]) (σ:=σ) (i:=i) (v:=x) (by simpa[bF]using h);simpa using this
 |[],[],_,_,h=>by simp[bF]at h
 |true::_,[],_,_,h=>by simp[bF]at h
 |false::_,[],_,_,h=>by simp[bF]at h
def cZ(ms:List Bool) (k:Nat) (σ:St):St:=bF ms σ++J0 k none
theorem nB{ms:List Bool}{k:Nat}{σ:St}{i:Nat}{v:V}(h:(cZ ms k σ)[i]?=some (some v)):i<σ.length/\ms[i]?=some true/\σ[i]?=some (some v):=by
 unfold cZ at h
 by_cases hi:i<(bF ms σ).length
 ·rw[L8 hi]at h;exact⟨by rwa [bw]at hi,gC h⟩
 ·rw[Q6 (by lia),S9]at h
  split at h<;>cases h
structure cQ(X:Cx) (scope:R0) (cl:List (Str×F9)) (ms:List Bool) (aj:List Str):Prop where
 kind:scope.kind=.function
 ncell:∀y∈scope.names,y.2≠.cell
 names:∀y∈scope.names,y.2=.local->scope.names.lookup y.1=some .local
 clos:closureFor scope X.env=V9 cl
 sub:∀x c,cl.lookup x=some c->X.env.cells.lookup x=some c
 has:∀x,scope.names.lookup x=some .free->∃c,cl.lookup x=some c
 fr:∀x,scope.names.lookup x=some .free->X.env.scope.names.lookup x=some .cell∨X.env.scope.names.lookup x=some .free
 mask:∀(i:Nat) (x:Str),ms[i]?=some true->X.N[i]?=some x->scope.names.lookup x=some .free
 mlen:ms.length<=X.N.length
theorem iq{env:Env}:∀{names:List (Str×J9)}{x:Str}{k:J9},
  (names.map fun(n,k)=>if(k==K7&&env.scope.kind==.function&&env.kindOf n==some .cell)then(n,P3)else(n,k)).lookup x=some k->(∀y∈names,y.2≠.cell)->k=.cell∨k=.free->names.lookup x=some .free
 |[],_,_,h,_,_=>by simp at h
 |(n,k0)::r,x,k,h,hc,hk=>by
  have ih:=@iq env r x k;have h:ac8 x ((if(k0==K7&&env.scope.kind==.function&&env.kindOf n==some .cell)=true then(n,P3)else(n,k0))::_)=some k:=h;cases hx:x==n with
  |true =>
   by_cases hq:(k0==K7&&env.scope.kind==.function&&env.kindOf n==some .cell)=true
   ·have:k0=.free:=by
     simp at hq;exact hq.1.1
    subst this;simp[J8,hx]
   ·rw[if_neg hq]at h;simp only[J8,hx]at h;cases h;rcases hk with rfl|rfl
    ·exact absurd rfl (hc (n,.cell) L9)
    ·simp[J8,hx]
  |false =>
   by_cases hq:(k0==K7&&env.scope.kind==.function&&env.kindOf n==some .cell)=true
   ·rw[if_pos hq]at h;simp only[J8,hx]at h ⊢;exact ih h (fun y hy=>hc y (K8 _ hy)) hk
   ·rw[if_neg hq]at h;simp only[J8,hx]at h ⊢;exact ih h (fun y hy=>hc y (K8 _ hy)) hk
theorem fA{env:Env}:∀{names:List (Str×J9)}{x:Str},names.lookup x=some .free ->
  (names.map fun(n,k)=>if(k==K7&&env.scope.kind==.function&&env.kindOf n==some .cell)then(n,P3)else(n,k)).lookup x=some .cell ∨
  (names.map fun(n,k)=>if(k==K7&&env.scope.kind==.function&&env.kindOf n==some .cell)then(n,P3)else(n,k)).lookup x=some .free
 |[],_,h=>by simp at h
 |(n,k0)::r,x,h=>by
  have ih:=@fA env r x;show ac8 x ((if(k0==K7&&env.scope.kind==.function&&env.kindOf n==some .cell)=true then(n,P3)else(n,k0))::_)=_∨ac8 x ((if(k0==K7&&env.scope.kind==.function&&env.kindOf n==some .cell)=true then(n,P3)else(n,k0))::_)=_;cases hx:x==n with
  |true =>
   simp only[J8,hx]at h;cases h
   split
   ·left;simp[J8,hx]
   ·right;simp[J8,hx]
  |false =>
   simp only[J8,hx]at h
   split<;>(simp only[J8,hx];exact ih h)
section
variable{X:Cx}{ag:List (F9×Obj)}{σ:St}{H H2:Hp}{s s2:F0}{scope:R0}{cl:List (Str×F9)}{ms:List Bool}{aj:List Str}
theorem rO(I:Inv X ag σ H s) (S:cQ X scope cl ms aj) {fp:List F9}(hfp:∀b∈fp,cz X ag H b) (hlt:∀b∈fp,b<s.heap.objs.size) {C:F9}(hC:s.heap.objs.size<=C) :
  (aB X scope cl (X.N++aj) C s H fp).Ok where
 mod:=I.ok.mod
 kind:=S.kind
 glob:=I.ok.glob
 blt:=I.ok.blt
 above:=hC
 inj:=fun x y c h1 h2=>I.ok.inj x y c (S.sub x c h1) (S.sub y c h2)
 has:=fun x hx=>S.has x (iq (env:=X.env) (k:=if(aB X scope cl (X.N++aj) C s H fp).env.kindOf x=some .cell then .cell else .free) (by
  rcases hx with hx|hx
  ·rw[if_pos hx];exact hx
  ·rw[if_neg (by rw[hx];decide)];exact hx) S.ncell (by split<;>simp))
 cab:=fun x c h=>by cases h
 hd:=I.ok.hd
 frames:=I.ok.frames
 stk:=.inl rfl
 exf:=fun b hb=>⟨I0 (F8 (hlt b hb) hC),fun x c e=>(hfp b hb).2.2.2.2.1 x c (S.sub x c e)⟩
 bs:=I.bs
 bsz:=L5 I.ok.bsz I.sz
 noex:=fun b o e hb=>by
  rcases(hfp b hb).2.2.2.1 with z|z
  ·exact I.ok.noex b o e z
  ·exact absurd (F8 (F5 e) (L5 I.ok.bsz z)) (O2 _)
 exfs:=fun b hb z=>by
  rcases N7.mp (I.stkSub b z)with e|e
  ·exact(hfp b hb).2.1 e
  ·exact(hfp b hb).2.2.1 e
 funs:=I.stack
 frf:=I.stkFree
theorem sP(I:Inv X ag σ H s) (S:cQ X scope cl ms aj) {fp:List F9}(hfp:∀b∈fp,cz X ag H b) (hlt:∀b∈fp,b<s.heap.objs.size) {C:F9}(hC:s.heap.objs.size<=C)
  (os:s2.os=s.os) (bare:ab1 s2.gens) (keep:∀b o,s.heap.get? b=some o->s2.heap.get? b=some o) {m:Str->Option u8} (hn:s2.heap.Ns C m) :
  Inv (aB X scope cl (X.N++aj) C s H fp) [] (cZ ms aj.length σ) H s2 where
 ok:=rO I S hfp hlt hC
 os:=os
 bare:=bare
 base:=Un.kept keep
 loc:=⟨m,hn,fun i x v h1 h2 h3=>by
  obtain⟨hi,hm,hv⟩:=nB h2;have hiN:i<X.N.length:=by rw[<-I.len];exact hi
  have hx:X.N[i]?=some x:=by
   have h1':(X.N++aj)[i]?=some x:=h1
   rwa [L8 hiN]at h1'
  have hf:=S.mask i x hm hx;obtain⟨m0,hn0,hl⟩:=I.loc;obtain⟨u,r,l⟩:=hl i x v hx hv (by rcases S.fr x hf with z|z<;>simp[Vis,z]);refine⟨u,r,.inr ⟨?_,?_⟩⟩
  ·exact fA (env:=X.env) hf
  ·obtain⟨c,hc⟩:=S.has x hf;have hc':=S.sub x c hc;rcases l with⟨k,_⟩|⟨_,c',e,z⟩
   ·rcases S.fr x hf with z|z<;>(have k':X.env.scope.names.lookup x=some .local:=k;rw[z]at k';cases k')
   ·rw[hc']at e;cases e;obtain⟨o,ho,hd⟩:=z;exact⟨c,hc,o,keep _ _ ho,hd⟩⟩
 cell:=fun x c e=>by
  obtain⟨v,o,ho,hd⟩:=I.cell x c (S.sub x c e);exact⟨v,o,keep _ _ ho,hd⟩
 free:=I.hok.fresh hC
 freeC:=fun x c e=>I.freeC x c (S.sub x c e)
 pin:=fun p hp=>absurd (show p∈([]:List (F9×Obj))from hp) (by simp)
 hok:=I.hok.kept keep
 len:=by
  unfold cZ;rw[L6,bw,List.length_replicate,I.len];show _=(X.N++aj).length;rw[L6]
end
def PIf(X:Cx) (ifs:List J5) (t:TT):Prop :=
 ∀(ag:List (F9×Obj)) (s:F0) (σ:St) (H:Hp) (Q:Bool->Hp->Prop),Inv X ag σ H s->t σ H Q ->
  J3 (K6 X.prog X.w) X.A (forIn ifs true fun c r=>if r=true then do let ok <-isTrue c X.env (V1 c X.env);V9 (O8 ok)else V9 (O8 r)) (TP X ag σ Q) X.xe s
def EV:TT:=fun _ H Q=>Q true H
theorem zM{X:Cx}:PIf X [] EV:=fun _ _ _ H _ I h=>wpAny_tests_nil ⟨H,I,h⟩
theorem xV{X:Cx}{c:J5}{t:TT}(h:PT X c t):PIf X [c] t:=fun ag s σ H Q I q=>wpAny_tests_one (h ag s σ H Q I q)
abbrev dg(its:List u8) (n:Nat):Obj:={ cls:=.type "list",data:=.seq its.toArray n }
theorem thF{α:Type}{t:Sem α}{Q Q':α->F0->Prop}{M:Model}{A:N5}{E:u8->F0->Prop}{s:F0}(hE:E=fun _ _=>False) (h:J3 M A t Q E s) (hQ:∀a s,Q a s->Q' a s):J3 M A t Q' (fun _ _=>False) s:=M0 h hQ fun e s x=>by rw[hE]at x;exact x
abbrev lcE(el:J5) (gs:List X5) (sc:R0) (ps:Pos):J5:=.ListComp el gs sc ps
section
variable{prog:L4}{w:P7}{A:N5}{R:ae0->F0->Prop}{s:F0}{el tg elt i:J5}{fs:List J5}{k:Nat}{p:Pos}{it acc:u8}{env:Env}{gs:List X5}{sc:R0}{ps:Pos}
abbrev AWt:=(F0->Prop)->F0->Prop
def si(prog:L4) (w:P7) (A:N5) (elt:J5) (acc:u8) (env:Env):AWt:=fun Ok s=>J3 (K6 prog w) A (V1 elt env) (fun x s₄=>J3 (K6 prog w) A (call (.builtin "list.append") [acc,x]) (fun _ s₅=>Ok s₅) (fun _ _=>False) s₄) (fun _ _=>False) s
def Ba(ce:J5) (k:Nat) (p:Pos) (tg:J5) (fs:List J5) (bd:u8->u8->Env->Sem Fin):Prop:=∀it acc env,compTurn ce k it acc env=(do
  standAt p
  let r <-ad5 it
  match r with
   |none=>V9 (Fin.done Flow.next)
   |some v=>do
    T9 tg it v
    U6 tg env v
    let ok <-forIn fs true fun c r=>if r=true then do let ok <-PySem.isTrue c env (V1 c env);V9 (O8 ok)else V9 (O8 r)
    if ok=true then bd it acc env else again (aa7 ce k it acc env))
def AG(prog:L4) (w:P7) (A:N5) (ce:J5) (k:Nat) (bd:u8->u8->Env->Sem Fin) (it acc:u8) (env:Env) (AW:AWt):Prop :=
 ∀Ok s (R:ae0->F0->Prop) (E:u8->F0->Prop),AW Ok s->J3 (K6 prog w) A (bd it acc env) (fun fin s'=>match fin with|.done f=>R (.ok f) s'|.again c'=>c'=aa7 ce k it acc env/\Ok s') E s
theorem mv{bd:u8->u8->Env->Sem Fin}{AW:AWt}(hT:Ba (lcE el gs sc ps) k p tg fs bd) (hq:(aa7 (lcE el gs sc ps) k it acc env).quiet=true:=by rfl) (hb:AG prog w A (lcE el gs sc ps) k bd it acc env AW) (I:Nat->F0->Prop)
  (turn:∀ n s,I n s → J3 (K6 prog w) A (ad5 it) (fun r s₁ => match r with
   |none=>R (.ok .next) s₁
   | some v => J3 (K6 prog w) A (T9 tg it v) (fun _ s₁ => J3 (K6 prog w) A (U6 tg env v) (fun _ s₂ =>
     J3 (K6 prog w) A (forIn fs true fun c r=>if r=true then do let ok <-isTrue c env (V1 c env);V9 (O8 ok)else V9 (O8 r)) (fun ok s₃ =>
      if ok=true then AW (fun s₅=>∃m,m<n/\I m s₅) s₃
      else ∃m,m<n/\I m s₃) (fun _ _=>False) s₂) (fun _ _=>False) s₁) (fun _ _=>False) s₁) (fun _ _=>False) s)
  (n:Nat) (h:I n s) :
  Z9 (K6 prog w) A (.compLoop (lcE el gs sc ps) k it acc env) R s:=by
 refine codeAny_loop hq I (fun n s hI=>?_) n h;show J3 _ A ((compTurn (lcE el gs sc ps) k it acc env).onRaise (fun x=>do noteFrame x env;theTreesLotGoes x)) _ _ s;refine wpAny_noted ?_;rw[hT];refine s0 (V3 (s0 (M0 (turn n s hI) (fun r s₁ h₁=>?_) fun _ _ h'=>h'.elim)));cases r with
 |none=>exact F4 h₁
 |some v =>
  refine s0 (M0 h₁ (fun _ s1 h₁=>?_) fun _ _ h'=>h'.elim);refine s0 (M0 h₁ (fun _ s₂ h₂=>s0 (M0 h₂ (fun ok s₃ h₃=>?_) fun _ _ h'=>h'.elim)) fun _ _ h'=>h'.elim);cases ok with
  |false=>exact F4 ⟨rfl,h₃⟩
  |true=>exact hb _ _ _ _ h₃
noncomputable def Ac(ce:J5) (k:Nat) (elt:J5):u8->u8->Env->Sem Fin:=fun it acc env=>bind (bind (V1 elt env) fun x=>bind (call (u8.builtin "list.append") [acc,x]) fun _=>V9 ()) fun(_:Unit)=>again (aa7 ce k it acc env)
theorem yi:AG prog w A (lcE el gs sc ps) k (Ac (lcE el gs sc ps) k elt) it acc env (si prog w A elt acc env):=fun Ok s R E h =>
 s0 (s0 (M0 h (fun x s₄ h₄=>s0 (M0 h₄ (fun _ s₅ h₅=>F4 (F4 ⟨rfl,h₅⟩)) fun _ _ h'=>h'.elim)) fun _ _ h'=>h'.elim))
end
abbrev BK:=List V->St->Hp->(List V->St->Hp->Prop)->Prop
def lR(J:It) (g:TG) (tc:TT) (B:BK) (W:Nat->Nat->List V->St->Hp->Prop) (Z:List V->St->Hp->Prop):Prop :=
 ∀i m ys σ H,W i m ys σ H->ys.length<=F2/\((J.stop i H/\Z ys σ H) ∨
  (J.go i H/\∀x H',J.yld i H x H'->g x σ H' fun σ2 H2=>tc σ2 H2 fun b H3=>if b=true then B ys σ2 H3 (fun ys' σ' H'=>∃m',m'<m/\W (i+1) m' ys' σ' H')else ∃m',m'<m/\W (i+1) m' ys σ2 H3))
def m9(te:TE):BK:=fun ys σ H Z=>te σ H fun y H'=>Z (ys++[y]) σ H'
section
variable{Y:Cx}{D:F9}{el tg elt i1:J5}{fs:List J5}{g:TG}{tc:TT}{te:TE}{wi:TI}{B:BK}{k:Nat}{p:Pos}{gs:List X5}{sc:R0}{ps:Pos}
def zP(Y:Cx) (D:F9) (AW:AWt) (B:BK):Prop:=∀(P:List (F9×Obj)) (its:List u8) (nn:Nat) (ys:List V) (σ:St) (H:Hp) (s:F0) (Z:List V->St->Hp->Prop),Inv Y ([(D,dg its nn)]++P) σ H s->ay ys its->ys.length<=F2->(∀p∈P,p.1≠D)->B ys σ H Z ->
 AW (fun s'=>∃ys' its' n' σ' H',Inv Y ([(D,dg its' n')]++P) σ' H' s'/\ay ys' its'/\Z ys' σ' H') s
structure ly(Y:Cx) (D:F9):Prop where
 pn:Y.pn=[]
 calm:Y.calm=true
 xe:Y.xe=fun _ _=>False
 ex:D∈Y.ex∨Y.s₀.heap.objs.size<=D
 cell:∀x c,Y.env.cells.lookup x=some c->c≠D
theorem AWt.mono_leaf{prog:L4}{w:P7}{A:N5}{acc:u8}{env:Env}{Ok Ok':F0->Prop}{s:F0}(h:si prog w A elt acc env Ok s) (k:∀s,Ok s->Ok' s):si prog w A elt acc env Ok' s :=
 M0 h (fun _ _ h1=>M0 h1 (fun _ _ h2=>k _ h2) fun _ _ x=>x) fun _ _ x=>x
theorem wf(c:ly Y D) (he:PE Y elt te):zP Y D (si Y.prog Y.w Y.A elt (.ref D) Y.env) (m9 te):=by
 intro P its nn ys σ H s Z I rv hz hPD q;refine thF c.xe (he _ s σ H _ I q) fun v s9 hup=>hup.el fun y H9 I9 r9 q9=>?_;have pacc:=I9.pin (D,dg its nn) (H0 _ (List.mem_append_left _ L9));have hzi:its.toArray.size<=F2:=by rw[F3,<-rv.length];exact hz
 refine PySem.wpAny_list_append_plain (hsz:=hzi) ⟨nn,pacc.1⟩ fun h' hl' hs'=>?_;obtain⟨n',hl'⟩:=hl';have I10:Inv Y [] σ H9 { s9 with heap:=h' } :=
  Inv.turned (t':=s9.toks) (it:=D) (I9.pins_of fun p hp=>absurd hp (by simp)) (fun b o hb e=>(hs'.2 b hb).trans e) pacc.2.1 pacc.2.2.1 c.ex c.cell (fun p hp=>absurd (show p∈([]:List (F9×Obj))from by rw[c.pn]at hp;exact hp) (by simp))
 refine⟨ys++[y],its++[v],n',σ,H9,I10.pins_of fun p hp=>?_,rv.append (.cons r9 .nil),q9⟩;rcases V0.mp hp with z|z
 ·have e:p=(D,dg (its++[v]) n'):=N3.mp z;subst e;refine⟨?_,pacc.2.1,pacc.2.2.1,pacc.2.2.2.1,fun v z=>by cases z⟩;rw[hl'];simp[dg]
 ·obtain⟨b1,b2,b3,b4,b5⟩:=I9.pin p (H0 _ (H0 _ z));exact⟨(hs'.2 _ (hPD p z)).trans b1,b2,b3,b4,b5⟩
structure Lv(Y:Cx) (D:F9) (ce:J5) (k:Nat) (p:Pos) (tg:J5) (fs:List J5) (B:BK):Prop where
 ex:∃bd AW,Ba ce k p tg fs bd/\(∀it,AG Y.prog Y.w Y.A ce k bd it (.ref D) Y.env AW)/\zP Y D AW B/\∀{Ok Ok':F0->Prop} {s:F0},AW Ok s->(∀s,Ok s->Ok' s)->AW Ok' s
theorem sY(c:ly Y D) (he:PE Y elt te) (hT:Ba (lcE el gs sc ps) k p tg fs (Ac (lcE el gs sc ps) k elt)):Lv Y D (lcE el gs sc ps) k p tg fs (m9 te):=⟨_,_,hT,fun _=>yi,wf c he,AWt.mono_leaf⟩
theorem nr(c:ly Y D) (L:Lv Y D (lcE el gs sc ps) k p tg fs B) {it2:F9}
  (hg:PG Y tg g) (hif:PIf Y fs tc) {P:List (F9×Obj)} (hPD:∀p∈P,p.1≠D)
  {its0:List u8} {nn0:Nat} {ys0:List V} {σ:St} {H:Hp} {s:F0} (I:Inv Y ([(D,dg its0 nn0)]++P) σ H s) (rv0:ay ys0 its0) {fp2:List F9} {tn2:Nat->K5->Prop} {J2:It} (T:iP Y.prog Y.w Y.K tg J2 fp2 it2 tn2) (st:tn2 0 s.heap)
  (f:∀b∈fp2,cz Y ([(D,dg its0 nn0)]++P) H b) {W2:Nat->Nat->List V->St->Hp->Prop} {Z2:List V->St->Hp->Prop} {m0:Nat} (w0:W2 0 m0 ys0 σ H) (turn:lR J2 g tc B W2 Z2) {R:ae0->F0->Prop}
  (hR:∀(s':F0) (ys:List V) (its:List u8) (n:Nat) (σ':St) (H':Hp),Inv Y ([(D,dg its n)]++P) σ' H' s'->ay ys its->ys.length<=F2->Z2 ys σ' H'->R (.ok .next) s') :
  Z9 (K6 Y.prog Y.w) Y.A (.compLoop (lcE el gs sc ps) k (.ref it2) (.ref D) Y.env) R s:=by
 obtain⟨bd,AW,hT,hb,hB,hAW⟩:=L.ex;have fpc:∀{H:Hp} {n:Nat} {its:List u8},(∀b∈fp2,H b=none)->∀b∈fp2,cz Y ([(D,dg its n)]++P) H b:=fun hn b hb=>by
  obtain⟨_,a1,a2,a3,a4,a5⟩:=f b hb;refine⟨hn b hb,a1,a2,a3,a4,fun p hp=>?_⟩;rw[c.pn,List.nil_append]at hp;rcases V0.mp hp with z|z
  ·obtain rfl:=N3.mp z;exact a5 (D,dg its0 nn0) (by rw[c.pn];simp)
  ·exact a5 p (by rw[c.pn];simp[z])
 refine mv hT rfl (hb _) (fun n s'=>∃i ys its nn σ' H',Inv Y ([(D,dg its nn)]++P) σ' H' s'/\ay ys its/\tn2 i s'.heap/\(∀b∈fp2,H' b=none)/\W2 i n ys σ' H') ?_ m0
  ⟨0,ys0,its0,nn0,σ,H,I,rv0,st,fun b hb=>(f b hb).1,w0⟩
 rintro n s' ⟨i,ys,its,nn,σ',H',I4,rv,st4,fr4,w4⟩;obtain⟨hz,h⟩:=turn i n ys σ' H' w4;rcases h with⟨stop,hZ⟩|⟨go,step⟩
 ·refine thn (T.done Y rfl rfl rfl c.calm i _ s' _ H' (fun _ _=>False) I4 (fpc fr4) st4 stop) fun r s4 ⟨hr,I5⟩=>?_;subst hr;exact hR s4 ys its nn σ' H' I5 rv hz hZ
 ·refine thn (T.item Y rfl rfl rfl c.calm i _ s' _ H' (fun _ _=>False) I4 (fpc fr4) st4 go) fun r s5 ⟨u,hr,h5⟩=>?_;subst hr;refine thn h5 fun _ s6 ⟨x,H6,I6,r6,y6,st6,fr6⟩=>?_;have I6':=I6.pinned (fpc fr6) (T.obj _ _ st6);refine thF c.xe (hg _ s6 _ H6 x u _ I6' r6 (step x H6 y6)) fun _ s7 ⟨σ7,H7,I7,q7⟩=>?_;refine thF c.xe (hif _ s7 σ7 H7 _ I7 q7) fun ok s8 hup=>hup.el fun H8 I8 q8=>?_;have keepfp:∀{its:List u8} {nn:Nat} {σ9:St} {H9:Hp} {s9:F0},Inv Y (([(D,dg its nn)]++P)++gV fp2 s6.heap) σ9 H9 s9->tn2 (i+1) s9.heap/\∀b∈fp2,H9 b=none:=fun {its nn σ9 H9 s9} I9 =>
   ⟨T.keep _ _ _ st6 fun b hb o e=>(I9.pin (b,o) (H0 _ (H0 _ (cS hb e)))).1,fun b hb=>by
    obtain⟨o,e,d⟩:=T.obj _ _ st6 b hb;exact(I9.pin (b,o) (H0 _ (H0 _ (cS hb e)))).2.1⟩
  cases ok with
  |false =>
   obtain⟨m',hm,w8⟩:=q8;obtain⟨a8,b8⟩:=keepfp I8;exact⟨m',hm,i+1,ys,its,nn,σ7,H8,I8.unpinned,rv,a8,b8,w8⟩
  |true =>
   have hPD2:∀p∈P++gV fp2 s6.heap,p.1≠D:=fun p hp=>by
    rcases V0.mp hp with z|z
    ·exact hPD p z
    ·have hb:=(m7 z).1;intro e;exact(f _ hb).2.2.2.2.2 (D,dg its0 nn0) (by rw[c.pn];simp) e.symm
   refine hAW (hB (P++gV fp2 s6.heap) its nn ys σ7 H8 s8 _ (by rw[<-List.append_assoc];exact I8) rv hz hPD2 q8) ?_;rintro s9 ⟨ys',its',n',σ',H',I',rv',m',hm,w'⟩;rw[<-List.append_assoc]at I';obtain⟨a9,b9⟩:=keepfp I';exact⟨m',hm,i+1,ys',its',n',σ',H',I'.unpinned,rv',a9,b9,w'⟩
end
section
variable{X:Cx}{ag:List (F9×Obj)}{σ σ':St}{H2 H':Hp}{s2 s':F0}{scope:R0}{cl:List (Str×F9)}{ms:List Bool}{aj:List Str}{elt t0 i0:J5}{f0:List J5}{gs:List X5}{g0:TG}{tc0:TT}{B:BK}{p pos:Pos}
theorem mX(S:cQ X scope cl ms aj) (bA:X.calm=true)
  (hg0:∀C s H ex,PG (aB X scope cl (X.N++aj) C s H ex) t0 g0) (hif0:∀C s H ex,PIf (aB X scope cl (X.N++aj) C s H ex) f0 tc0)
  (hL:∀C s H ex D,ly (aB X scope cl (X.N++aj) C s H ex) D->Lv (aB X scope cl (X.N++aj) C s H ex) D (lcE elt (⟨t0,i0,f0,0⟩::gs) scope pos) 0 p t0 f0 B)
  (I2:Inv X ag σ H2 s2) {it:F9} {fp:List F9} {tn:Nat->K5->Prop} {J:It} (T:iP X.prog X.w X.K t0 J fp it tn) (st2:tn 0 s2.heap) (fz:∀b∈fp,cz X ag H2 b)
  {W:Nat->Nat->List V->St->Hp->Prop} {Z:List V->St->Hp->Prop} {m0:Nat} (w0:W 0 m0 [] (cZ ms aj.length σ) H2) (turn:lR J g0 tc0 B W Z)
  {RR:u8->F9->ae0->F0->Prop} {E:u8->F0->Prop}
  (hRR:∀ (s':F0) (ys:List V) (its:List u8) (n:Nat) (σ':St) (H':Hp),Inv (aB X scope cl (X.N ++ aj) (s2.heap.objs.size + 1) s2 H2 fp) [(s2.heap.objs.size,dg its n)] σ' H' s' → ay ys its → ys.length ≤ F2 → Z ys σ' H' →
   RR (.ref s2.heap.objs.size) (s2.heap.objs.size+1) (.ok .next) s') :
  J3 (K6 X.prog X.w) X.A (newList []) (fun acc s₃=>J3 (K6 X.prog X.w) X.A (W6 scope X.env.globals cl [] X.env.qual none .none (some X.env)) (fun cenv s₄ =>
   Z9 (K6 X.prog X.w) X.A (.compStart (lcE elt (⟨t0,i0,f0,0⟩::gs) scope pos) 0 (.ref it) acc { cenv with scope:=Z6 scope X.env }) (RR acc cenv.locals) s₄) E s₃) E s2:=by
 refine K0 (wpAny_newFunctionEnv S.ncell (by intro y hy;simp at hy) (fun h₁ hns₁ hsb₁=>?_) S.kind);dsimp only at hns₁ hsb₁ ⊢;have hsz:(s2.heap.push { cls:=.type "list",dict:=none,data:=.seq ([]:List u8).toArray }).objs.size=s2.heap.objs.size+1:=by rw[R6]
 rw[hsz]at hns₁ hsb₁ ⊢;have hlt:∀b∈fp,b<s2.heap.objs.size:=fun b hb=>by
  obtain⟨o,e,_⟩:=T.obj _ _ st2 b hb;exact F5 e
 have old:∀b o,s2.heap.get? b=some o->h₁.get? b=some o:=fun b o e=>hsb₁.extBut b o (I0 (K4 (F5 e))) (F1 _ (F1 _ e));have hacc:h₁.get? s2.heap.objs.size=some (dg [] 0):=hsb₁.extBut _ _ (I0 (P6 _)) (F1 _ (F6 _ rfl));have hDn:H2 s2.heap.objs.size=none:=I2.hok.fresh (F7 _);have hDfs:∀b,s2.heap.objs.size<=b->b∉(aB X scope cl (X.N++aj) (s2.heap.objs.size+1) s2 H2 fp).fs:=fun b hb z=>by
  rcases N7.mp (I2.stkSub b z)with e|e
  ·subst e;exact absurd (F8 I2.lt hb) (O2 _)
  ·exact I2.nofs hb e
 have loop:∀s₃:F0,s₃={ s2 with heap:=h₁,toks:=s2.toks+([]:List (Str×u8)).length } ->
   Z9 (K6 X.prog X.w) X.A (.compLoop (lcE elt (⟨t0,i0,f0,0⟩::gs) scope pos) 0 (.ref it) (.ref s2.heap.objs.size) (ad7 scope cl (s2.heap.objs.size+1) X.env)) (RR (.ref s2.heap.objs.size) (s2.heap.objs.size+1)) s₃:=by
  rintro s₃ rfl;have I3:Inv (aB X scope cl (X.N++aj) (s2.heap.objs.size+1) s2 H2 fp) [] (cZ ms aj.length σ) H2 { s2 with heap:=h₁,toks:=s2.toks+([]:List (Str×u8)).length } :=
   sP I2 S fz hlt (aa8 _) rfl I2.bare old hns₁
  have c:ly (aB X scope cl (X.N++aj) (s2.heap.objs.size+1) s2 H2 fp) s2.heap.objs.size:=⟨rfl,bA,rfl,.inr (F7 _),fun x c e=>by
   obtain⟨v,o,ho,_⟩:=I2.cell x c (S.sub x c e);exact I0 (F5 ho)⟩
  refine nr c (hL _ _ _ _ _ c) (hg0 _ _ _ _) (hif0 _ _ _ _) (P:=[]) (fun p hp=>nomatch hp) (its0:=[]) (nn0:=0) (I3.pins_of fun p hp=>?_) .nil T (T.keep _ _ _ st2 fun b _ o e=>old b o e) (fun b hb=>?_) w0 turn ?_
  ·have e:p=(s2.heap.objs.size,dg [] 0):=N3.mp hp;subst e;exact⟨hacc,hDn,I0 (P6 _),hDfs _ (F7 _),fun v z=>by cases z⟩
  ·exact⟨(fz b hb).1,I0 (K4 (hlt b hb)),(rO I2 S fz hlt (aa8 _)).exfs b hb,.inl hb,fun x c e=>(fz b hb).2.2.2.2.1 x c (S.sub x c e),fun p hp=>by
    have:p=(s2.heap.objs.size,_):=N3.mp (show p∈[(s2.heap.objs.size,_)]from hp);subst this;exact T8 (hlt b hb)⟩
  ·exact fun s' ys its n σ' H' I' rv hz hZ=>hRR s' ys its n σ' H' I' rv hz hZ
 exact codeAny_compStart_list (loop _ rfl) (T.self _ 0 _ _ _ (T.keep _ _ _ st2 fun b _ o e=>old b o e) (loop _ rfl))
end
section
variable{X:Cx}{ag:List (F9×Obj)}{σ σ':St}{H2 H':Hp}{s2 s':F0}{scope:R0}{cl:List (Str×F9)}{ms:List Bool}{aj:List Str}{tg iter elt:J5}{ifs:List J5}{g:TG}{tc:TT}{te:TE}{pos p:Pos}{B:BK}{gs:List X5}
theorem mY(I2:Inv X ag σ H2 s2) {fp:List F9}(f2:∀b∈fp,cz X ag H2 b) {its:List u8}{n:Nat}{ys:List V}
  (I':Inv (aB X scope cl (X.N++aj) (s2.heap.objs.size+1) s2 H2 fp) [(s2.heap.objs.size,dg its n)] σ' H' s') (rv:ay ys its) (hz:ys.length<=F2) {h':K5} (hs:O0 (s2.heap.objs.size+1) s'.heap h') :
  Inv X ag σ (upd H' s2.heap.objs.size (.lst ys)) { s' with heap:=h' }/\H' s2.heap.objs.size=none:=by
 have pacc:=I'.pin (s2.heap.objs.size,dg its n) (H0 _ L9);have hC:H' (s2.heap.objs.size+1)=none:=I'.free;have hD:H' s2.heap.objs.size=none:=pacc.2.1;have up:∀b o,b≠s2.heap.objs.size+1->s'.heap.get? b=some o->h'.get? b=some o:=fun b o hb e=>(hs.2 b hb).trans e;have nD:∀b u,H' b=some u->b≠s2.heap.objs.size:=fun b u e z=>by rw[z,hD]at e;cases e
 have nC:∀b u,H' b=some u->b≠s2.heap.objs.size+1:=fun b u e z=>by rw[z,hC]at e;cases e
 have hacc:h'.get? s2.heap.objs.size=some (dg its n):=up _ _ (I0 (P6 _)) pacc.1;have hok:HOk X.prog X.w (upd H' s2.heap.objs.size (.lst ys)) h':=fun b u e=>by
  by_cases hb:b=s2.heap.objs.size
  ·subst hb;rw[aF]at e;cases e;exact⟨hz,its,n,rv,hacc⟩
  ·rw[ax hb]at e;refine(I'.hok b u e).stay (fun c v hc q=>up c v ?_ q) (fun c q=>by rw[ax (nD c _ q)];exact q) fun c xs q=>by rw[ax (nD c _ q)];exact q
   rcases hc with rfl|hc
   ·exact nC _ _ e
   ·exact nC _ _ hc
 have un:Un (frs X.stack) fp H2 (upd H' s2.heap.objs.size (.lst ys)) s2.heap h':=by
  have U:=I'.base;have ltD:∀b o,s2.heap.get? b=some o->b≠s2.heap.objs.size:=fun b o e=>I0 (F5 e);have ltC:∀b o,s2.heap.get? b=some o->b≠s2.heap.objs.size+1:=fun b o e=>I0 (K4 (F5 e));refine⟨fun b o e nb hb hx=>up b o (ltC b o e) (U.keep b o e nb hb hx),fun b o e nb hb hx=>?_,fun b o e nb hx=>by rw[ax (ltD b o e)];exact U.free b o e nb hx,fun b o e hx=>?_,
   fun b xs e=>by have q:=U.tups b xs e;rw[ax (nD b _ q)];exact q,fun b o u e=>by have q:=U.frzs b o u e;rw[ax (nD b _ q)];exact q,fun b ps e=>?_⟩
  ·obtain⟨sl,q⟩:=U.slot b o e nb hb hx;exact⟨sl,up b _ (ltC b o e) q⟩
  ·obtain⟨o',q⟩:=U.there b o e hx;exact⟨o',up b _ (ltC b o e) q⟩
  ·obtain⟨more,q⟩:=U.tbls b ps e;exact⟨more,by rw[ax (nD b _ q)];exact q⟩
 exact⟨I2.call' (s':={ s' with heap:=h' }) (ch:=fp) I'.os un hok I'.bare fun b hb=>⟨(f2 b hb).2.2.2.1,(f2 b hb).2.1,(f2 b hb).2.2.2.2.1,(f2 b hb).2.2.2.2.2⟩,hD⟩
def Av(ms:List Bool) (k:Nat) (wi:TI) (g:TG) (tc:TT) (B:BK):TE:=fun σ H Q=>wi σ H fun J H1=>∃(W:Nat->Nat->List V->St->Hp->Prop) (Z:List V->St->Hp->Prop),(∃m,W 0 m [] (cZ ms k σ) H1)/\lR J g tc B W Z /\
 ∀ys σ' H p,Z ys σ' H->H p=none->Q (.ref p) (upd H p (.lst ys))
abbrev tLc(ms:List Bool) (k:Nat) (wi:TI) (g:TG) (tc:TT) (te:TE):TE:=Av ms k wi g tc (m9 te)
abbrev LvC(X:Cx) (scope:R0) (cl:List (Str×F9)) (aj:List Str) (ce:J5) (p:Pos) (tg:J5) (ifs:List J5) (B:BK):Prop:=∀C s H ex D,ly (aB X scope cl (X.N++aj) C s H ex) D->Lv (aB X scope cl (X.N++aj) C s H ex) D ce 0 p tg ifs B
theorem Bc(S:cQ X scope cl ms aj) (bA:X.calm=true) {wi:TI}(hi:PI X tg iter wi)
  (hg:∀C s H ex,PG (aB X scope cl (X.N++aj) C s H ex) tg g) (hif:∀C s H ex,PIf (aB X scope cl (X.N++aj) C s H ex) ifs tc) (hL:LvC X scope cl aj (lcE elt (⟨tg,iter,ifs,0⟩::gs) scope pos) p tg ifs B)
  (hs:∀x,O3 iter X.env x=V9 x:=by intro _;rfl):PE X (lcE elt (⟨tg,iter,ifs,0⟩::gs) scope pos) (Av ms aj.length wi g tc B):=by
 intro ag s σ H Q I h;rw[eval_ListComp];refine S6 (use:=none) rfl hs S.clos S.kind S.names (thn (hi ag s σ H _ I h) fun v s1 h1=>thn h1 fun itv s2 h2=>?_);obtain⟨it,fp,tn,J,H2,e,I2,T,st2,f2,W,Z,⟨m0,w0⟩,turn,q⟩:=h2;subst e;refine mX S bA hg hif hL I2 T st2 f2 w0 turn (RR:=fun acc C=>compPost (K6 X.prog X.w) X.A X.xe none (EP X ag σ Q) acc C) ?_;intro s' ys its n σ' H' I' rv hz hZ;obtain⟨m,hm,_⟩:=I'.loc;refine⟨m,hm,fun h' hs'=>?_⟩;obtain⟨I3,hD⟩:=mY I2 f2 I' rv hz hs';exact⟨.ref s2.heap.objs.size,_,I3,rfl,q ys _ H' _ hZ hD⟩
theorem mZ{i:Nat}{x:Str}{spos pos':Pos}(hN:X.N.Nodup) (hix:X.N[i]?=some x) (hx:X.env.scope.names.lookup x=some .local)
  (hsw:W9 (lcE elt (⟨tg,iter,ifs,0⟩::gs) scope pos) (some (.Name x pos')) spos.line X.env=V9 true)
  (S:cQ X scope cl ms aj) (bA:X.calm=true) {wi:TI} (hi:PI X tg iter wi)
  (hg:∀C s H ex,PG (aB X scope cl (X.N++aj) C s H ex) tg g) (hif:∀C s H ex,PIf (aB X scope cl (X.N++aj) C s H ex) ifs tc) (hL:LvC X scope cl aj (lcE elt (⟨tg,iter,ifs,0⟩::gs) scope pos) p tg ifs B)
  (hs:∀x,O3 iter X.env x=V9 x:=by intro _;rfl):PS X (.Assign [.Name x pos'] (lcE elt (⟨tg,iter,ifs,0⟩::gs) scope pos) spos) (zF (Av ms aj.length wi g tc B) (lS i)):=by
 intro ag s σ H D I h;rw[exec_Assign_Name_used _ _ _ _ hsw];refine s0 (V3 (s0 ?_));show J3 _ _ (do let _ <-comprehension (lcE elt (⟨tg,iter,ifs,0⟩::gs) scope pos) scope X.env _ (newList []) false (V1 iter X.env) (some (U6 (.Name x pos') X.env))) _ _ s;refine s0 (M0 (S6 (use:=some (U6 (.Name x pos') X.env)) (Q:=fun _ s'=>SP X ag D .next s') rfl hs S.clos S.kind S.names
  (thn (hi ag s σ H _ I h) fun v s1 h1=>thn h1 fun itv s2 h2=>?_)) (fun _ s' hq=>F4 (F4 hq)) fun _ _ e=>e)
 obtain⟨it,fp,tn,J,H2,e,I2,T,st2,f2,W,Z,⟨m0,w0⟩,turn,q⟩:=h2;subst e;refine mX S bA hg hif hL I2 T st2 f2 w0 turn (RR:=fun acc C=>compPost (K6 X.prog X.w) X.A X.xe (some (U6 (.Name x pos') X.env)) (fun _ s'=>SP X ag D .next s') acc C) ?_;intro s' ys its n σ' H' I' rv hz hZ;obtain⟨m,hm,_⟩:=I'.loc;obtain⟨I3,hD⟩:=mY I2 f2 I' rv hz (O0.refl (s2.heap.objs.size+1) s'.heap);have hq:=q ys _ H' _ hZ hD;show J3 _ _ (U6 (.Name x pos') X.env (.ref s2.heap.objs.size)) _ _ _;refine wpAny_assign_Name (i8 I3 hN hix (.inl hx) (v:=.ref s2.heap.objs.size) rfl (fun s4 I4 hsame=>?_) (.inr hx));obtain⟨a,hsb,ha⟩:=hsame;have hLC:s2.heap.objs.size+1≠X.env.locals:=T8 (K4 I2.lt);have haC:s2.heap.objs.size+1≠a:=by
  rcases ha with rfl|ha
  ·exact hLC
  ·intro z;obtain⟨v,o,ho,_⟩:=I2.cell x a ha;exact absurd (K4 (F5 ho)) (by rw[<-z];exact O2 _)
 have hCn:upd H' s2.heap.objs.size (.lst ys) (s2.heap.objs.size+1)=none:=by rw[ax (T8 (P6 _))];exact I'.free
 refine⟨m,hm.sameBut hsb haC,fun h' hs'=>?_⟩;refine⟨_,_,?_,hq⟩;have hL:∀b o,b≠s2.heap.objs.size+1->s4.heap.get? b=some o->h'.get? b=some o:=fun b o hb e=>(hs'.2 b hb).trans e;have I5:=Inv.turned (t':=s4.toks) (h':=h') (it:=s2.heap.objs.size+1) I4 (fun b o hb e=>hL b o hb e) hCn hLC (.inr (Nat.le_succ_of_le I2.sz)) (fun y c e=>by
  obtain⟨v,o,ho,_⟩:=I2.cell y c e;exact I0 (K4 (F5 ho))) (fun p hp=>by
  exact I0 (K4 (F5 (I2.pin p hp).1)))
 exact I5
theorem rK(he:∀C s H ex,PE (aB X scope cl (X.N++aj) C s H ex) elt te):LvC X scope cl aj (lcE elt [⟨tg,iter,ifs,0⟩] scope pos) iter.pos tg ifs (m9 te):=fun _ _ _ _ _ c=>sY c (he _ _ _ _) fun _ _ _=>rfl
end
inductive Bx where
 |dk (ks:List Key)|dt (ks:List (List Key))|ins (C:F9) (fs:List Str)|key
 deriving Inhabited
inductive D where
 |non|bl (b:Bool)|int (i:Int)|str (x:Str)|tup (ds:List D)|lst (ds:List D)|scr (ds:List D)|emp|ref (a:F9)|box (t:Bx) (ds:List D)
 deriving Inhabited
inductive HD where
 |lst (ds:List D)|dK (kvs:List (Key×D))|dT (kvs:List (List Key×D))|dKr (o:Obj) (ks:List (Key×V)) (kvs:List (Key×D))|ins (C:F9) (fs:List (Str×D))
 |ext (φ:List V->K5->Prop) (ds:List D)
 deriving Inhabited
abbrev DH:=F9->Option HD
def av(M:DH) (a:F9) (o:HD):DH:=fun b=>if b=a then some o else M b
def iC(M:DH) (a:F9):DH:=fun b=>if b=a then none else M b
abbrev noM:DH:=fun _=>none
theorem ai{M:DH}{a:F9}{o:HD}:av M a o a=some o:=if_pos rfl
theorem aq{M:DH}{a b:F9}{o:HD}(h:b≠a):av M a o b=M b:=if_neg h
theorem aD{M:DH}{a:F9}{o u:HD}:av (av M a o) a u=av M a u:=by
 funext b;unfold av;split<;>rfl
theorem gB{M:DH}{a:F9}:iC M a a=none:=if_pos rfl
theorem ie{M:DH}{a b:F9}(h:b≠a):iC M a b=M b:=if_neg h
theorem kS{M:DH}{a:F9}{o:HD}(h:M a=none):iC (av M a o) a=M:=by
 funext b;unfold iC av;split
 ·rename_i e;rw[e,h]
 ·rfl
def mQ(K:o0) (M:DH) (H:Hp) (a:F9) (vs:List V):Prop:=(Rd H a (.tup vs)/\M a=none)∨SqT K (fun _=>none) a vs
def sm(M:DH) (H:Hp) (a:F9) (vs:List V):Prop:=H a=some (.lst vs)/\M a=none
def mO(K:o0) (M:DH) (H:Hp) (a:F9) (vs:List V):Prop:=((∃o,H a=some (.frz o (.lst vs)))/\M a=none)∨SqL K (fun _=>none) a vs
def CI(M:DH) (H:Hp) (a:F9):Prop:=H a=some (.dK [])/\M a=none
def sV(M:DH) (H:Hp) (a:F9):Bx->List V->Prop
 |.dk ks,vs=>ks.length=vs.length/\(∃o,H a=some (.frz o (.dK (ks.zip vs))))/\M a=none
 |.dt ks,vs=>ks.length=vs.length/\(∃o,H a=some (.frz o (.dT (ks.zip vs))))/\M a=none
 |.ins C fs,vs=>fs.length=vs.length/\(∃dx,H a=some (.ins C dx (fs.zip vs)))/\M a=none
 |.key,vs=>True/\(∃_u:Unit,H a=some (.tup vs))/\M a=none
mutual
def Rep(K:o0) (M:DH) (H:Hp):D->V->Prop
 |.non,v=>v=.non
 |.bl b,v=>v=.bl b
 |.int i,v=>v=.int i
 |.str x,v=>v=.str x
 |.tup ds,v=>∃a vs,v=.ref a/\mQ K M H a vs/\ar K M H ds vs
 |.lst ds,v=>∃a vs,v=.ref a/\sm M H a vs/\ar K M H ds vs
 |.scr ds,v=>∃a vs,v=.ref a/\mO K M H a vs/\ar K M H ds vs
 |.emp,v=>∃a,v=.ref a/\CI M H a
 |.ref a,v=>v=.ref a
 |.box t ds,v=>∃a vs,v=.ref a/\sV M H a t vs/\ar K M H ds vs
def ar(K:o0) (M:DH) (H:Hp):List D->List V->Prop
 |[],vs=>vs=[]
 |d::ds,vs=>∃v ws,vs=v::ws/\Rep K M H d v/\ar K M H ds ws
end
def Ext(M:DH) (H:Hp) (M':DH) (H':Hp):Prop:=∀a o,H a=some o->M a=none->H' a=some o/\M' a=none
theorem Ext.refl(M:DH) (H:Hp):Ext M H M H:=fun _ _ h n=>⟨h,n⟩
theorem Ext.trans{M M1 M2:DH}{H H1 H2:Hp}(a:Ext M H M1 H1) (b:Ext M1 H1 M2 H2):Ext M H M2 H2:=fun c o h n=>b c o (a c o h n).1 (a c o h n).2
variable{K:o0}{M M' M1 M2:DH}{H H' H1 H2:Hp}
theorem mQ.ext{a:F9}{vs:List V}(h:mQ K M H a vs) (e:Ext M H M' H'):mQ K M' H' a vs:=by
 rcases h with⟨r|⟨o,r⟩,n⟩|h
 ·exact .inl ⟨.inl (e a _ r n).1,(e a _ r n).2⟩
 ·exact .inl ⟨.inr ⟨o,(e a _ r n).1⟩,(e a _ r n).2⟩
 ·exact .inr h
theorem sm.ext{a:F9}{vs:List V}(h:sm M H a vs) (e:Ext M H M' H'):sm M' H' a vs:=e a _ h.1 h.2
theorem mO.ext{a:F9}{vs:List V}(h:mO K M H a vs) (e:Ext M H M' H'):mO K M' H' a vs:=by
 rcases h with⟨⟨o,r⟩,n⟩|h
 ·exact .inl ⟨⟨o,(e a _ r n).1⟩,(e a _ r n).2⟩
 ·exact .inr h
theorem sV.ext{a:F9}{t:Bx}{vs:List V}(h:sV M H a t vs) (e:Ext M H M' H'):sV M' H' a t vs:=by
 cases t<;>(obtain⟨l,⟨o,r⟩,n⟩:=h;exact⟨l,⟨o,(e a _ r n).1⟩,(e a _ r n).2⟩)
mutual
theorem Rep.ext:∀{d:D}{v:V},Rep K M H d v->Ext M H M' H'->Rep K M' H' d v
 |.non,_,h,_=>h
 |.bl _,_,h,_=>h
 |.int _,_,h,_=>h
 |.str _,_,h,_=>h
 |.ref _,_,h,_=>h
 |.emp,_,h,e=>by
  simp only[Rep]at h ⊢;obtain⟨a,rfl,h1,h2⟩:=h;exact⟨a,rfl,e a _ h1 h2⟩
 |.tup ds,_,h,e=>by
  simp only[Rep]at h ⊢;obtain⟨a,vs,rfl,h1,h2⟩:=h;exact⟨a,vs,rfl,h1.ext e,ar.ext h2 e⟩
 |.lst ds,_,h,e=>by
  simp only[Rep]at h ⊢;obtain⟨a,vs,rfl,h1,h2⟩:=h;exact⟨a,vs,rfl,h1.ext e,ar.ext h2 e⟩
 |.scr ds,_,h,e=>by
  simp only[Rep]at h ⊢;obtain⟨a,vs,rfl,h1,h2⟩:=h;exact⟨a,vs,rfl,h1.ext e,ar.ext h2 e⟩
 |.box t ds,_,h,e=>by
  simp only[Rep]at h ⊢;obtain⟨a,vs,rfl,h1,h2⟩:=h;exact⟨a,vs,rfl,h1.ext e,ar.ext h2 e⟩
theorem ar.ext:∀{ds:List D}{vs:List V},ar K M H ds vs->Ext M H M' H'->ar K M' H' ds vs
 |[],_,h,_=>h
 |d::ds,_,h,e=>by
  simp only[ar]at h ⊢;obtain⟨v,ws,rfl,h1,h2⟩:=h;exact⟨v,ws,rfl,Rep.ext h1 e,ar.ext h2 e⟩
end
theorem ar.length:∀{ds:List D}{vs:List V},ar K M H ds vs->ds.length=vs.length
 |[],_,h=>by simp only[ar]at h;subst h;rfl
 |d::ds,_,h=>by
  simp only[ar]at h;obtain⟨v,ws,rfl,h1,h2⟩:=h;simp[ar.length h2]
theorem ar.nil:ar K M H [] []:=by simp[ar]
theorem ar.cons{d:D}{v:V}{ds:List D}{vs:List V}(h:Rep K M H d v) (t:ar K M H ds vs):ar K M H (d::ds) (v::vs):=by
 simp only[ar];exact⟨v,vs,rfl,h,t⟩
theorem ar.append:∀{ds es:List D}{vs ws:List V},ar K M H ds vs->ar K M H es ws->ar K M H (ds++es) (vs++ws)
 |[],_,_,_,h,t=>by simp only[ar]at h;subst h;exact t
 |d::ds,es,_,ws,h,t=>by
  simp only[ar]at h;obtain⟨v,us,rfl,h1,h2⟩:=h;exact ar.cons h1 (ar.append h2 t)
theorem ar.get:∀{ds:List D}{vs:List V}{i:Nat}{d:D},ar K M H ds vs->ds[i]?=some d->∃v,vs[i]?=some v/\Rep K M H d v
 |[],_,_,_,_,e=>by simp at e
 |d::ds,_,0,x,h,e=>by
  simp only[ar]at h;obtain⟨v,us,rfl,h1,h2⟩:=h;simp at e;subst e;exact⟨v,rfl,h1⟩
 |d::ds,_,i+1,x,h,e=>by
  simp only[ar]at h;obtain⟨v,us,rfl,h1,h2⟩:=h;obtain⟨w,a,b⟩:=ar.get (i:=i) (d:=x) h2 (by simpa using e);exact⟨w,by simpa using a,b⟩
theorem ar.take:∀{ds:List D}{vs:List V}(n:Nat),ar K M H ds vs->ar K M H (ds.take n) (vs.take n)
 |ds,vs,0,_=>by simp[ar]
 |[],_,n+1,h=>by simp only[ar]at h;subst h;simp[ar]
 |d::ds,_,n+1,h=>by
  simp only[ar]at h;obtain⟨v,us,rfl,h1,h2⟩:=h;exact ar.cons h1 (ar.take n h2)
theorem ar.drop:∀{ds:List D}{vs:List V}(n:Nat),ar K M H ds vs->ar K M H (ds.drop n) (vs.drop n)
 |ds,vs,0,h=>h
 |[],_,n+1,h=>by simp only[ar]at h;subst h;simp[ar]
 |d::ds,_,n+1,h=>by
  simp only[ar]at h;obtain⟨v,us,rfl,h1,h2⟩:=h;exact ar.drop n h2
theorem ar.set:∀{ds:List D}{vs:List V}{d:D}{v:V}(n:Nat),ar K M H ds vs->Rep K M H d v->ar K M H (ds.set n d) (vs.set n v)
 |[],_,_,_,n,h,r=>by simp only[ar]at h;subst h;simp[ar]
 |d::ds,_,_,_,0,h,r=>by
  simp only[ar]at h;obtain⟨v,us,rfl,h1,h2⟩:=h;exact ar.cons r h2
 |d::ds,_,_,_,n+1,h,r=>by
  simp only[ar]at h;obtain⟨v,us,rfl,h1,h2⟩:=h;exact ar.cons h1 (ar.set n h2 r)
theorem ar.one{d:D}{vs:List V}(h:ar K M H [d] vs):∃v,vs=[v]/\Rep K M H d v:=by
 simp only[ar]at h;obtain⟨v,us,rfl,h1,rfl⟩:=h;exact⟨v,rfl,h1⟩
theorem ar.two{d e:D}{vs:List V}(h:ar K M H [d,e] vs):∃v w,vs=[v,w]/\Rep K M H d v/\Rep K M H e w:=by
 simp only[ar]at h;obtain⟨v,us,rfl,h1,w,ws,rfl,h2,rfl⟩:=h;exact⟨v,w,rfl,h1,h2⟩
def KR(K:o0) (M:DH) (H:Hp) {κ:Type}:List (κ×D)->List (κ×V)->Prop:=P8 fun p q=>p.1=q.1/\Rep K M H p.2 q.2
theorem KR.ext{κ:Type}{kvs:List (κ×D)}{ks:List (κ×V)}(h:KR K M H kvs ks) (e:Ext M H M' H'):KR K M' H' kvs ks:=P8.imp' (fun _ _ r=>⟨r.1,r.2.ext e⟩) h
def lw(K:o0) (M:DH) (H:Hp) (a:F9):HD->Prop
 |.lst ds=>∃vs,H a=some (.lst vs)/\ar K M H ds vs
 |.dK kvs=>∃ks,H a=some (.dK ks)/\KR K M H kvs ks
 |.dT kvs=>∃ks,H a=some (.dT ks)/\KR K M H kvs ks
 |.dKr o ks kvs=>∃_u:Unit,H a=some (.frz o (.dK ks))/\KR K M H kvs ks
 |.ins C fs=>∃gs,(∃dx,H a=some (.ins C dx gs))/\KR K M H fs gs
 |.ext φ ds=>∃vs,H a=some (.ext (φ vs))/\ar K M H ds vs
def HR(K:o0) (M:DH) (H:Hp):Prop:=∀a o,M a=some o->lw K M H a o
theorem lw.some{a:F9}{o:HD}(h:lw K M H a o):∃u,H a=K9 u/\∀xs,u≠.tup xs/\∀ob,u≠.frz ob (.tup xs):=by
 cases o with
 |ins C fs=>obtain⟨gs,⟨dx,r⟩,_⟩:=h;exact⟨_,r,fun xs=>⟨(by intro z;cases z),(by intro ob z;cases z)⟩⟩
 |_=>obtain⟨vs,r,_⟩:=h;exact⟨_,r,fun xs=>⟨(by intro z;cases z),(by intro ob z;cases z)⟩⟩
theorem lw.keep{a:F9}{o:HD}(h:lw K M H a o) (e:Ext M H M' H') (q:H' a=H a):lw K M' H' a o:=by
 cases o with
 |ins C fs=>obtain⟨gs,⟨dx,r⟩,t⟩:=h;exact⟨gs,⟨dx,by rw[q];exact r⟩,t.ext e⟩
 |_=>obtain⟨vs,r,t⟩:=h;exact⟨vs,by rw[q];exact r,t.ext e⟩
theorem HR.fresh(h:HR K M H) {p:F9}(e:H p=none):M p=none:=by
 cases q:M p with
 |none=>rfl
 |some o =>
  obtain⟨u,r,_⟩:=(h p _ q).some;rw[e]at r;cases r
theorem HR.nil:HR K noM H:=fun _ _ h=>nomatch h
theorem Ext.new{p:F9}{o:HO}(hr:HR K M H) (h:H p=none):Ext M H M (upd H p o):=fun a u e n=>by
 have:a≠p:=aX e h;rw[ax this];exact⟨e,n⟩
theorem HR.ext1(h:HR K M H) (e:Ext M H M H') (keep:∀a o,M a=some o->H' a=H a):HR K M H':=fun a o q=>(h a o q).keep e (keep a o q)
theorem HR.new{p:F9}{o:HO}(hr:HR K M H) (h:H p=none):HR K M (upd H p o):=hr.ext1 (Ext.new hr h) fun a u q=>by
 have:a≠p:=fun z=>by rw[z,hr.fresh h]at q;cases q
 rw[ax this]
theorem Ext.own{p:F9}{o:HO}{u:HD}(h:H p=none):Ext M H (av M p u) (upd H p o):=fun a x e n=>by
 have:a≠p:=aX e h;rw[ax this,aq this];exact⟨e,n⟩
theorem HR.put{p:F9}{o:HO}{u:HD}(hr:HR K M H) (e:Ext M H (av M p u) (upd H p o)) (c:lw K (av M p u) (upd H p o) p u):HR K (av M p u) (upd H p o):=fun a w q=>by
 by_cases z:a=p
 ·subst z;rw[ai]at q;cases q;exact c
 ·rw[aq z]at q;exact(hr a w q).keep e (ax z)
theorem HR.own{p:F9}{ds:List D}{vs:List V}(hr:HR K M H) (h:H p=none) (r:ar K M H ds vs):HR K (av M p (.lst ds)) (upd H p (.lst vs)) :=
 hr.put (Ext.own h) ⟨vs,aF,r.ext (Ext.own h)⟩
theorem Ext.write{a:F9}{o:HO}{u w:HD}(h:M a=some w):Ext M H (av M a u) (upd H a o):=fun b x e n=>by
 have:b≠a:=fun z=>by rw[z,h]at n;cases n
 rw[ax this,aq this];exact⟨e,n⟩
theorem HR.write{a:F9}{w:HD}{ds:List D}{vs:List V}(hr:HR K M H) (h:M a=some w) (r:ar K M H ds vs):HR K (av M a (.lst ds)) (upd H a (.lst vs)) :=
 hr.put (Ext.write h) ⟨vs,aF,r.ext (Ext.write h)⟩
def LeM(M1 M:DH):Prop:=∀a o,M1 a=some o->M a=some o
theorem LeM.none(h:LeM M1 M) {a:F9}(n:M a=none):M1 a=none:=by
 cases q:M1 a with
 |none=>rfl
 |some o=>rw[h a o q]at n;cases n
theorem LeM.refl:LeM M M:=fun _ _ h=>h
theorem LeM.no:LeM noM M:=fun _ _ h=>nomatch h
theorem LeM.del{a:F9}:LeM (iC M a) M:=fun b o h=>by
 unfold iC at h;split at h
 ·cases h
 ·exact h
theorem Ext.le(h:LeM M1 M):Ext M H M1 H:=fun a o e n=>⟨e,h.none n⟩
theorem HR.le(hr:HR K M H) (h:LeM M1 M):HR K M1 H:=fun a o q=>(hr a o (h a o q)).keep (Ext.le h) rfl
theorem Rep.froze(hr:HR K M H) (h:LeM M1 M) {a:F9}{ds:List D}(e:M a=some (.lst ds)) (n:M1 a=none):Rep K M1 H (.lst ds) (.ref a):=by
 obtain⟨vs,r,t⟩:=hr a _ e;simp only[Rep];exact⟨a,vs,rfl,⟨r,n⟩,t.ext (Ext.le h)⟩
def gN(M M1 M2:DH):DH:=fun a=>match M2 a with|some o=>some o|none=>if M1 a=none then M a else none
theorem wZ:gN M noM noM=M:=by
 funext a;simp[gN]
theorem Ext.back(h:LeM M1 M) (e:Ext M1 H M2 H2):Ext M H (gN M M1 M2) H2:=fun a o q n=>by
 obtain⟨h1,h2⟩:=e a o q (h.none n);refine⟨h1,?_⟩;unfold gN;rw[h2];simp[h.none n,n]
mutual
def noL:D->Bool
 |.tup ds=>jN ds
 |.lst _=>false
 |.scr _=>false
 |.emp=>false
 |.box _ _=>false
 |_=>true
def jN:List D->Bool
 |[]=>true
 |d::ds=>noL d&&jN ds
end
mutual
theorem Rep.hard:∀{d:D}{v:V},noL d=true->Rep K M H d v->(∀a xs,Rd H a (.tup xs)->M' a=none)->Rep K M' H d v
 |.non,_,_,h,_=>h
 |.bl _,_,_,h,_=>h
 |.int _,_,_,h,_=>h
 |.str _,_,_,h,_=>h
 |.ref _,_,_,h,_=>h
 |.emp,_,n,_,_=>by simp[noL]at n
 |.box _ _,_,n,_,_=>by simp[noL]at n
 |.lst _,_,n,_,_=>by simp[noL]at n
 |.scr _,_,n,_,_=>by simp[noL]at n
 |.tup ds,_,n,h,e=>by
  simp only[Rep]at h ⊢;obtain⟨a,vs,rfl,h1,h2⟩:=h;refine⟨a,vs,rfl,?_,ar.hard (by simpa[noL]using n) h2 e⟩;rcases h1 with⟨r,_⟩|r
  ·exact .inl ⟨r,e a vs r⟩
  ·exact .inr r
theorem ar.hard:∀{ds:List D}{vs:List V},jN ds=true->ar K M H ds vs->(∀a xs,Rd H a (.tup xs)->M' a=none)->ar K M' H ds vs
 |[],_,_,h,_=>h
 |d::ds,_,n,h,e=>by
  simp only[ar]at h ⊢;obtain⟨v,ws,rfl,h1,h2⟩:=h;simp only[jN,K1]at n;exact⟨v,ws,rfl,Rep.hard n.1 h1 e,ar.hard n.2 h2 e⟩
end
theorem cu(hr:HR K M H) (h:LeM M1 M) (e:Ext M1 H M2 H2) (h2:HR K M2 H2):∀a xs,Rd H2 a (.tup xs)->gN M M1 M2 a=none:=by
 intro a xs r;unfold gN;cases q:M2 a with
 |some o =>
  obtain⟨u,z,n⟩:=(h2 a _ q).some;rcases r with r|⟨o,r⟩
  ·rw[z]at r;exact absurd (J4 r) (n xs).1
  ·rw[z]at r;exact absurd (J4 r) ((n xs).2 o)
 |none =>
  by_cases n:M1 a=none
  ·simp only[n,if_true];cases q2:M a with
   |none=>rfl
   |some o =>
    obtain⟨u,z,m⟩:=(hr a _ q2).some;have z2:=(e a _ z n).1;rcases r with r|⟨o,r⟩
    ·rw[z2]at r;exact absurd (J4 r) (m xs).1
    ·rw[z2]at r;exact absurd (J4 r) ((m xs).2 o)
  ·simp[n]
def noC:HD->Bool
 |.lst ds=>jN ds
 |.dK kvs=>jN (kvs.map (·.2))
 |.dT kvs=>jN (kvs.map (·.2))
 |.dKr _ _ kvs=>jN (kvs.map (·.2))
 |.ins _ fs=>jN (fs.map (·.2))
 |.ext _ ds=>jN ds
theorem KR.hard{κ:Type}{kvs:List (κ×D)}{ks:List (κ×V)}(h:KR K M H kvs ks) (n:jN (kvs.map (·.2))=true) (e:∀a xs,Rd H a (.tup xs)->M' a=none):KR K M' H kvs ks:=by
 unfold KR at h ⊢
 induction h with
 |nil=>exact .nil
 |cons r _ ih =>
  simp only[N9,jN,K1]at n;exact .cons ⟨r.1,Rep.hard n.1 r.2 e⟩ (ih n.2)
theorem HR.back(hr:HR K M H) (h:LeM M1 M) (e:Ext M1 H M2 H2) (h2:HR K M2 H2) (hd:∀a o,M2 a=some o->noC o=true):HR K (gN M M1 M2) H2:=by
 have eb:Ext M H (gN M M1 M2) H2:=Ext.back h e;intro a o q;unfold gN at q;cases q2:M2 a with
 |some o2 =>
  rw[q2]at q;cases q;have c:=h2 a _ q2;have n:=hd a _ q2;cases o with
  |lst ds=>obtain⟨vs,z,t⟩:=c;exact⟨vs,z,ar.hard n t (cu hr h e h2)⟩
  |ext φ ds=>obtain⟨vs,z,t⟩:=c;exact⟨vs,z,ar.hard n t (cu hr h e h2)⟩
  |dK kvs=>obtain⟨vs,z,t⟩:=c;exact⟨vs,z,KR.hard t n (cu hr h e h2)⟩
  |dT kvs=>obtain⟨vs,z,t⟩:=c;exact⟨vs,z,KR.hard t n (cu hr h e h2)⟩
  |ins C fs=>obtain⟨vs,z,t⟩:=c;exact⟨vs,z,KR.hard t n (cu hr h e h2)⟩
  |dKr o ks kvs=>obtain⟨vs,z,t⟩:=c;exact⟨vs,z,KR.hard t n (cu hr h e h2)⟩
 |none =>
  rw[q2]at q
  by_cases n:M1 a=none
  ·simp only[n,if_true]at q;have c:=hr a _ q;obtain⟨u,z,_⟩:=c.some;exact c.keep eb (by rw[z];exact(e a _ z n).1)
  ·simp[n]at q
abbrev DE:=List (Option D)
def SR(K:o0) (M:DH) (H:Hp) (σ:St) (Δ:DE):Prop:=σ.length=Δ.length/\∀(i:Nat) (d:D),Δ[i]?=some (some d)->∃v,σ[i]?=some (some v)/\Rep K M H d v
theorem SR.ext{σ:St}{Δ:DE}(h:SR K M H σ Δ) (e:Ext M H M' H'):SR K M' H' σ Δ:=⟨h.1,fun i d q=>let⟨v,a,r⟩:=h.2 i d q;⟨v,a,r.ext e⟩⟩
theorem SR.set{σ:St}{Δ:DE}{d:D}{v:V}(h:SR K M H σ Δ) (i:Nat) (r:Rep K M H d v):SR K M H (σ.set i (some v)) (Δ.set i (some d)):=by
 refine⟨by simp[h.1],fun j e q=>?_⟩
 by_cases hj:j=i
 ·subst hj
  by_cases hl:j<Δ.length
  ·rw[Q5 hl]at q;cases q;exact⟨v,Q5 (by rw[h.1];exact hl),r⟩
  ·rw[List.getElem?_eq_none (by simp;lia)]at q;cases q
 ·rw[U5 (X7 hj)]at q ⊢;exact h.2 j e q
abbrev TEd:=DE->DH->(D->DH->Prop)->Prop
abbrev TAd:=DE->DH->(List D->DH->Prop)->Prop
abbrev TTd:=DE->DH->(Bool->DH->Prop)->Prop
structure fF where
 nx:DE->DH->Prop
 rt:D->DH->Prop
 bk:DE->DH->Prop:=fun _ _=>False
 ct:DE->DH->Prop:=fun _ _=>False
abbrev TSd:=fF->DE->DH->Prop
def up(K:o0) (t:TEd):TE:=fun σ H Q=>∃(Δ:DE) (M:DH) (R:D->DH->Prop),SR K M H σ Δ/\HR K M H/\t Δ M R /\
 ∀d M' v H',R d M'->Ext M H M' H'->HR K M' H'->Rep K M' H' d v->Q v H'
def upA(K:o0) (t:TAd):TA:=fun σ H Q=>∃(Δ:DE) (M:DH) (R:List D->DH->Prop),SR K M H σ Δ/\HR K M H/\t Δ M R /\
 ∀ds M' vs H',R ds M'->Ext M H M' H'->HR K M' H'->ar K M' H' ds vs->Q vs H'
def upT(K:o0) (t:TTd):TT:=fun σ H Q=>∃(Δ:DE) (M:DH) (R:Bool->DH->Prop),SR K M H σ Δ/\HR K M H/\t Δ M R /\
 ∀b M' H',R b M'->Ext M H M' H'->HR K M' H'->Q b H'
theorem upT.el{K:o0}{t:TTd}{σ:St}{H:Hp}{Q:Bool->Hp->Prop}{P:Prop}(h:upT K t σ H Q) (f:∀(Δ:DE) (M:DH) (R:Bool->DH->Prop),SR K M H σ Δ->HR K M H->t Δ M R->(∀b M' H',R b M'->Ext M H M' H'->HR K M' H'->Q b H')->P):P:=by
 obtain⟨x1,x2,x3,a,b,c,d⟩:=h;exact f x1 x2 x3 a b c d
theorem up.el{K:o0}{t:TEd}{σ:St}{H:Hp}{Q:VK}{P:Prop}(h:up K t σ H Q) (f:∀(Δ:DE) (M:DH) (R:D->DH->Prop),SR K M H σ Δ->HR K M H->t Δ M R->(∀d M' v H',R d M'->Ext M H M' H'->HR K M' H'->Rep K M' H' d v->Q v H')->P):P:=by
 obtain⟨x1,x2,x3,a,b,c,d⟩:=h;exact f x1 x2 x3 a b c d
theorem upA.el{K:o0}{t:TAd}{σ:St}{H:Hp}{Q:List V->Hp->Prop}{P:Prop}(h:upA K t σ H Q) (f:∀(Δ:DE) (M:DH) (R:List D->DH->Prop),SR K M H σ Δ->HR K M H->t Δ M R->(∀ds M' vs H',R ds M'->Ext M H M' H'->HR K M' H'->ar K M' H' ds vs->Q vs H')->P):P:=by
 obtain⟨x1,x2,x3,a,b,c,d⟩:=h;exact f x1 x2 x3 a b c d
structure UpE(K:o0) (E:fF) (D:pz) (M:DH) (H:Hp):Prop where
 nx:∀ Δ' M' σ' H',E.nx Δ' M'->Ext M H M' H'->HR K M' H'->SR K M' H' σ' Δ'->D.nx σ' H'
 bk:∀ Δ' M' σ' H',E.bk Δ' M'->Ext M H M' H'->HR K M' H'->SR K M' H' σ' Δ'->D.bk σ' H'
 ct:∀ Δ' M' σ' H',E.ct Δ' M'->Ext M H M' H'->HR K M' H'->SR K M' H' σ' Δ'->D.ct σ' H'
 rt:∀d M' v H',E.rt d M'->Ext M H M' H'->HR K M' H'->Rep K M' H' d v->D.rt v H'
theorem UpE.ext{E:fF}{D:pz}(u:UpE K E D M H) (e:Ext M H M' H'):UpE K E D M' H' :=
 ⟨fun a b c d h x=>u.nx a b c d h (e.trans x),fun a b c d h x=>u.bk a b c d h (e.trans x),fun a b c d h x=>u.ct a b c d h (e.trans x),fun a b c d h x=>u.rt a b c d h (e.trans x)⟩
def upS(K:o0) (t:TSd):TS:=fun D σ H=>∃(Δ:DE) (M:DH) (E:fF),SR K M H σ Δ/\HR K M H/\t E Δ M/\UpE K E D M H
theorem upS.el{K:o0}{t:TSd}{E:pz}{σ:St}{H:Hp}{P:Prop}(h:upS K t E σ H) (f:∀(Δ:DE) (M:DH) (R:fF),SR K M H σ Δ->HR K M H->t R Δ M->UpE K R E M H->P):P:=by
 obtain⟨x1,x2,x3,a,b,c,d⟩:=h;exact f x1 x2 x3 a b c d
def PEd(X:Cx) (e:J5) (t:TEd):Prop:=PE X e (up X.K t)
def PAd(X:Cx) (es:List J5) (t:TAd):Prop:=PA X es (upA X.K t)
def PTd(X:Cx) (e:J5) (t:TTd):Prop:=PT X e (upT X.K t)
def PWd(X:Cx) (e:J5) (t:TTd):Prop:=PW X e (upT X.K t)
def PSd(X:Cx) (st:ab2) (t:TSd):Prop:=PS X st (upS X.K t)
def xi(X:Cx) (st:List ab2) (t:TSd):Prop:=PSs X st (upS X.K t)
theorem PE.conv{X:Cx}{e:J5}{t t':TE}(h:PE X e t) (k:∀ σ H Q,t' σ H Q->t σ H Q):PE X e t':=fun p s σ H Q I q=>h p s σ H Q I (k σ H Q q)
theorem PT.conv{X:Cx}{e:J5}{t t':TT}(h:PT X e t) (k:∀ σ H Q,t' σ H Q->t σ H Q):PT X e t':=fun p s σ H Q I q=>h p s σ H Q I (k σ H Q q)
theorem PA.conv{X:Cx}{e:List J5}{t t':TA}(h:PA X e t) (k:∀ σ H Q,t' σ H Q->t σ H Q):PA X e t':=fun ps p s σ H Q I q=>h ps p s σ H Q I (k σ H Q q)
theorem PS.conv{X:Cx}{e:ab2}{t t':TS}(h:PS X e t) (k:∀D σ H,t' D σ H->t D σ H):PS X e t':=fun p s σ H D I q=>h p s σ H D I (k D σ H q)
theorem PSs.conv{X:Cx}{e:List ab2}{t t':TS}(h:PSs X e t) (k:∀D σ H,t' D σ H->t D σ H):PSs X e t':=fun p s σ H D I q=>h p s σ H D I (k D σ H q)
section
variable{X:Cx}{a b c:J5}{es:List J5}{ta tb:TEd}{pos:Pos}
def eG(i:Nat):TEd:=fun Δ M Q=>∃d,Δ[i]?=some (some d)/\Q d M
def dC(d:D):TEd:=fun _ M Q=>Q d M
def qI:TAd:=fun _ M Q=>Q [] M
def ef(ta:TEd) (tr:TAd):TAd:=fun Δ M Q=>ta Δ M fun x M1=>tr Δ M1 fun xs M2=>Q (x::xs) M2
def yE(t:TAd):TEd:=fun Δ M Q=>t Δ M fun ds M1=>ds.length<=F2/\Q (.tup ds) M1
def CT(t:TAd):TEd:=fun Δ M Q=>t Δ M fun ds M1=>ds.length<=F2/\Q (.lst ds) M1
def zO(t:TAd):TEd:=fun Δ M Q=>t Δ M fun ds M1=>ds.length<=F2/\∀p,M1 p=none->Q (.ref p) (av M1 p (.lst ds))
def rdM(M:DH):D->D
 |.ref a=>match M a with|some (.lst ds)=>.lst ds|_=>.ref a
 |d=>d
def aR(K:o0) (M:DH) (H:Hp) (d:D) (v:V):Prop:=match d with
 |.tup ds=>∃a vs,v=.ref a/\SqT K H a vs/\ar K M H ds vs
 |.lst ds=>∃a vs,v=.ref a/\H a=some (.lst vs)/\ar K M H ds vs
 |.scr ds=>∃a vs,v=.ref a/\SqL K H a vs/\ar K M H ds vs
 |d=>Rep K M H d v
theorem mQ.sq{K:o0}{M:DH}{H:Hp}{a:F9}{vs:List V}(h:mQ K M H a vs):SqT K H a vs:=by
 rcases h with⟨h,_⟩|h
 ·exact .inl h
 ·rcases h with(h|⟨_,h⟩)|h
  ·cases h
  ·cases h
  ·exact .inr h
theorem mO.sq{K:o0}{M:DH}{H:Hp}{a:F9}{vs:List V}(h:mO K M H a vs):SqL K H a vs:=by
 rcases h with⟨⟨o,h⟩,_⟩|h
 ·exact .inl (.inr ⟨o,h⟩)
 ·rcases h with(h|⟨_,h⟩)|h
  ·cases h
  ·cases h
  ·exact .inr h
theorem Rep.rd{K:o0}{M:DH}{H:Hp}{d:D}{v:V}(hr:HR K M H) (h:Rep K M H d v):aR K M H (rdM M d) v:=by
 cases d with
 |tup ds=>simp only[Rep]at h;obtain⟨a,vs,e,t,r⟩:=h;exact⟨a,vs,e,t.sq,r⟩
 |lst ds=>simp only[Rep]at h;obtain⟨a,vs,e,t,r⟩:=h;exact⟨a,vs,e,t.1,r⟩
 |scr ds=>simp only[Rep]at h;obtain⟨a,vs,e,t,r⟩:=h;exact⟨a,vs,e,t.sq,r⟩
 |ref a =>
  simp only[rdM];cases q:M a with
  |none=>exact h
  |some o =>
   cases o with
   |lst ds =>
    obtain⟨vs,e,r⟩:=hr a _ q;simp only[Rep]at h;exact⟨a,vs,h,e,r⟩
   |dK _=>exact h
   |dT _=>exact h
   |dKr _ _ _=>exact h
   |ins _ _=>exact h
   |ext _ _=>exact h
 |non=>exact h
 |bl b=>exact h
 |int i=>exact h
 |str x=>exact h
 |emp=>exact h
 |box _ _=>exact h
def bT(X:Cx) (f:u8->u8->Sem u8) (r:D->D->Option D):Prop :=
 ∀(ag:List (F9×Obj)) (s:F0) (σ:St) (H:Hp) (M:DH) (x y:V) (v u:u8) (dx dy dz:D) (Q:VK),Inv X ag σ H s->HR X.K M H->aE x v->aE y u->aR X.K M H dx x->aR X.K M H dy y->r dx dy=some dz ->
  (∀w H',Ext M H M H'->HR X.K M H'->Rep X.K M H' dz w->Q w H')->J3 (K6 X.prog X.w) X.A (f v u) (EP X ag σ Q) X.xe s
def Ed(X:Cx) (f:u8->Sem u8) (r:D->Option D):Prop :=
 ∀(ag:List (F9×Obj)) (s:F0) (σ:St) (H:Hp) (M:DH) (x:V) (v:u8) (dx dz:D) (Q:VK),Inv X ag σ H s->HR X.K M H->aE x v->aR X.K M H dx x->r dx=some dz ->
  (∀w H',Ext M H M H'->HR X.K M H'->Rep X.K M H' dz w->Q w H')->J3 (K6 X.prog X.w) X.A (f v) (EP X ag σ Q) X.xe s
def bZ(X:Cx) (f:u8) (r:List D->Option D):Prop :=
 ∀(ag:List (F9×Obj)) (s:F0) (σ:St) (H:Hp) (M:DH) (xs:List V) (us:List u8) (ds:List D) (dz:D) (Q:VK),Inv X ag σ H s->HR X.K M H->ay xs us->P8 (aR X.K M H) ds xs->r ds=some dz ->
  (∀w H',Ext M H M H'->HR X.K M H'->Rep X.K M H' dz w->Q w H')->J3 (K6 X.prog X.w) X.A (call f us) (EP X ag σ Q) X.xe s
def dOp(r:D->D->Option D) (ta tb:TEd):TEd:=fun Δ M Q=>ta Δ M fun x M1=>tb Δ M1 fun y M2=>∃z,r (rdM M2 x) (rdM M2 y)=some z/\Q z M2
def dUn(r:D->Option D) (ta:TEd):TEd:=fun Δ M Q=>ta Δ M fun x M1=>∃z,r (rdM M1 x)=some z/\Q z M1
def opV(K:o0) (r:D->D->Option D):R2:=fun x y H Q=>∃dx dy dz M,HR K M H/\aR K M H dx x/\aR K M H dy y/\r dx dy=some dz/\∀w H',Ext M H M H'->HR K M H'->Rep K M H' dz w->Q w H'
theorem bT.v{f:u8->u8->Sem u8}{r:D->D->Option D}(h:bT X f r):OpR X f (opV X.K r):=fun ag s σ H x y v u Q I rx ry ⟨dx,dy,dz,M,hr,r1,r2,e,k⟩=>h ag s σ H M x y v u dx dy dz Q I hr rx ry r1 r2 e k
theorem vZ{K:o0}{r:D->D->Option D}{ta tb:TEd}:∀ σ H Q,up K (dOp r ta tb) σ H Q->tOp (opV K r) (up K ta) (up K tb) σ H Q:=fun σ H Q hup=>hup.el fun Δ M R sr hr q k =>
 ⟨Δ,M,_,sr,hr,q,fun x M1 v H1 q1 e1 hr1 rv=>⟨Δ,M1,_,sr.ext e1,hr1,q1,fun y M2 u H2 ⟨z,ez,q2⟩ e2 hr2 ru=>⟨_,_,z,M2,hr2,(rv.ext e2).rd hr2,ru.rd hr2,ez,fun w H' e3 hr3 rw_=>k z M2 w H' q2 ((e1.trans e2).trans e3) hr3 rw_⟩⟩⟩
def oa(t:TEd):TTd:=fun Δ M Q=>t Δ M fun x M1=>∃k,x=.bl k/\Q k M1
theorem DP{K:o0}{t:TEd}:∀ σ H Q,upT K (oa t) σ H Q->wU (up K t) σ H Q:=fun σ H Q hup=>hup.el fun Δ M R sr hr q k =>
 ⟨Δ,M,_,sr,hr,q,fun d M1 v H1 ⟨b,e,q1⟩ e1 hr1 rv=>⟨b,by subst e;simpa only[Rep]using rv,k b M1 H1 q1 e1 hr1⟩⟩
def Ai(t:TTd):TTd:=fun Δ M Q=>t Δ M fun c M1=>Q (!c) M1
def vw(t u:TTd):TTd:=fun Δ M Q=>t Δ M fun c M1=>if c=true then u Δ M1 Q else Q false M1
def DJ(t u:TTd):TTd:=fun Δ M Q=>t Δ M fun c M1=>if c=true then Q true M1 else u Δ M1 Q
variable{tA tB':TTd}{br:List J5}
theorem PW.conv{X:Cx}{e:J5}{t t':TT}(h:PW X e t) (k:∀ σ H Q,t' σ H Q->t σ H Q):PW X e t':=fun w p s σ H Q I q=>h w p s σ H Q I (k σ H Q q)
theorem PWd.pt{e:J5}{t:TTd}(h:PWd X e t):PTd X e t:=PW.pt h
def D0(ta tb:TEd):TEd:=fun Δ M Q=>ta Δ M fun x M1=>∃c,x=.bl c/\if c=true then tb Δ M1 Q else Q (.bl false) M1
def dIf(t:TTd) (ta tb:TEd):TEd:=fun Δ M Q=>t Δ M fun c M1=>if c=true then ta Δ M1 Q else tb Δ M1 Q
def wQ(r r':D->D->Option D) (ta tb tc:TEd):TEd:=fun Δ M Q=>ta Δ M fun x M1=>tb Δ M1 fun y M2=>∃k,r (rdM M2 x) (rdM M2 y)=some (.bl k)/\if k=true then tc Δ M2 fun z M3=>∃w,r' (rdM M3 y) (rdM M3 z)=some w/\Q w M3 else Q (.bl false) M2
theorem tO{K:o0}{M:DH}{H:Hp}(hr:HR K M H):∀{ds:List D}{vs:List V},ar K M H ds vs->P8 (aR K M H) (ds.map (rdM M)) vs
 |[],_,h=>by simp only[ar]at h;subst h;exact .nil
 |d::ds,_,h=>by
  simp only[ar]at h;obtain⟨v,ws,rfl,h1,h2⟩:=h;exact .cons (h1.rd hr) (tO hr h2)
def dCB(r:List D->Option D) (t:TAd):TEd:=fun Δ M Q=>t Δ M fun ds M1=>∃z,r (ds.map (rdM M1))=some z/\Q z M1
theorem zT{K:o0}{r:List D->Option D}{t:TAd}:∀ σ H Q,up K (dCB r t) σ H Q->tCB (fun xs H Q=>∃ds dz M,HR K M H/\P8 (aR K M H) ds xs/\r ds=some dz/\∀w H',Ext M H M H'->HR K M H'->Rep K M H' dz w->Q w H') (upA K t) σ H Q:=fun σ H Q hup=>hup.el fun Δ M R sr hr q k =>
 ⟨Δ,M,_,sr,hr,q,fun ds M1 vs H1 ⟨z,ez,q1⟩ e1 hr1 rv=>⟨_,z,M1,hr1,tO hr1 rv,ez,fun w H' e2 hr2 r2=>k z M1 w H' q1 (e1.trans e2) hr2 r2⟩⟩
theorem bZ.v{f:u8}{r:List D->Option D}(h:bZ X f r):dR X f (fun xs H Q=>∃ds dz M,HR X.K M H/\P8 (aR X.K M H) ds xs/\r ds=some dz/\∀w H',Ext M H M H'->HR X.K M H'->Rep X.K M H' dz w->Q w H') :=
 fun ag s σ H xs us Q I rv ⟨ds,dz,M,hr,rr,e,k⟩=>h ag s σ H M xs us ds dz Q I hr rv rr e k
end
section
variable{X:Cx}
theorem bT.of{f:u8->u8->Sem u8}{r2:R2}{r:D->D->Option D}(h:OpR X f r2)
  (k:∀(H:Hp) (M:DH) (x y:V) (dx dy dz:D) (Q:VK),HR X.K M H->aR X.K M H dx x->aR X.K M H dy y->r dx dy=some dz->(∀w H',Ext M H M H'->HR X.K M H'->Rep X.K M H' dz w->Q w H')->r2 x y H Q):bT X f r :=
 fun ag s σ H M x y v u dx dy dz Q I hr rx ry r1 r2 e q=>h ag s σ H x y v u Q I rx ry (k H M x y dx dy dz Q hr r1 r2 e q)
theorem bZ.of{f:u8}{r2:List V->Hp->VK->Prop}{r:List D->Option D}(h:dR X f r2)
  (k:∀(H:Hp) (M:DH) (xs:List V) (ds:List D) (dz:D) (Q:VK),HR X.K M H->P8 (aR X.K M H) ds xs->r ds=some dz->(∀w H',Ext M H M H'->HR X.K M H'->Rep X.K M H' dz w->Q w H')->r2 xs H Q):bZ X f r :=
 fun ag s σ H M xs us ds dz Q I hr rv r1 e q=>h ag s σ H xs us Q I rv (k H M xs ds dz Q hr r1 e q)
theorem eR{K:o0}{M:DH}{H:Hp}{i:Int}{v:V}(h:aR K M H (.int i) v):v=.int i:=by simpa[aR,Rep]using h
theorem mh{K:o0}{M:DH}{H:Hp}{i:Str}{v:V}(h:aR K M H (.str i) v):v=.str i:=by simpa[aR,Rep]using h
theorem EI{K:o0}{M:DH}{H:Hp}{v:V}(h:aR K M H .non v):v=.non:=by simpa[aR,Rep]using h
def iOp(f:Int->Int->Option D):D->D->Option D
 |.int a,.int b=>f a b
 |_,_=>none
theorem lY{f:Int->Int->Option D}{x y z:D}(h:iOp f x y=some z):∃a b,x=.int a/\y=.int b/\f a b=some z:=by
 cases x<;>first|cases h|skip
 rename_i a;cases y<;>first|cases h|skip
 rename_i b;exact⟨a,b,rfl,rfl,h⟩
noncomputable def bh:D->Bool
 |.non=>true|.bl _=>true|.int _=>true|.str _=>true|_=>false
def toV:D->V
 |.bl b=>.bl b|.int i=>.int i|.str x=>.str x|_=>.non
theorem oZ{K:o0}{M:DH}{H:Hp}{d:D}(h:bh d=true):Rep K M H d (toV d):=by
 cases d<;>first|(simp[Rep,toV];done)|cases h
theorem qm{f:u8->u8->Sem u8}{C:Int->Int->Prop} [∀i j,Decidable (C i j)] {g:Int->Int->D}(hs:∀i j,bh (g i j)=true) (h:OpR X f (rI C fun i j=>toV (g i j))) :
  bT X f (iOp fun i j=>if C i j then some (g i j)else none) :=
 bT.of h fun H M x y dx dy dz Q hr r1 r2 e q=>by
  obtain⟨a,b,rfl,rfl,e'⟩:=lY e;clear e;have e:=e'
  by_cases hc:C a b
  ·rw[if_pos hc]at e;cases e;exact⟨a,b,eR r1,eR r2,hc,q _ _ (Ext.refl _ _) hr (oZ (hs a b))⟩
  ·rw[if_neg hc]at e;cases e
theorem nQ{f:u8->u8->Sem u8}{g:Int->Int->D}(hs:∀i j,bh (g i j)=true) (h:OpR X f (rI0 fun i j=>toV (g i j))) :
  bT X f (iOp fun i j=>some (g i j)) :=
 bT.of h fun H M x y dx dy dz Q hr r1 r2 e q=>by
  obtain⟨a,b,rfl,rfl,e⟩:=lY e;cases e;exact⟨a,b,eR r1,eR r2,q _ _ (Ext.refl _ _) hr (oZ (hs a b))⟩
instance:∀i j,Decidable (kf i j):=fun i j=>by unfold kf;exact inferInstance
instance:∀i j,Decidable (i7 i j):=fun i j=>by unfold i7;exact inferInstance
instance:∀i j,Decidable (pM i j):=fun i j=>by unfold pM;exact inferInstance
theorem fH:bT X (O9 .Sub) (iOp fun i j=>some (.int (i-j))):=nQ (fun _ _=>rfl) Bp
theorem AV:bT X (O9 .Mult) (iOp fun i j=>if i7 i j then some (.int (i*j))else none):=qm (fun _ _=>rfl) B4
theorem Bf:bT X (O9 .FloorDiv) (iOp fun i j=>if kf i j then some (.int (i / j))else none):=qm (fun _ _=>rfl) zD
theorem tV:bT X (O9 .Mod) (iOp fun i j=>if 0<j then some (.int (i % j))else none):=qm (C:=fun _ j=>0<j) (fun _ _=>rfl) Ax
theorem zX:bT X (O9 .Pow) (iOp fun i j=>if pM i j then some (.int (i ^ j.toNat))else none):=qm (fun _ _=>rfl) Cr
theorem rX:bT X (N0 .Lt) (iOp fun i j=>some (.bl (decide (i<j)))):=nQ (fun _ _=>rfl) D7
theorem C2:bT X (N0 .LtE) (iOp fun i j=>some (.bl (decide (i<=j)))):=nQ (fun _ _=>rfl) Df
theorem um:bT X (N0 .Gt) (iOp fun i j=>some (.bl (decide (j<i)))):=nQ (fun _ _=>rfl) CW
theorem ar.at_{K:o0}{M:DH}{H:Hp}{ds:List D}{vs:List V}{i:Int}{d:D}(h:ar K M H ds vs) (e:atI ds i=some d):∃v,atI vs i=some v/\Rep K M H d v:=by
 unfold atI at e ⊢;rw[<-h.length];cases q:ixN ds.length i with
 |none=>rw[q]at e;cases e
 |some j =>
  rw[q]at e;have e':ds[j]?=some d:=e;obtain⟨v,a,b⟩:=h.get e';exact⟨v,a,b⟩
def ixD:D->D->Option D
 |.tup ds,.int i=>atI ds i
 |.lst ds,.int i=>atI ds i
 |.scr ds,.int i=>atI ds i
 |.str z,.int i=>if z.length<=F2 then(atI z.cps.toList i).map fun c=>.str ⟨#[c]⟩else none
 |_,_=>none
theorem aM:IxR X (opV X.K ixD):=by
 intro value slice ag s σ H x y v u Q I rx ry h hs;obtain⟨dx,dy,dz,M,hr,r1,r2,e,k⟩:=h;cases dx with
 |tup ds =>
  cases dy with
  |int i =>
   obtain⟨a,vs,rfl,sq,rl⟩:=r1;obtain⟨w,e2,rw_⟩:=rl.at_ e;exact BV value slice ag s σ H _ _ v u Q I rx ry ⟨a,vs,i,w,rfl,eR r2,sq,e2,k w H (Ext.refl _ _) hr rw_⟩ hs
  |_=>cases e
 |lst ds =>
  cases dy with
  |int i =>
   obtain⟨a,vs,rfl,sq,rl⟩:=r1;obtain⟨w,e2,rw_⟩:=rl.at_ e;exact sR value slice ag s σ H _ _ v u Q I rx ry ⟨a,vs,i,w,rfl,eR r2,SqL.of sq,e2,k w H (Ext.refl _ _) hr rw_⟩ hs
  |_=>cases e
 |scr ds =>
  cases dy with
  |int i =>
   obtain⟨a,vs,rfl,sq,rl⟩:=r1;obtain⟨w,e2,rw_⟩:=rl.at_ e;exact sR value slice ag s σ H _ _ v u Q I rx ry ⟨a,vs,i,w,rfl,eR r2,sq,e2,k w H (Ext.refl _ _) hr rw_⟩ hs
  |_=>cases e
 |str z =>
  cases dy with
  |int i =>
   simp only[ixD]at e
   by_cases hz:z.length<=F2
   ·rw[if_pos hz]at e;cases q:atI z.cps.toList i with
    |none=>rw[q]at e;cases e
    |some c =>
     rw[q]at e;cases e;exact AL value slice ag s σ H _ _ v u Q I rx ry ⟨z,i,c,mh r1,eR r2,hz,q,k _ H (Ext.refl _ _) hr (by simp[Rep])⟩ hs
   ·rw[if_neg hz]at e;cases e
  |_=>cases e
 |_=>cases e
noncomputable def jX:D->D->Option D
 |.int a,.int b=>some (.int (a+b))
 |.str a,.str b=>if a.length+b.length<=F2 then some (.str (a++b))else none
 |.lst a,.lst b=>if a.length+b.length<=F2 then some (.lst (a++b))else none
 |.tup a,.tup b=>if a.length+b.length<=F2 then some (.tup (a++b))else none
 |_,_=>none
theorem gY{K:o0}{M:DH}{H:Hp}{p:F9}{ds:List D}{vs:List V}{Q:VK}(hr:HR K M H) (hp:H p=none) (r:ar K M H ds vs) (q:∀w H',Ext M H M H'->HR K M H'->Rep K M H' (.lst ds) w->Q w H'):Q (.ref p) (upd H p (.lst vs)) :=
 q _ _ (Ext.new hr hp) (hr.new hp) (by simp only[Rep];exact⟨p,vs,rfl,⟨aF,hr.fresh hp⟩,r.ext (Ext.new hr hp)⟩)
theorem jd{K:o0}{M:DH}{H:Hp}{p:F9}{ds:List D}{vs:List V}{Q:VK}(hr:HR K M H) (hp:H p=none) (r:ar K M H ds vs) (q:∀w H',Ext M H M H'->HR K M H'->Rep K M H' (.tup ds) w->Q w H'):Q (.ref p) (upd H p (.tup vs)) :=
 q _ _ (Ext.new hr hp) (hr.new hp) (by simp only[Rep];exact⟨p,vs,rfl,.inl ⟨.inl aF,hr.fresh hp⟩,r.ext (Ext.new hr hp)⟩)
theorem aR.tup{K:o0}{M:DH}{H:Hp}{ds:List D}{v:V}(hr:HR K M H) (h:aR K M H (.tup ds) v):Rep K M H (.tup ds) v:=by
 obtain⟨a,vs,rfl,sq,rl⟩:=h;simp only[Rep];refine⟨a,vs,rfl,?_,rl⟩;rcases sq with r|k
 ·refine .inl ⟨r,?_⟩;cases q:M a with
  |none=>rfl
  |some o =>
   obtain⟨u,z,m⟩:=(hr a _ q).some;rcases r with r|⟨ob,r⟩
   ·rw[z]at r;exact absurd (J4 r) (m _).1
   ·rw[z]at r;exact absurd (J4 r) ((m _).2 ob)
 ·exact .inr (.inr k)
theorem xE{prog:L4}{w:P7}{A:N5}{E:u8->F0->Prop}{s:F0}{t b:F9}{ws:List u8}{Q:u8->F0->Prop}(ht:ac9 s.heap t ([]:List u8).toArray) (hb:ac9 s.heap b ws.toArray)
  (h:Q (.ref b) s):J3 (K6 prog w) A (O9 .Add (.ref t) (.ref b)) Q E s:=by
 obtain⟨⟨cls,dd,data,sl⟩,ho,hc,n,hd⟩:=id ht;obtain⟨⟨cls2,dd2,data2,sl2⟩,ho2,hc2,n2,hd2⟩:=id hb;simp only at hc hd hc2 hd2;subst hc hd hc2 hd2;exact concat_meets ⟨_,ho,rfl⟩ ⟨_,ho2,rfl⟩ noFill_tuple_add seq_tuple_add PySem.F.slot_tuple_add PySem.F.entry_tuple_add (PySem.F.args_tuple_add_2 _ _)
   (tuple_addW0 t b ([]:List u8).toArray ws.toArray n n2 dd dd2 sl sl2 (by simp)) ⟨ho,ho2,h⟩
theorem aS:bT X (O9 .Add) jX:=by
 intro ag s σ H M x y v u dx dy dz Q I hr rx ry r1 r2 e k;cases dx with
 |int a =>
  cases dy with
  |int b =>
   cases e;exact AE ag s σ H x y v u Q I rx ry ⟨a,b,eR r1,eR r2,k _ H (Ext.refl _ _) hr (by simp[Rep])⟩
  |_=>cases e
 |str a =>
  cases dy with
  |str b =>
   simp only[jX]at e
   by_cases hz:a.length+b.length<=F2
   ·rw[if_pos hz]at e;cases e;exact rm ag s σ H x y v u Q I rx ry ⟨a,b,mh r1,mh r2,hz,k _ H (Ext.refl _ _) hr (by simp[Rep])⟩
   ·rw[if_neg hz]at e;cases e
  |_=>cases e
 |lst a =>
  cases dy with
  |lst b =>
   simp only[jX]at e
   by_cases hz:a.length+b.length<=F2
   ·rw[if_pos hz]at e;cases e;obtain⟨l1,vs,rfl,h1,l1r⟩:=r1;obtain⟨l2,ws,rfl,h2,l2r⟩:=r2;exact wq ag s σ H _ _ v u Q I rx ry ⟨l1,l2,vs,ws,rfl,rfl,h1,h2,by rw[<-l1r.length,<-l2r.length];exact hz,fun p hp=>gY hr hp (l1r.append l2r) k⟩
   ·rw[if_neg hz]at e;cases e
  |_=>cases e
 |tup a =>
  cases dy with
  |tup b =>
   simp only[jX]at e
   by_cases hz:a.length+b.length<=F2
   ·rw[if_pos hz]at e;cases e;have t1:=aR.tup hr r1;have t2:=aR.tup hr r2;obtain⟨l1,vs,rfl,h1,l1r⟩:=r1;obtain⟨l2,ws,rfl,h2,l2r⟩:=r2
    by_cases hv:vs=[]
    ·subst hv;have ea:a=[]:=by
      have:=l1r.length;cases a with
      |nil=>rfl
      |cons _ _=>simp at this
     subst ea;cases rx;cases ry;obtain⟨its,q1,p1,_⟩:=I.tuple h1;obtain⟨its2,q2,p2,_⟩:=I.tuple h2;cases q1;exact xE p1 p2 ⟨.ref l2,H,I,rfl,k _ H (Ext.refl _ _) hr t2⟩
    ·refine yB ag s σ H _ _ v u Q I rx ry ⟨l1,l2,vs,ws,rfl,rfl,h1,h2,hv,by rw[<-l1r.length,<-l2r.length];exact hz,fun hw=>?_,fun _ p hp=>jd hr hp (l1r.append l2r) k⟩;subst hw;have eb:b=[]:=by
      have:=l2r.length;cases b with
      |nil=>rfl
      |cons _ _=>simp at this
     subst eb;rw[Z0]at k;exact k _ H (Ext.refl _ _) hr t1
   ·rw[if_neg hz]at e;cases e
  |_=>cases e
 |_=>cases e
mutual
def eqD:D->D->Bool
 |.non,.non=>true
 |.bl a,.bl b=>a==b
 |.bl a,.int b=>(if a then 1 else 0)==b
 |.int a,.bl b=>a==(if b then 1 else 0)
 |.int a,.int b=>a==b
 |.str a,.str b=>a==b
 |.tup a,.tup b=>dD a b
 |.lst a,.lst b=>dD a b
 |_,_=>false
def dD:List D->List D->Bool
 |[],[]=>true
 |a::as,b::bs=>eqD a b&&dD as bs
 |_,_=>false
end
mutual
def dLe:D->Nat->Bool
 |.tup _,0=>false
 |.tup ds,n+1=>cM ds n
 |.lst _,0=>false
 |.lst ds,n+1=>cM ds n
 |.scr _,_=>false
 |.emp,_=>false
 |.box _ _,_=>false
 |.ref _,_=>false
 |_,_=>true
def cM:List D->Nat->Bool
 |[],_=>true
 |d::ds,n=>dLe d n&&cM ds n
end
theorem iG:∀{ds:List D}{n i:Nat}{d:D},cM ds n=true->ds[i]?=some d->dLe d n=true
 |[],_,_,_,_,e=>by simp at e
 |d::ds,n,0,x,h,e=>by
  simp only[cM,K1]at h;simp at e;subst e;exact h.1
 |d::ds,n,i+1,x,h,e=>by
  simp only[cM,K1]at h;exact iG h.2 (by simpa using e)
theorem iE:∀{ds:List D}{n:Nat},cM ds n=true↔∀d∈ds,dLe d n=true
 |[],n=>by simp[cM]
 |d::ds,n=>by simp[cM,iE (ds:=ds)]
def eqN(ds es:List D) (j:Nat):Bool:=match ds[j]?,es[j]? with|some a,some b=>eqD a b|_,_=>false
theorem p8:∀{ds es:List D},dD ds es=true->ds.length=es.length
 |[],[],_=>rfl
 |[],_::_,h=>by simp[dD]at h
 |_::_,[],h=>by simp[dD]at h
 |_::ds,_::es,h=>by
  simp only[dD,K1]at h;simp[p8 h.2]
theorem kF:∀{ds es:List D},dD ds es=((T6 (min ds.length es.length)).all (eqN ds es)&&ds.length==es.length)
 |[],[]=>by simp[dD]
 |[],_::_=>by simp[dD]
 |_::_,[]=>by simp[dD]
 |a::ds,b::es=>by
  have ih:=@kF ds es;simp only[dD,T4,Nat.add_min_add_right,List.range_succ_eq_map,V7,List.all_map];have e0:eqN (a::ds) (b::es) 0=eqD a b:=by simp[eqN]
  have e1:(eqN (a::ds) (b::es))∘Nat.succ=eqN ds es:=by
   funext j;simp[eqN]
  rw[e0,e1,ih];have e2:(ds.length+1==es.length+1)=(ds.length==es.length):=by
   rw[Bool.eq_iff_iff];simp
  rw[e2,Bool.and_assoc]
theorem uR{ds es:List D}(h:ds.length=es.length):dD ds es=(T6 ds.length).all (eqN ds es):=by
 rw[kF,<-h,Nat.min_self];simp
theorem Rep.r{K:o0}{M:DH}{H:Hp}{d:D}{v:V}(h:Rep K M H d v):aR K M H d v:=by
 cases d with
 |tup ds=>simp only[Rep]at h;obtain⟨a,vs,e,t,r⟩:=h;exact⟨a,vs,e,t.sq,r⟩
 |lst ds=>simp only[Rep]at h;obtain⟨a,vs,e,t,r⟩:=h;exact⟨a,vs,e,t.1,r⟩
 |scr ds=>simp only[Rep]at h;obtain⟨a,vs,e,t,r⟩:=h;exact⟨a,vs,e,t.sq,r⟩
 |_=>exact h
theorem zY{ag:List (F9×Obj)}{σ:St}{H:Hp}{s:F0}{a:F9}{vs ws:List V}(I:Inv X ag σ H s) (h:SqT X.K H a vs) (h':H a=some (.lst ws)):False:=by
 obtain⟨its,r,⟨o,e,c,n,d⟩,_⟩:=I.tuple h;obtain⟨_,its',n',_,e'⟩:=I.hok a _ h';rw[e]at e';cases e';exact absurd (show ad2 "list"=ad2 "tuple" from c) (by decide)
theorem vK{ag:List (F9×Obj)}{σ:St}{H:Hp}{s:F0}(I:Inv X ag σ H s) {M M':DH}:∀(n:Nat) {d e:D}{v:V},dLe d n=true->dLe e n=true->aR X.K M H d v->aR X.K M' H e v->eqD d e=true:=by
  intro n
  induction n with
  | zero =>
    intro d e v hd he r1 r2;cases d<;>first|(simp[dLe]at hd;done)|skip
    all_goals cases e<;>first|(simp[dLe]at he;done)|skip
    all_goals (simp only[aR,Rep]at r1 r2;subst r1;first|(cases r2;simp[eqD];done)|cases r2)
  | succ n ih =>
    intro d e v hd he r1 r2;have lists:∀{ds es:List D} {vs:List V},cM ds n=true->cM es n=true->ar X.K M H ds vs->ar X.K M' H es vs->dD ds es=true:=by
      intro ds
      induction ds with
      | nil =>
        intro es vs _ _ h1 h2;simp only[ar]at h1;subst h1;cases es with
        |nil=>simp[dD]
        |cons _ _=>simp[ar]at h2
      | cons a ds ihl =>
        intro es vs d1 d2 h1 h2;simp only[ar]at h1;obtain⟨v,ws,rfl,h3,h4⟩:=h1;cases es with
        |nil=>simp[ar]at h2
        | cons b es =>
          simp only[ar]at h2;obtain⟨v',ws',e',h5,h6⟩:=h2;cases e';simp only[cM,K1]at d1 d2;simp only[dD,K1];exact⟨ih d1.1 d2.1 h3.r h5.r,ihl d1.2 d2.2 h4 h6⟩
    cases d with
    | tup ds =>
      obtain⟨a,vs,rfl,sq,rl⟩:=r1;cases e with
      | tup es =>
        obtain⟨b,ws,e',sq',rl'⟩:=r2;cases e';have:=I.tuple_inj sq sq';subst this;simp only[eqD];exact lists (by simpa[dLe]using hd) (by simpa[dLe]using he) rl rl'
      | lst es =>
        obtain⟨b,ws,e',sq',rl'⟩:=r2;cases e';exact(zY I sq sq').elim
      |_=>first|(simp[dLe]at he;done)|(simp only[aR,Rep]at r2;cases r2)
    | lst ds =>
      obtain⟨a,vs,rfl,sq,rl⟩:=r1;cases e with
      | lst es =>
        obtain⟨b,ws,e',sq',rl'⟩:=r2;cases e';rw[sq]at sq';cases sq';simp only[eqD];exact lists (by simpa[dLe]using hd) (by simpa[dLe]using he) rl rl'
      | tup es =>
        obtain⟨b,ws,e',sq',rl'⟩:=r2;cases e';exact(zY I sq' sq).elim
      |_=>first|(simp[dLe]at he;done)|(simp only[aR,Rep]at r2;cases r2)
    | _ =>
      first
      |(simp[dLe]at hd;done)
      | (cases e with
         |tup es=>(obtain⟨b,ws,e',sq',rl'⟩:=r2;subst e';simp only[aR,Rep]at r1;cases r1)
         |lst es=>(obtain⟨b,ws,e',sq',rl'⟩:=r2;subst e';simp only[aR,Rep]at r1;cases r1)
         |_=>first|(simp[dLe]at he;done)|(simp only[aR,Rep]at r1 r2;subst r1;first|(cases r2;simp[eqD];done)|cases r2))
theorem aR.at{K:o0}{M:DH}{H:Hp}{d:D}{v:V}{u:u8}(r:aR K M H d v) (q:aE v u):match d with|.non=>u=.none|.bl b=>u=.bool b|.int i=>∃t,u=.int i t|.str x=>∃t,u=.str x t|_=>True:=by
 cases d<;>first|trivial|(simp only[aR,Rep]at r;subst r;exact q)
open PySem.SeqAt in
theorem qU{ag:List (F9×Obj)}{σ:St}{H:Hp}{s:F0}(I:Inv X ag σ H s) {M M':DH}:∀(n:Nat) {A:N5}{d e:D}{v w:V}{u1 u2:u8},A.units+n<aa9->dLe d n=true->dLe e n=true ->
  aR X.K M H d v->aR X.K M' H e w->aE v u1->aE w u2->EqAt A s u1 u2 (eqD d e)/\RcAt A s u1 u2 (eqD d e)/\RcNeAt A s u1 u2 (!(eqD d e)):=by
 intro n
 induction n with
 |zero =>
  intro A d e v w u1 u2 hu hd he r1 r2 q1 q2;have hu0:A.units<aa9:=by lia
  cases d<;>first|(simp[dLe]at hd;done)|skip
  all_goals cases e<;>first|(simp[dLe]at he;done)|skip
  all_goals simp only[aR,Rep]at r1 r2
  all_goals subst r1
  all_goals subst r2
  all_goals simp only[aE]at q1 q2
  all_goals first|(obtain⟨t1,rfl⟩:=q1)|subst q1
  all_goals first|(obtain⟨t2,rfl⟩:=q2)|subst q2
  all_goals simp only[eqD]
  ·exact⟨EqAt.same _,RcAt.none_none,RcNeAt.none_none⟩
  ·exact⟨EqAt.none_bool _,RcAt.none_bool _,RcNeAt.none_bool _⟩
  ·exact⟨EqAt.none_int _ _,RcAt.none_int _ _,RcNeAt.none_int _ _⟩
  ·exact⟨EqAt.none_str _ _,RcAt.none_str _ _,RcNeAt.none_str _ _⟩
  ·exact⟨EqAt.bool_none _,RcAt.bool_none _,RcNeAt.bool_none _⟩
  ·exact⟨EqAt.bool_bool _ _,RcAt.bool_bool _ _,RcNeAt.bool_bool _ _⟩
  ·exact⟨EqAt.bool_int _ _ _,RcAt.bool_int _ _ _,RcNeAt.bool_int _ _ _⟩
  ·exact⟨EqAt.bool_str _ _ _,RcAt.bool_str _ _ _,RcNeAt.bool_str _ _ _⟩
  ·exact⟨EqAt.int_none _ _,RcAt.int_none _ _,RcNeAt.int_none _ _⟩
  ·exact⟨EqAt.int_bool _ _ _,RcAt.int_bool _ _ _,RcNeAt.int_bool _ _ _⟩
  ·exact⟨EqAt.int_int _ _ _ _,RcAt.int_int _ _ _ _,RcNeAt.int_int _ _ _ _⟩
  ·exact⟨EqAt.int_str _ _ _ _,RcAt.int_str _ _ _ _,RcNeAt.int_str _ _ _ _⟩
  ·exact⟨EqAt.str_none _ _,RcAt.str_none _ _,RcNeAt.str_none _ _⟩
  ·exact⟨EqAt.str_bool _ _ _,RcAt.str_bool _ _ _,RcNeAt.str_bool _ _ _⟩
  ·exact⟨EqAt.str_int _ _ _ _,RcAt.str_int _ _ _ _,RcNeAt.str_int _ _ _ _⟩
  ·exact⟨EqAt.str_str _ _ _ _,RcAt.str_str _ _ _ _,RcNeAt.str_str _ _ _ _⟩
 |succ n ih =>
  intro A d e v w u1 u2 hu hd he r1 r2 q1 q2;have hu0:A.units<aa9:=by lia
  have hu1:A.in1.units+n<aa9:=by show A.units+1+n<aa9;lia
  have item:∀{ds es:List D} {vs ws:List V} {us us2:List u8},cM ds n=true->cM es n=true->ar X.K M H ds vs->ar X.K M' H es ws->ay vs us->ay ws us2 ->
    ∀j (h1:j<us.toArray.size) (h2:j<us2.toArray.size),EqAt A.in1 s us.toArray[j] us2.toArray[j] (eqN ds es j):=by
   intro ds es vs ws us us2 d1 d2 h1 h2 h3 h4 j hj1 hj2;have l1:=h1.length;have l2:=h2.length;have l3:=h3.length;have l4:=h4.length;have j1:j<ds.length:=by simp at hj1;lia
   have j2:j<es.length:=by simp at hj2;lia
   obtain⟨v1,g1,p1⟩:=h1.get (i:=j) (d:=ds[j]) (by simp[j1]);obtain⟨v2,g2,p2⟩:=h2.get (i:=j) (d:=es[j]) (by simp[j2]);obtain⟨u1,k1,m1⟩:=h3.get g1;obtain⟨u2,k2,m2⟩:=h4.get g2;have e1:us.toArray[j]=u1:=by
    simp at hj1;simpa[List.getElem?_eq_getElem hj1]using k1
   have e2:us2.toArray[j]=u2:=by
    simp at hj2;simpa[List.getElem?_eq_getElem hj2]using k2
   rw[e1,e2];have e3:eqN ds es j=eqD ds[j] es[j]:=by simp[eqN,j1,j2]
   rw[e3];exact(ih hu1 (iG d1 (i:=j) (by simp[j1])) (iG d2 (i:=j) (by simp[j2])) p1.r p2.r m1 m2).1
  have both:∀{a b:F9},v=.ref a->w=.ref b->RcAt A s (.ref a) (.ref b) (eqD d e)->EqAt A s (.ref a) (.ref b) (eqD d e):=by
   intro a b ea eb rc
   by_cases hab:a=b
   ·subst hab;subst ea;subst eb;rw[vK I (n+1) hd he r1 r2];exact EqAt.same _
   ·exact EqAt.of_refs hab rc
  cases d with
  |tup ds =>
   obtain⟨a,vs,rfl,sq,rl⟩:=id r1;cases q1;obtain⟨its,rv,pt,_⟩:=I.tuple sq;have hd':cM ds n=true:=by simpa[dLe]using hd
   cases e with
   |tup es =>
    obtain⟨b,ws,rfl,sq',rl'⟩:=id r2;cases q2;obtain⟨its2,rv2,pt2,_⟩:=I.tuple sq';have he':cM es n=true:=by simpa[dLe]using he
    have it:=item hd' he' rl rl' rv rv2;have t1:=RcAt.tuples (e:=eqN ds es) pt pt2 hu0 it;have t2:=RcNeAt.tuples (e:=eqN ds es) pt pt2 hu0 it;rw[F3,F3,<-rv.length,<-rv2.length,<-rl.length,<-rl'.length,<-kF]at t1 t2;have rc:RcAt A s (.ref a) (.ref b) (eqD (.tup ds) (.tup es)):=by simpa only[eqD]using t1
    exact⟨both rfl rfl rc,rc,by simpa only[eqD]using t2⟩
   |lst es =>
    obtain⟨b,ws,rfl,sq',rl'⟩:=id r2;cases q2;obtain⟨its2,rv2,pt2,_⟩:=I.list (SqL.of sq');simp only[eqD];exact⟨EqAt.tuple_list pt pt2.isList hu0,RcAt.tuple_list pt pt2.isList hu0,RcNeAt.tuple_list pt pt2.isList hu0⟩
   |non=>obtain rfl:=r2.at q2;simp only[eqD];exact⟨EqAt.tuple_none pt hu0,RcAt.tuple_none pt hu0,RcNeAt.tuple_none pt hu0⟩
   |bl b=>obtain rfl:=r2.at q2;simp only[eqD];exact⟨EqAt.tuple_bool _ pt hu0,RcAt.tuple_bool _ pt hu0,RcNeAt.tuple_bool _ pt hu0⟩
   |int b=>obtain⟨t,rfl⟩:=r2.at q2;simp only[eqD];exact⟨EqAt.tuple_int _ _ pt hu0,RcAt.tuple_int _ _ pt hu0,RcNeAt.tuple_int _ _ pt hu0⟩
   |str b=>obtain⟨t,rfl⟩:=r2.at q2;simp only[eqD];exact⟨EqAt.tuple_str _ _ pt hu0,RcAt.tuple_str _ _ pt hu0,RcNeAt.tuple_str _ _ pt hu0⟩
   |_=>simp[dLe]at he
  |lst ds =>
   obtain⟨a,vs,rfl,sq,rl⟩:=id r1;cases q1;obtain⟨its,rv,pt,_⟩:=I.list (SqL.of sq);have hd':cM ds n=true:=by simpa[dLe]using hd
   cases e with
   |lst es =>
    obtain⟨b,ws,rfl,sq',rl'⟩:=id r2;cases q2;obtain⟨its2,rv2,pt2,_⟩:=I.list (SqL.of sq');have he':cM es n=true:=by simpa[dLe]using he
    have hs:its.toArray.size=ds.length/\its2.toArray.size=es.length:=by rw[F3,F3,<-rv.length,<-rv2.length,<-rl.length,<-rl'.length];exact⟨rfl,rfl⟩
    have rc:RcAt A s (.ref a) (.ref b) (eqD (.lst ds) (.lst es))/\RcNeAt A s (.ref a) (.ref b) (!(eqD (.lst ds) (.lst es))):=by
     by_cases hl:ds.length=es.length
     ·have hsz:its.toArray.size=its2.toArray.size:=by rw[hs.1,hs.2];exact hl
      have it:=item hd' he' rl rl' rv rv2;have t1:=RcAt.lists (e:=eqN ds es) pt.isList pt2.isList hsz hu0 it;have t2:=RcNeAt.lists (e:=eqN ds es) pt.isList pt2.isList hsz hu0 it;rw[hs.1,<-uR hl]at t1 t2;exact⟨by simpa only[eqD]using t1,by simpa only[eqD]using t2⟩
     ·have hsz:(its.toArray.size != its2.toArray.size)=true:=by rw[hs.1,hs.2];simpa using hl
      have e0:eqD (.lst ds) (.lst es)=false:=by
       simp only[eqD];cases q:dD ds es with
       |false=>rfl
       |true=>exact absurd (p8 q) hl
      rw[e0];exact⟨RcAt.lists_lengths pt.isList pt2.isList hsz hu0,RcNeAt.lists_lengths pt.isList pt2.isList hsz hu0⟩
    exact⟨both rfl rfl rc.1,rc⟩
   |tup es =>
    obtain⟨b,ws,rfl,sq',rl'⟩:=id r2;cases q2;obtain⟨its2,rv2,pt2,_⟩:=I.tuple sq';simp only[eqD];exact⟨EqAt.list_tuple pt.isList pt2 hu0,RcAt.list_tuple pt.isList pt2 hu0,RcNeAt.list_tuple pt.isList pt2 hu0⟩
   |non=>obtain rfl:=r2.at q2;simp only[eqD];exact⟨EqAt.list_none pt.isList hu0,RcAt.list_none pt.isList hu0,RcNeAt.list_none pt.isList hu0⟩
   |bl b=>obtain rfl:=r2.at q2;simp only[eqD];exact⟨EqAt.list_bool _ pt.isList hu0,RcAt.list_bool _ pt.isList hu0,RcNeAt.list_bool _ pt.isList hu0⟩
   |int b=>obtain⟨t,rfl⟩:=r2.at q2;simp only[eqD];exact⟨EqAt.list_int _ _ pt.isList hu0,RcAt.list_int _ _ pt.isList hu0,RcNeAt.list_int _ _ pt.isList hu0⟩
   |str b=>obtain⟨t,rfl⟩:=r2.at q2;simp only[eqD];exact⟨EqAt.list_str _ _ pt.isList hu0,RcAt.list_str _ _ pt.isList hu0,RcNeAt.list_str _ _ pt.isList hu0⟩
   |_=>simp[dLe]at he
  |non =>
   cases e with
   |tup es =>
    obtain⟨b,ws,rfl,sq',rl'⟩:=id r2;cases q2;obtain⟨its2,rv2,pt2,_⟩:=I.tuple sq';obtain rfl:=r1.at q1;simp only[eqD];exact⟨EqAt.none_tuple pt2 hu0,RcAt.none_tuple pt2 hu0,RcNeAt.none_tuple pt2 hu0⟩
   |lst es =>
    obtain⟨b,ws,rfl,sq',rl'⟩:=id r2;cases q2;obtain⟨its2,rv2,pt2,_⟩:=I.list (SqL.of sq');obtain rfl:=r1.at q1;simp only[eqD];exact⟨EqAt.none_list pt2.isList hu0,RcAt.none_list pt2.isList hu0,RcNeAt.none_list pt2.isList hu0⟩
   |_=>first|(simp[dLe]at he;done)|exact ih (A:=A) (by lia) (by simp[dLe]) (by simp[dLe]) r1 r2 q1 q2
  |bl a =>
   cases e with
   |tup es =>
    obtain⟨b,ws,rfl,sq',rl'⟩:=id r2;cases q2;obtain⟨its2,rv2,pt2,_⟩:=I.tuple sq';obtain rfl:=r1.at q1;simp only[eqD];exact⟨EqAt.bool_tuple _ pt2 hu0,RcAt.bool_tuple _ pt2 hu0,RcNeAt.bool_tuple _ pt2 hu0⟩
   |lst es =>
    obtain⟨b,ws,rfl,sq',rl'⟩:=id r2;cases q2;obtain⟨its2,rv2,pt2,_⟩:=I.list (SqL.of sq');obtain rfl:=r1.at q1;simp only[eqD];exact⟨EqAt.bool_list _ pt2.isList hu0,RcAt.bool_list _ pt2.isList hu0,RcNeAt.bool_list _ pt2.isList hu0⟩
   |_=>first|(simp[dLe]at he;done)|exact ih (A:=A) (by lia) (by simp[dLe]) (by simp[dLe]) r1 r2 q1 q2
  |int a =>
   cases e with
   |tup es =>
    obtain⟨b,ws,rfl,sq',rl'⟩:=id r2;cases q2;obtain⟨its2,rv2,pt2,_⟩:=I.tuple sq';obtain⟨t,rfl⟩:=r1.at q1;simp only[eqD];exact⟨EqAt.int_tuple _ _ pt2 hu0,RcAt.int_tuple _ _ pt2 hu0,RcNeAt.int_tuple _ _ pt2 hu0⟩
   |lst es =>
    obtain⟨b,ws,rfl,sq',rl'⟩:=id r2;cases q2;obtain⟨its2,rv2,pt2,_⟩:=I.list (SqL.of sq');obtain⟨t,rfl⟩:=r1.at q1;simp only[eqD];exact⟨EqAt.int_list _ _ pt2.isList hu0,RcAt.int_list _ _ pt2.isList hu0,RcNeAt.int_list _ _ pt2.isList hu0⟩
   |_=>first|(simp[dLe]at he;done)|exact ih (A:=A) (by lia) (by simp[dLe]) (by simp[dLe]) r1 r2 q1 q2
  |str a =>
   cases e with
   |tup es =>
    obtain⟨b,ws,rfl,sq',rl'⟩:=id r2;cases q2;obtain⟨its2,rv2,pt2,_⟩:=I.tuple sq';obtain⟨t,rfl⟩:=r1.at q1;simp only[eqD];exact⟨EqAt.str_tuple _ _ pt2 hu0,RcAt.str_tuple _ _ pt2 hu0,RcNeAt.str_tuple _ _ pt2 hu0⟩
   |lst es =>
    obtain⟨b,ws,rfl,sq',rl'⟩:=id r2;cases q2;obtain⟨its2,rv2,pt2,_⟩:=I.list (SqL.of sq');obtain⟨t,rfl⟩:=r1.at q1;simp only[eqD];exact⟨EqAt.str_list _ _ pt2.isList hu0,RcAt.str_list _ _ pt2.isList hu0,RcNeAt.str_list _ _ pt2.isList hu0⟩
   |_=>first|(simp[dLe]at he;done)|exact ih (A:=A) (by lia) (by simp[dLe]) (by simp[dLe]) r1 r2 q1 q2
  |_=>simp[dLe]at hd
end
section
variable{X:Cx}{a b c e:J5}{es:List J5}{te ta tb:TEd}{pos:Pos}{st:ab2}{br:List ab2}{t u:TSd}
def wj:TSd:=fun E Δ M=>E.nx Δ M
def CN(t u:TSd):TSd:=fun E Δ M=>t { E with nx:=u E } Δ M
def D1(te:TEd):TSd:=fun E Δ M=>te Δ M E.rt
def vQ(te:TEd):TSd:=fun E Δ M=>te Δ M fun _ M1=>E.nx Δ M1
def BS(c:TTd) (t u:TSd):TSd:=fun E Δ M=>c Δ M fun b M1=>if b=true then t E Δ M1 else u E Δ M1
def v7(i:Nat) (te:TEd):TSd:=fun E Δ M=>te Δ M fun d M1=>E.nx (Δ.set i (some d)) M1
def CF(i:Nat) (te:TEd) (r:D->D->Option D):TSd:=fun E Δ M=>∃x,Δ[i]?=some (some x)/\te Δ M fun y M1=>∃z,r (rdM M1 x) (rdM M1 y)=some z/\E.nx (Δ.set i (some z)) M1
def wV(i:Nat) (t:TSd):TSd:=fun E Δ M=>∃a ds,Δ[i]?=some (some (.ref a))/\M a=some (.lst ds)/\t E (Δ.set i (some (.lst ds))) (iC M a)
abbrev GD:=D->DE->Option DE
def PGd(X:Cx) (tg:J5) (g:GD):Prop:=∃gv:TG,PG X tg gv/\∀(d:D) (v:V) (σ:St) (Δ Δ':DE) (M:DH) (H:Hp) (Q:St->Hp->Prop),SR X.K M H σ Δ->HR X.K M H->Rep X.K M H d v->g d Δ=some Δ'->(∀ σ',SR X.K M H σ' Δ'->Q σ' H)->gv v σ H Q
def bL(i:Nat):GD:=fun d Δ=>some (Δ.set i (some d))
theorem bu{i:Nat}{x:Str}(hN:X.N.Nodup) (hi:X.N[i]?=some x) (hx:Loc X.env.scope x) (hf:X.fn x=true∨X.env.scope.names.lookup x=some .local:=by first|exact .inl rfl|exact .inr rfl|assumption):PGd X (.Name x pos) (bL i) :=
 ⟨lS i,j8 hN hi hx hf,fun d v σ Δ Δ' M H Q sr hr rv e k=>by cases e;exact k _ (sr.set i rv)⟩
abbrev GDs:=List D->DE->Option DE
def xT(X:Cx) (tgs:List J5) (g:GDs):Prop:=∃gv:TGs,PGs X tgs gv/\∀(ds:List D) (vs:List V) (σ:St) (Δ Δ':DE) (M:DH) (H:Hp) (Q:St->Hp->Prop),SR X.K M H σ Δ->HR X.K M H->ar X.K M H ds vs->g ds Δ=some Δ'->(∀ σ',SR X.K M H σ' Δ'->Q σ' H)->gv vs σ H Q
def mI:GDs:=fun ds Δ=>match ds with|[]=>some Δ|_=>none
def fo(g:GD) (gs:GDs):GDs:=fun ds Δ=>match ds with|[]=>none|d::r=>(g d Δ).bind fun Δ1=>gs r Δ1
def jF(g:GDs) (n:Nat):GD:=fun d Δ=>match d with|.tup ds=>if ds.length=n then g ds Δ else none|_=>none
theorem nj:xT X [] mI:=⟨A6,ou,fun ds vs σ Δ Δ' M H Q sr hr rv e k=>by
 cases ds with
 |nil=>simp only[ar]at rv;subst rv;cases e;exact⟨rfl,k _ sr⟩
 |cons _ _=>cases e⟩
theorem dh{tg:J5}{tgs:List J5}{g:GD}{gs:GDs}(h1:PGd X tg g) (h2:xT X tgs gs)
  (hs:(N1 (tg::tgs) X.env).map (·.2)=U6 tg X.env::(N1 tgs X.env).map (·.2):=by rfl):xT X (tg::tgs) (fo g gs):=by
 obtain⟨g1,p1,k1⟩:=h1;obtain⟨g2,p2,k2⟩:=h2;refine⟨wG g1 g2,h8 p1 p2 hs,fun ds vs σ Δ Δ' M H Q sr hr rv e k=>?_⟩;cases ds with
 |nil=>cases e
 |cons d r =>
  simp only[ar]at rv;obtain⟨v,ws,rfl,h3,h4⟩:=rv;simp only[fo]at e;cases q:g d Δ with
  |none=>rw[q]at e;cases e
  |some Δ1 =>
   rw[q]at e;exact⟨v,ws,rfl,k1 d v σ Δ Δ1 M H _ sr hr h3 q fun σ1 sr1=>k2 r ws σ1 Δ1 Δ' M H Q sr1 hr h4 e k⟩
theorem mL{tgs:List J5}{kx:Nat}{g:GDs}{n:Nat}(hc:X.calm=true) (h:xT X tgs g) (hn:(N1 tgs X.env).length=n:=by rfl) (hst:(N1 tgs X.env).findIdx? (·.1)=none:=by rfl):PGd X (.Tuple tgs kx pos) (jF g n):=by
 obtain⟨g1,p1,k1⟩:=h;refine⟨BH X.K n g1,rA hc p1 hn hst,fun d v σ Δ Δ' M H Q sr hr rv e k=>?_⟩;cases d with
 |tup ds =>
  simp only[jF]at e
  by_cases hl:ds.length=n
  ·rw[if_pos hl]at e;simp only[Rep]at rv;obtain⟨a,vs,rfl,ta,rl⟩:=rv;exact⟨a,vs,rfl,ta.sq,by rw[<-rl.length];exact hl,k1 ds vs σ Δ Δ' M H Q sr hr rl e k⟩
  ·rw[if_neg hl]at e;cases e
 |_=>cases e
def DN(te:TEd) (g:GD):TSd:=fun E Δ M=>te Δ M fun d M1=>∃ Δ',g d Δ=some Δ'/\E.nx Δ' M1
abbrev TId:=DE->DH->(List D->DH->Prop)->Prop
def ItD(K:o0) (J:It) (ds:List D) (M1:DH) (H1:Hp):Prop:=∀M2 H2,Ext M1 H1 M2 H2->HR K M2 H2->∀i,(∀d,ds[i]?=some d->J.go i H2/\∀x H',J.yld i H2 x H'->Ext M2 H2 M2 H'/\HR K M2 H'/\Rep K M2 H' d x)/\(ds.length<=i->J.stop i H2)
def upI(K:o0) (wi:TId):TI:=fun σ H R=>∃(Δ:DE) (M:DH) (R':List D->DH->Prop),SR K M H σ Δ/\HR K M H/\wi Δ M R'/\∀ds M1 J H1,R' ds M1->Ext M H M1 H1->HR K M1 H1->ItD K J ds M1 H1->R J H1
theorem upI.el{K:o0}{t:TId}{σ:St}{H:Hp}{Q:It->Hp->Prop}{P:Prop}(h:upI K t σ H Q) (f:∀(Δ:DE) (M:DH) (R:List D->DH->Prop),SR K M H σ Δ->HR K M H->t Δ M R->(∀ds M1 J H1,R ds M1->Ext M H M1 H1->HR K M1 H1->ItD K J ds M1 H1->Q J H1)->P):P:=by
 obtain⟨x1,x2,x3,a,b,c,d⟩:=h;exact f x1 x2 x3 a b c d
def PId(X:Cx) (tg iter:J5) (wi:TId):Prop:=PI X tg iter (upI X.K wi)
theorem PI.conv{tg iter:J5}{w w':TI}(h:PI X tg iter w) (k:∀ σ H R,w' σ H R->w σ H R):PI X tg iter w':=fun p s σ H R I q=>h p s σ H R I (k σ H R q)
variable{tg iter:J5}
def i5(lo:Int) (n:Nat):List D:=(T6 n).map fun(k:Nat)=>.int (lo+(k:Int))
theorem cF{lo:Int}{n i:Nat}{d:D}(h:(i5 lo n)[i]?=some d):i<n/\d=.int (lo+i):=by
 unfold i5 at h;rw[P9]at h
 by_cases hi:i<n
 ·rw[List.getElem?_range hi]at h;cases h;exact⟨hi,rfl⟩
 ·rw[List.getElem?_eq_none (by simp;omega)]at h;cases h
theorem zo{K:o0}{lo:Int}{n:Nat}{M1:DH}{H1:Hp}:ItD K (Itr lo n) (i5 lo n) M1 H1:=fun M2 H2 e2 hr2 i=>⟨fun d hd=>by
  obtain⟨h1,rfl⟩:=cF hd;refine⟨h1,fun x H' ⟨eH,y⟩=>?_⟩;subst eH;subst y;exact⟨Ext.refl _ _,hr2,by simp[Rep]⟩,fun hl=>by
  show n<=i;simpa[i5]using hl⟩
def xo(ta:TAd):TId:=fun Δ M R=>ta Δ M fun ds M1=>∃j:Int,ds=[.int j]/\-(2 ^ 62)<=j/\j<2 ^ 62/\R (i5 0 j.toNat) M1
def cR(g:GD) (tb:TSd) (E:fF):List D->DE->DH->Prop
 |[],Δ,M=>E.nx Δ M
 |d::ds,Δ,M=>∃ Δ',g d Δ=some Δ'/\tb { E with nx:=cR g tb E ds,ct:=cR g tb E ds,bk:=E.nx } Δ' M
def D3(wi:TId) (g:GD) (tb:TSd):TSd:=fun E Δ M=>wi Δ M fun ds M1=>cR g tb E ds Δ M1
def vL(c:TTd) (tb:TSd):TSd:=fun E Δ M=>∃W:Nat->DE->DH->Prop,(∃m,W m Δ M)/\∀m Δ M,W m Δ M->c Δ M fun b M1=>if b=true then tb { E with nx:=fun Δ' M'=>∃m',m'<m/\W m' Δ' M',ct:=fun Δ' M'=>∃m',m'<m/\W m' Δ' M',bk:=E.nx } Δ M1 else E.nx Δ M1
end
def sA:D->Prop
 |.tup ds=>ds.length<=F2
 |.lst ds=>ds.length<=F2
 |.scr ds=>ds.length<=F2
 |_=>True
section
variable{X:Cx}{a b c e:J5}{es:List J5}{te ta tb:TEd}{pos:Pos}{tg iter elt:J5}
theorem aR.len{K:o0}{ag:List (F9×Obj)}{σ:St}{H:Hp}{s:F0}{M:DH}{d:D}{v:V}(I:Inv X ag σ H s) (h:Rep X.K M H d v):sA d:=by
 cases d with
 |tup ds =>
  simp only[Rep]at h;obtain⟨a,vs,e,t,r⟩:=h;obtain⟨_,_,_,z⟩:=I.tuple t.sq;simp only[sA];rw[r.length];exact z
 |lst ds =>
  simp only[Rep]at h;obtain⟨a,vs,e,t,r⟩:=h;obtain⟨_,_,_,z⟩:=I.list (SqL.of t.1);simp only[sA];rw[r.length];exact z
 |scr ds =>
  simp only[Rep]at h;obtain⟨a,vs,e,t,r⟩:=h;obtain⟨_,_,_,z⟩:=I.list t.sq;simp only[sA];rw[r.length];exact z
 |_=>trivial
noncomputable def bY:List Bool->DE->DE
 |true::ms,v::σ=>v::bY ms σ
 |false::ms,_::σ=>none::bY ms σ
 |[],_::σ=>none::bY [] σ
 |_,[]=>[]
def mJ(ms:List Bool) (k:Nat) (Δ:DE):DE:=bY ms Δ++J0 k none
theorem cA:∀(ms:List Bool) (σ:DE),(bY ms σ).length=σ.length
 |true::ms,v::σ=>by simp[bY,cA ms σ]
 |false::ms,_::σ=>by simp[bY,cA ms σ]
 |[],_::σ=>by simp[bY,cA [] σ]
 |[],[]=>by simp[bY]
 |true::_,[]=>by simp[bY]
 |false::_,[]=>by simp[bY]
theorem gF:∀{ms:List Bool}{σ:DE}{i:Nat}{v:D},(bY ms σ)[i]?=some (some v)->ms[i]?=some true/\σ[i]?=some (some v)
 |true::ms,v::σ,0,x,h=>by simpa[bY]using h
 |true::ms,v::σ,i+1,x,h=>by
  have:=gF (ms:=ms) (σ:=σ) (i:=i) (v:=x) (by simpa[bY]using h);simpa using this
 |false::ms,_::σ,0,x,h=>by simp[bY]at h
 |false::ms,_::σ,i+1,x,h=>by
  have:=gF (ms:=ms) (σ:=σ) (i:=i) (v:=x) (by simpa[bY]using h);simpa using this
 |[],_::σ,0,x,h=>by simp[bY]at h
 |[],_::σ,i+1,x,h=>by
  have:=gF (ms:=[]) (σ:=σ) (i:=i) (v:=x) (by simpa[bY]using h);simpa using this
 |[],[],_,_,h=>by simp[bY]at h
 |true::_,[],_,_,h=>by simp[bY]at h
 |false::_,[],_,_,h=>by simp[bY]at h
theorem gZ:∀{ms:List Bool}{σ:St}{i:Nat}{v:V},ms[i]?=some true->σ[i]?=some (some v)->(bF ms σ)[i]?=some (some v)
 |true::ms,v::σ,0,x,h,h2=>by simpa[bF]using h2
 |true::ms,v::σ,i+1,x,h,h2=>by
  have:=gZ (ms:=ms) (σ:=σ) (i:=i) (v:=x) (by simpa using h) (by simpa using h2);simpa[bF]using this
 |false::ms,_::σ,0,x,h,h2=>by simp at h
 |false::ms,_::σ,i+1,x,h,h2=>by
  have:=gZ (ms:=ms) (σ:=σ) (i:=i) (v:=x) (by simpa using h) (by simpa using h2);simpa[bF]using this
 |[],_,_,_,h,_=>by simp at h
 |_::_,[],_,_,_,h=>by simp at h
theorem SR.comp{K:o0}{M:DH}{H:Hp}{σ:St}{Δ:DE}(ms:List Bool) (k:Nat) (h:SR K M H σ Δ):SR K M H (cZ ms k σ) (mJ ms k Δ):=by
 refine⟨by simp[cZ,mJ,bw,cA,h.1],fun i d q=>?_⟩;unfold mJ at q
 by_cases hi:i<(bY ms Δ).length
 ·rw[L8 hi]at q;obtain⟨m,e⟩:=gF q;obtain⟨v,ev,rv⟩:=h.2 i d e;refine⟨v,?_,rv⟩;have:=gZ m ev;unfold cZ;rw[L8 (by rw[bw,h.1,<-cA ms];exact hi)];exact this
 ·rw[Q6 (by lia),S9]at q
  split at q<;>cases q
def cx(g:GD) (tc:TTd) (te:TEd):List D->DE->DH->List D->(List D->DH->Prop)->Prop
 |[],_,M,acc,Q=>Q acc M
 |d::ds,Δ,M,acc,Q=>∃ Δ',g d Δ=some Δ'/\tc Δ' M fun b M1=>if b=true then te Δ' M1 fun y M2=>cx g tc te ds Δ' M2 (acc++[y]) Q else cx g tc te ds Δ' M1 acc Q
def dLc(ms:List Bool) (k:Nat) (wi:TId) (g:GD) (tc:TTd) (te:TEd):TEd:=fun Δ M Q=>wi Δ M fun ds M1=>ds.length<=F2/\cx g tc te ds (mJ ms k Δ) M1 [] fun ys M2=>Q (.lst ys) M2
def D9(X:Cx) (ifs:List J5) (t:TTd):Prop:=PIf X ifs (upT X.K t)
def CH:TTd:=fun _ M Q=>Q true M
abbrev sO(K:o0) (g:GD) (gv:TG):Prop:=∀(d:D) (v:V) (σ:St) (Δ Δ':DE) (M:DH) (H:Hp) (Q:St->Hp->Prop),SR K M H σ Δ->HR K M H->Rep K M H d v->g d Δ=some Δ'->(∀ σ',SR K M H σ' Δ'->Q σ' H)->gv v σ H Q
theorem sx{K:o0}{g:GD}{tc:TTd}{te:TEd}{gv:TG}(kg:sO K g gv) {J:It}{ds:List D}{M1:DH}{H1:Hp}(it:ItD K J ds M1 H1) (hr1:HR K M1 H1) (hz:ds.length<=F2) {R:List D->DH->Prop}{σ:St}{Δ:DE}(sr:SR K M1 H1 σ Δ) (q:cx g tc te ds Δ M1 [] R) :
  ∃(W:Nat->Nat->List V->St->Hp->Prop) (Z:List V->St->Hp->Prop),(∃m,W 0 m [] σ H1)/\lR J gv (upT K tc) (m9 (up K te)) W Z/\∀ys σ' H',Z ys σ' H'->∃M' acc,Ext M1 H1 M' H'/\HR K M' H'/\ar K M' H' acc ys/\R acc M':=by
 refine⟨fun i m ys σ' H'=>∃ Δ' M' acc,m=ds.length-i/\i<=ds.length/\Ext M1 H1 M' H'/\HR K M' H'/\SR K M' H' σ' Δ'/\ar K M' H' acc ys/\acc.length<=i/\cx g tc te (ds.drop i) Δ' M' acc R,_,
  ⟨ds.length,_,M1,[],by simp,R5 _,Ext.refl _ _,hr1,sr,ar.nil,by simp,q⟩,?_,fun _ _ _ z=>z⟩
 rintro i m ys σ2 H2 ⟨Δ2,M2,acc,rfl,hi2,e2,hr2,sr2,ra,la,f2⟩;have hl:ys.length<=F2:=by rw[<-ra.length];lia
 refine⟨hl,?_⟩;obtain⟨go,stop⟩:=it M2 H2 e2 hr2 i
 by_cases hlt:i<ds.length
 ·have hd:ds[i]?=some ds[i]:=by simp[hlt]
  obtain⟨g1,y1⟩:=go _ hd;rw[List.drop_eq_getElem_cons hlt]at f2;simp only[cx]at f2;obtain⟨Δ3,eg,f3⟩:=f2;refine .inr ⟨g1,fun x H' hy=>?_⟩;obtain⟨e3,hr3,rx⟩:=y1 x H' hy;refine kg _ x σ2 Δ2 Δ3 M2 H' _ (sr2.ext e3) hr3 rx eg fun σ3 sr3=>?_;refine⟨Δ3,M2,_,sr3,hr3,f3,fun b M4 H4 q4 e4 hr4=>?_⟩;cases b with
  |true =>
   simp only[if_true]at q4 ⊢;refine⟨Δ3,M4,_,sr3.ext e4,hr4,q4,fun y M5 v5 H5 q5 e5 hr5 rv5=>?_⟩;refine⟨ds.length-(i+1),by lia,Δ3,M5,acc++[y],rfl,hlt,((e2.trans e3).trans e4).trans e5,hr5,(sr3.ext e4).ext e5,(((ra.ext e3).ext e4).ext e5).append (ar.cons rv5 ar.nil),by simp;lia,q5⟩
  |false =>
   simp only[N4,if_false]at q4 ⊢;exact⟨ds.length-(i+1),by lia,Δ3,M4,acc,rfl,hlt,(e2.trans e3).trans e4,hr4,sr3.ext e4,(ra.ext e3).ext e4,by lia,q4⟩
 ·rw[List.drop_eq_nil_of_le (by lia)]at f2;exact .inl ⟨stop (by lia),M2,acc,e2,hr2,ra,f2⟩
theorem oo{K:o0}{wi:TId}{g:GD}{tc:TTd}{te:TEd}{gv:TG}{ms:List Bool}{kk:Nat}(kg:sO K g gv) :
  ∀ σ H Q,up K (dLc ms kk wi g tc te) σ H Q->tLc ms kk (upI K wi) gv (upT K tc) (up K te) σ H Q:=by
 rintro σ H Q ⟨Δ,M,R,sr,hr,q,k⟩;refine⟨Δ,M,_,sr,hr,q,fun ds M1 J H1 ⟨hz,q1⟩ e1 hr1 it=>?_⟩;obtain⟨W,Z,hW,hC,hZ⟩:=sx kg it hr1 hz ((sr.ext e1).comp ms kk) q1;refine⟨W,Z,hW,hC,fun ys σ' H' p z hp=>?_⟩;obtain⟨M',acc,e',hr',ra,q'⟩:=hZ _ _ _ z;refine k _ M' _ _ q' ((e1.trans e').trans (Ext.new hr' hp)) (hr'.new hp) ?_;simp only[Rep];exact⟨p,ys,rfl,⟨aF,hr'.fresh hp⟩,ra.ext (Ext.new hr' hp)⟩
variable{scope:R0}{cl:List (Str×F9)}{ms:List Bool}{aj:List Str}{ifs:List J5}
def PGa(X:Cx) (scope:R0) (cl:List (Str×F9)) (aj:List Str) (tg:J5) (g:GD):Prop:=∃gv:TG,(∀C s H ex,PG (aB X scope cl (X.N++aj) C s H ex) tg gv)/\sO X.K g gv
theorem aC{i:Nat}{x:Str}{pos:Pos}(hN:(X.N++aj).Nodup) (hi:(X.N++aj)[i]?=some x) (hx:(Z6 scope X.env).names.lookup x=some .local):PGa X scope cl aj (.Name x pos) (bL i) :=
 ⟨lS i,fun C s H ex=>j8 hN hi (.inl hx) (.inr hx),fun d v σ Δ Δ' M H Q sr hr rv e k=>by cases e;exact k _ (sr.set i rv)⟩
end
abbrev SpD:=List D->DH->(D->DH->Prop)->Prop
def spD(K:o0) (n:Nat) (S:SpD):Sp:=fun vs H Q _=>∃(ds:List D) (M:DH) (R:D->DH->Prop),ds.length=n/\ar K M H ds vs/\HR K M H/\S ds M R/\∀d M' v H',R d M'->Ext M H M' H'->HR K M' H'->Rep K M' H' d v->Q v H'
theorem sJ{K:o0}{n:Nat}{S:SpD}{vs:List V}{H:Hp}{Q:VK}{E:XK}(h:spD K n S vs H Q E):vs.length=n:=by
 obtain⟨ds,M,R,hl,r,_⟩:=h;rw[<-r.length];exact hl
def e9(N:List Str) (ds:List D):DE:=ds.map some++J0 (N.length-ds.length) none
theorem qj{K:o0}{M:DH}{H:Hp}{N:List Str}:∀{ds:List D}{vs:List V},ar K M H ds vs->SR K M H (fG N vs) (e9 N ds):=by
 intro ds vs h;have hl:=h.length;refine⟨by simp[fG,e9,hl],fun i d q=>?_⟩;unfold e9 at q
 by_cases hi:i<ds.length
 ·rw[L8 (by simpa using hi),P9]at q;cases e:ds[i]? with
  |none=>rw[e]at q;cases q
  |some d' =>
   rw[e]at q;cases q;obtain⟨v,gv,rv⟩:=h.get e;refine⟨v,?_,rv⟩;unfold fG;rw[L8 (by simp;lia),P9,gv];rfl
 ·rw[Q6 (by simpa using hi),S9]at q
  split at q<;>cases q
section
variable{P:L4}{w:P7}{K:o0}{mg:Str->Option u8}{base:K5}{f:F9}{fd:V4}
theorem Fun.okD{x qual:Str}{st:ab2}{f:F9}{fd:V4}{N ps:List Str}{k n:Nat}{S:SpD}(F:Fun K x qual st f fd) (hn:ps.length=n) (Sc:az N ps (am st))
  (hbody:∀ (cdv:u8) (A:N5) (outer:List Env) (s:F0) (H:Hp) (E:XK),cw k (A.deeper (ad0 qual (am st) s.heap.objs.size f cdv)) →
   ∃t:TSd,xi (n4 CX0 P w K mg base N qual (am st) f cdv A outer s H E).nox (cK st) t/\∀ds M R,ds.length=n->S ds M R->t { nx:=fun _ M'=>R .non M',rt:=R } (e9 N ds) M):bg P w K mg base CX0 (k+1) f fd ps (spD K n S):=by
 refine F.ok Sc (fun vs H Q E h=>by rw[hn];exact sJ h) (fun cdv A outer s H vs Q E hr h=>?_);obtain⟨t,ht,hq⟩:=hbody cdv A outer s H E hr;obtain⟨ds,M,R,hl,r,hrr,q,k'⟩:=h;refine⟨_,ht,e9 N ds,M,_,qj r,hrr,hq ds M R hl q,⟨fun Δ' M' σ' H' q' e' hr' _=>k' .non M' .non H' q' e' hr' (by simp[Rep]),fun _ _ _ _ q'=>U8 q',fun _ _ _ _ q'=>U8 q',fun d M' v H' q' e' hr' rv=>k' d M' v H' q' e' hr' rv⟩⟩
end
section
variable{X:Cx}{a b c e:J5}{es:List J5}{te ta tb:TEd}{t:TAd}{pos:Pos}
def kW(n:Nat) (S:SpD) (t:TAd):TEd:=fun Δ M Q=>t Δ M fun ds M1=>ds.length=n/\S ds M1 Q
theorem B3{k:Nat}{f:F9}{fd:V4}{ps:List Str}{n:Nat}{S:SpD}{x:Str}{p:Pos}(F:bg X.prog X.w X.K X.mg X.base CX0 k f fd ps (spD X.K n S)) (hr:cw k X.A) (hg:Gl X x) (hm:X.mg x=some (.ref f)) (hk:W5 X.K (.ref f)=true) (hb:dO X.K fd ps [])
  (ha:PAd X (e::es) t) (hdb:(x==("__debug__":Str))=false:=by decide) (he:J7 (e::es) X.env=(false,V1 e X.env)::J7 es X.env:=by rfl) (hpl:(V8 pos (J7 es X.env)).any (·.1)=false:=by rfl) :
  PEd X (.Call (.Name x p) (e::es) [] pos) (kW n S t) :=
 (yz F hr hg hm hk hb .nil D6 ha hdb he hpl).conv fun σ H Q hup => hup.el fun Δ M R sr hr q k => ⟨Δ,M,_,sr,hr,q,fun ds M1 vs H1 ⟨hl,q1⟩ e1 hr1 rv => by
  dsimp only;rw[Z0];exact⟨ds,M1,R,hl,rv,hr1,q1,fun d M' v H' q' e' hr' rv'=>k d M' v H' q' (e1.trans e') hr' rv'⟩⟩
def Ao(M1 M2:DH) (d d2:D):Prop:=d2=d∨∃a l,d=.ref a/\M1 a=some (.lst l)/\M2 a=none/\d2=.lst l
theorem pV{K:o0}{M1 M2:DH}{H:Hp}(hr:HR K M1 H) (hle:LeM M2 M1):∀{ds ds2:List D}{vs:List V},P8 (Ao M1 M2) ds ds2->ar K M1 H ds vs->ar K M2 H ds2 vs
 |_,_,_,.nil,h=>by simp only[ar]at h ⊢;exact h
 |_,_,_,.cons h1 t,h=>by
  simp only[ar]at h;obtain⟨v,ws,rfl,h3,h4⟩:=h;refine ar.cons ?_ (pV hr hle t h4);rcases h1 with rfl|⟨a,l,rfl,e1,e2,rfl⟩
  ·exact h3.ext (Ext.le hle)
  ·simp only[Rep]at h3;subst h3;exact Rep.froze hr hle e1 e2
theorem qq{M1:DH}:∀{ds:List D},P8 (Ao M1 noM) ds (ds.map (rdM M1))
 |[]=>.nil
 | d :: ds => .cons (by
   cases d with
   |ref a =>
    simp only[rdM];cases q:M1 a with
    |none=>exact .inl rfl
    |some o=>cases o with|lst l=>exact .inr ⟨a,l,rfl,q,rfl,rfl⟩|dK _=>exact .inl rfl|dT _=>exact .inl rfl|dKr _ _ _=>exact .inl rfl|ins _ _=>exact .inl rfl|ext _ _=>exact .inl rfl
   |_=>exact .inl rfl) qq
def A8(to te:TEd):TEd:=fun Δ M Q=>to Δ M fun o M1=>∃a l,o=.ref a/\M1 a=some (.lst l)/\te Δ M1 fun d M2=>∃ds,M2 a=some (.lst ds)/\ds.length<F2/\Q .non (av M2 a (.lst (ds++[d])))
end
def ItW(n:Nat) (Vp:Nat->V->Prop):It:=⟨fun i _=>i<n,fun i H x H'=>H'=H/\Vp i x,fun i _=>n<=i⟩
theorem tX{P:L4}{w:P7}{K:o0}{tg:J5}{it:F9}{n:Nat}{Pv:Nat->u8->Prop}{St:Nat->K5->Prop}{ty:String}{Vp:Nat->V->Prop}
  (W:∀A:N5,A.handled=none->Walks P w A it [it] [it] n Pv St) (ho:∀i h,St i h->∃o,h.get? it=some o/\o.cls=.type ty/\∃vs,o.data=.fields vs)
  (hn:["enumerate","zip","dict_itemiterator","dict_reverseitemiterator","odict_iterator","itertools.zip_longest","itertools.pairwise"].contains ty=false)
  (hv:∀i u,Pv i u->∃x,aE x u/\Vp i x) (hself:∀(A:N5) (i:Nat) (s:F0) (Q:u8->F0->Prop) (E:u8->F0->Prop),St i s.heap->Q (.ref it) s->J3 (K6 P w) A (pyIter (.ref it)) Q E s):iP P w K tg (ItW n Vp) [it] it (fun i h=>i<=n/\St i h) where
 mem:=by simp
 obj:=fun i h st b hb=>by
  have e:b=it:=by simpa using hb
  subst e;obtain⟨o,e,c,vs,d⟩:=ho i h st.2;exact⟨o,e,fun v z=>by rw[d]at z;cases z⟩
 keep:=fun i h h' st k=>⟨st.1,(W { handled:=none } rfl).frame i h h' st.2 k⟩
 item:=by
  intro X hP hw hK hc i ag s σ H E I hf st hg;subst hP hw hK;obtain⟨f0,f1,f2,f3,f4,f5⟩:=hf it (by simp);refine(W X.A (I.ok.hd hc)).item i s _ _ hg st.2 fun v h' tk pv st' kk=>?_;have I1:Inv X ag σ H { s with heap:=h',toks:=tk }:=I.turned (fun b o hb e=>kk b o (by simpa using hb) e) f0 f1 f3 f4 f5;obtain⟨x,rx,vx⟩:=hv i v pv;obtain⟨o,e,c,vs,d⟩:=ho _ _ st';exact⟨v,rfl,nu (s:={ s with heap:=h',toks:=tk }) e c d hn ⟨x,H,I1,rx,⟨rfl,vx⟩,⟨hg,st'⟩,fun b hb=>(hf b hb).1⟩⟩
 done:=by
  intro X hP hw hK hc i ag s σ H E I hf st hg;subst hP hw hK;obtain⟨f0,f1,f2,f3,f4,f5⟩:=hf it (by simp);have e:i=n:=Nat.le_antisymm st.1 hg;subst e;exact(W X.A (I.ok.hd hc)).done s _ _ st.2 fun h' tk kk=>⟨rfl,I.turned (fun b o hb e=>kk b o (by simpa using hb) e) f0 f1 f3 f4 f5⟩
 self:=fun A i s Q E st h=>hself A i s Q E st.2 h
section
variable{X:Cx}{a b c e:J5}{es:List J5}{te ta tb:TEd}{t:TAd}{pos:Pos}{tg iter:J5}
noncomputable def ik(x:Str):List D:=x.cps.toList.map fun c=>.str ⟨#[c]⟩
theorem sU{ag:List (F9×Obj)}{σ:St}{H:Hp}{s:F0}{x:Str}{t:Tok}{R:It->Hp->Prop}(I:Inv X ag σ H s) (ty:String) (hn:["enumerate","zip","dict_itemiterator","dict_reverseitemiterator","odict_iterator","itertools.zip_longest","itertools.pairwise"].contains ty=false)
  (W:∀A:N5,A.handled=none->Walks X.prog X.w A s.heap.objs.size [s.heap.objs.size] [s.heap.objs.size] x.cps.size (SignAt x) (fun i h=>h.IsStrIter s.heap.objs.size ty x t i))
  (hself:∀(A:N5) (i:Nat) (s':F0) (Q:u8->F0->Prop) (E:u8->F0->Prop),s'.heap.IsStrIter s.heap.objs.size ty x t i->Q (.ref s.heap.objs.size) s'->J3 (K6 X.prog X.w) A (pyIter (.ref s.heap.objs.size)) Q E s')
  (q:R (ItW x.cps.size fun i v=>∃c,x.cps[i]?=some c/\v=.str ⟨#[c]⟩) H):PIE X ag σ tg R (.ref s.heap.objs.size) { s with heap:=s.heap.push { cls:=.type ty,data:=.fields #[.str x t,.int 0 0] } }:=by
 have I1:Inv X ag σ H { s with heap:=s.heap.push { cls:=.type ty,data:=.fields #[.str x t,.int 0 0] } }:=I.kept (t':=s.toks) fun b o e=>F1 _ e;refine⟨s.heap.objs.size,[s.heap.objs.size],_,_,H,rfl,I1,tX W (fun i h st=>?_) hn (fun i u ⟨c,t',e,ev⟩=>⟨.str ⟨#[c]⟩,⟨t',ev⟩,c,e,rfl⟩) hself,⟨R5 _,_,F6 _ rfl,rfl,rfl⟩,fun b hb=>?_,q⟩
 ·obtain⟨o,e,c,d⟩:=st;exact⟨o,e,c,_,d⟩
 ·have e:b=s.heap.objs.size:=by simpa using hb
  subst e;exact I.fpOk (F7 _) (I.hok.fresh (F7 _))
end
section
variable{X:Cx}{a b c e:J5}{es:List J5}{te ta tb:TEd}{t:TAd}{pos:Pos}
def eqF(x y:D):Option D:=if dLe x 60=true/\dLe y 60=true then some (.bl (eqD x y))else none
theorem vB{x y z:D}(h:eqF x y=some z):dLe x 60=true/\dLe y 60=true/\z=.bl (eqD x y):=by
 unfold eqF at h
 by_cases hc:dLe x 60=true/\dLe y 60=true
 ·rw[if_pos hc]at h;cases h;exact⟨hc.1,hc.2,rfl⟩
 ·rw[if_neg hc]at h;cases h
theorem jR(hu:X.A.units+64<aa9):bT X (N0 .Eq) eqF:=by
 intro ag s σ H M x y v u dx dy dz Q I hr rx ry r1 r2 e k;obtain⟨h1,h2,rfl⟩:=vB e;exact(qU I 60 (A:=X.A) (by lia) h1 h2 r1 r2 rx ry).2.1 X.prog X.w X.xe _ ⟨.bl (eqD dx dy),H,I,rfl,k _ H (Ext.refl _ _) hr (by simp[Rep])⟩
def inD(neg:Bool) (x y:D):Option D:=match y with
 |.lst ds=>if bh x=true/\ds.all bh=true then some (.bl (xor neg (ds.any fun d=>eqD d x)))else none
 |.tup ds=>if bh x=true/\ds.all bh=true then some (.bl (xor neg (ds.any fun d=>eqD d x)))else none
 |_=>none
theorem A5{K:o0}{M:DH}{H:Hp}{d:D}{v:V}(h:bh d=true) (r:Rep K M H d v):v=toV d/\fT v=true:=by
 cases d<;>first|(simp only[Rep]at r;subst r;exact⟨rfl,rfl⟩)|cases h
theorem xR{x y:D}(hx:bh x=true) (hy:bh y=true):eqV (toV x) (toV y)=eqD x y:=by
 cases x<;>cases y<;>first|(simp[bh]at hx;done)|(simp[bh]at hy;done)|(simp[toV,eqV,eqD];done)
theorem gc{K:o0}{M:DH}{H:Hp}{x:D}(hx:bh x=true):∀{ds:List D}{vs:List V},ar K M H ds vs->ds.all bh=true->vs.all fT=true/\inV (toV x) vs=ds.any fun d=>eqD d x
 |[],_,h,_=>by simp only[ar]at h;subst h;simp[inV]
 |d::ds,_,h,ha=>by
  simp only[ar]at h;obtain⟨v,ws,rfl,h3,h4⟩:=h;rw[V7,K1]at ha;obtain⟨e1,e2⟩:=A5 ha.1 h3;obtain⟨e3,e4⟩:=gc hx h4 ha.2;subst e1;refine⟨by rw[V7,e2,e3];rfl,?_⟩;unfold inV at e4 ⊢;rw[P2,P2,e4,xR ha.1 hx]
theorem aR.scal{K:o0}{M:DH}{H:Hp}{d:D}{v:V}(h:bh d=true) (r:aR K M H d v):v=toV d/\fT v=true:=by
 cases d<;>first|(simp only[aR,Rep]at r;subst r;exact⟨rfl,rfl⟩)|cases h
theorem Es:bT X (N0 .In) (inD false):=bT.of uD fun H M x y dx dy dz Q hr r1 r2 e q=>by
 cases dy with
 |lst ds =>
  simp only[inD]at e
  by_cases hc:bh dx=true/\ds.all bh=true
  ·rw[if_pos hc]at e;cases e;obtain⟨l,vs,rfl,sq,rl⟩:=r2;obtain⟨e1,e2⟩:=aR.scal hc.1 r1;obtain⟨e3,e4⟩:=gc hc.1 rl hc.2;subst e1;refine⟨l,vs,rfl,.inl (SqL.of sq),e2,e3,q _ H (Ext.refl _ _) hr ?_⟩;rw[e4];simp[Rep]
  ·rw[if_neg hc]at e;cases e
 |tup ds =>
  simp only[inD]at e
  by_cases hc:bh dx=true/\ds.all bh=true
  ·rw[if_pos hc]at e;cases e;obtain⟨l,vs,rfl,sq,rl⟩:=r2;obtain⟨e1,e2⟩:=aR.scal hc.1 r1;obtain⟨e3,e4⟩:=gc hc.1 rl hc.2;subst e1;refine⟨l,vs,rfl,.inr sq,e2,e3,q _ H (Ext.refl _ _) hr ?_⟩;rw[e4];simp[Rep]
  ·rw[if_neg hc]at e;cases e
 |_=>cases e
theorem zA:bT X (N0 .NotIn) (inD true):=bT.of oB fun H M x y dx dy dz Q hr r1 r2 e q=>by
 cases dy with
 |lst ds =>
  simp only[inD]at e
  by_cases hc:bh dx=true/\ds.all bh=true
  ·rw[if_pos hc]at e;cases e;obtain⟨l,vs,rfl,sq,rl⟩:=r2;obtain⟨e1,e2⟩:=aR.scal hc.1 r1;obtain⟨e3,e4⟩:=gc hc.1 rl hc.2;subst e1;refine⟨l,vs,rfl,.inl (SqL.of sq),e2,e3,q _ H (Ext.refl _ _) hr ?_⟩;rw[e4];simp[Rep]
  ·rw[if_neg hc]at e;cases e
 |tup ds =>
  simp only[inD]at e
  by_cases hc:bh dx=true/\ds.all bh=true
  ·rw[if_pos hc]at e;cases e;obtain⟨l,vs,rfl,sq,rl⟩:=r2;obtain⟨e1,e2⟩:=aR.scal hc.1 r1;obtain⟨e3,e4⟩:=gc hc.1 rl hc.2;subst e1;refine⟨l,vs,rfl,.inr sq,e2,e3,q _ H (Ext.refl _ _) hr ?_⟩;rw[e4];simp[Rep]
  ·rw[if_neg hc]at e;cases e
 |_=>cases e
def uP(f:D->Option D):List D->Option D
 |[d]=>f d
 |_=>none
theorem tJ{K:o0}{M:DH}{H:Hp}{d:D}{xs:List V}(h:P8 (aR K M H) [d] xs):∃v,xs=[v]/\aR K M H d v:=by
 cases h with
 |cons r t=>cases t;exact⟨_,rfl,r⟩
theorem gH{f:D->Option D}{ds:List D}{z:D}(h:uP f ds=some z):∃d,ds=[d]/\f d=some z:=by
 match ds,h with
 |[d],h=>exact⟨d,rfl,h⟩
noncomputable def tW:D->Option D
 |.tup ds=>some (.int ds.length)
 |.lst ds=>some (.int ds.length)
 |.scr ds=>some (.int ds.length)
 |.str x=>if x.length<=F2 then some (.int x.length)else none
 |_=>none
theorem bS:bZ X (.builtin "len") (uP tW):=bZ.of (dR.or oI oK) fun H M xs ds dz Q hr rp e q=>by
 obtain⟨d,rfl,e0⟩:=gH e;clear e;have e:=e0;clear e0;obtain⟨v,rfl,r⟩:=tJ rp;cases d with
 |tup ds=>cases e;obtain⟨l,vs,rfl,sq,rl⟩:=r;exact .inl ⟨l,vs,rfl,.inr sq,q _ H (Ext.refl _ _) hr (by rw[<-rl.length];simp[Rep])⟩
 |lst ds=>cases e;obtain⟨l,vs,rfl,sq,rl⟩:=r;exact .inl ⟨l,vs,rfl,.inl (SqL.of sq),q _ H (Ext.refl _ _) hr (by rw[<-rl.length];simp[Rep])⟩
 |scr ds=>cases e;obtain⟨l,vs,rfl,sq,rl⟩:=r;exact .inl ⟨l,vs,rfl,.inl sq,q _ H (Ext.refl _ _) hr (by rw[<-rl.length];simp[Rep])⟩
 |str x =>
  simp only[tW]at e
  by_cases hz:x.length<=F2
  ·rw[if_pos hz]at e;cases e;exact .inr ⟨x,by rw[mh r],hz,q _ H (Ext.refl _ _) hr (by simp[Rep])⟩
  ·rw[if_neg hz]at e;cases e
 |_=>cases e
def EO:D->Option D
 |.int i=>some (.int (if i<0 then -i else i))
 |_=>none
def Bq:D->Option D
 |.lst ds=>some (.tup ds)
 |.tup ds=>some (.tup ds)
 |_=>none
theorem cX:bZ X (.type "tuple") (uP Bq):=bZ.of mw fun H M xs ds dz Q hr rp e q=>by
 obtain⟨d,rfl,e0⟩:=gH e;clear e;have e:=e0;clear e0;obtain⟨v,rfl,r⟩:=tJ rp;cases d with
 |lst ds=>cases e;obtain⟨l,vs,rfl,sq,rl⟩:=r;exact⟨l,vs,rfl,.inl ⟨SqL.of sq,fun p hp=>jd hr hp rl q⟩⟩
 |tup ds=>cases e;have t1:=aR.tup hr r;obtain⟨l,vs,rfl,sq,rl⟩:=r;exact⟨l,vs,rfl,.inr ⟨sq,q _ H (Ext.refl _ _) hr t1⟩⟩
 |_=>cases e
end
section
variable{X:Cx}{a b c e:J5}{es:List J5}{te ta tb:TEd}{t:TAd}{pos:Pos}
noncomputable def EL(T:String):D->Option Bool
 |.non=>some false
 |.bl _=>some (T=="bool" || T=="int")
 |.int _=>some (T=="int")
 |.str _=>some (T=="str")
 |.tup _=>some (T=="tuple")
 |.lst _=>some (T=="list")
 |.emp=>some (T=="dict")
 |_=>none
abbrev TOd:=DE->DH->(Option Int->DH->Prop)->Prop
def upO(K:o0) (t:TOd):TO:=fun σ H Q=>∃(Δ:DE) (M:DH) (R:Option Int->DH->Prop),SR K M H σ Δ/\HR K M H/\t Δ M R/\∀i M' H',R i M'->Ext M H M' H'->HR K M' H'->Q i H'
theorem upO.el{K:o0}{t:TOd}{σ:St}{H:Hp}{Q:Option Int->Hp->Prop}{P:Prop}(h:upO K t σ H Q) (f:∀(Δ:DE) (M:DH) (R:Option Int->DH->Prop),SR K M H σ Δ->HR K M H->t Δ M R->(∀i M' H',R i M'->Ext M H M' H'->HR K M' H'->Q i H')->P):P:=by
 obtain⟨x1,x2,x3,a,b,c,d⟩:=h;exact f x1 x2 x3 a b c d
def POd(X:Cx) (e:Option J5) (t:TOd):Prop:=PO X e (upO X.K t)
def nW:TOd:=fun _ M Q=>Q none M
def wC(t:TEd):TOd:=fun Δ M Q=>t Δ M fun d M1=>∃i,d=.int i/\Q (some i) M1
theorem PO.conv{e:Option J5}{t t':TO}(h:PO X e t) (k:∀ σ H Q,t' σ H Q->t σ H Q):PO X e t':=fun p s σ H Q I q=>h p s σ H Q I (k σ H Q q)
theorem zj:POd X none nW:=yT.conv fun σ H Q hup=>hup.el fun Δ M R sr hr q k=>k none M H q (Ext.refl _ _) hr
theorem xY(h:PEd X e te):POd X (some e) (wC te):=(ya h).conv fun σ H Q hup=>hup.el fun Δ M R sr hr q k=>⟨Δ,M,_,sr,hr,q,fun d M1 v H1 ⟨i,ed,q1⟩ e1 hr1 rv=>⟨i,by subst ed;simpa only[Rep]using rv,k _ M1 H1 q1 e1 hr1⟩⟩
def du(xs:List D) (lo hi:Option Int):List D:=(xs.drop (HT.sIx xs.length 0 lo)).take (HT.sIx xs.length xs.length hi-HT.sIx xs.length 0 lo)
def slD:D->Option Int->Option Int->Option D
 |.lst ds,lo,hi=>some (.lst (du ds lo hi))
 |.scr ds,lo,hi=>some (.lst (du ds lo hi))
 |.str x,lo,hi=>if x.length<=F2 then some (.str (ab4 x lo hi))else none
 |.tup ds,lo,hi=>if HT.sIx ds.length 0 lo=0/\HT.sIx ds.length ds.length hi=ds.length then none else some (.tup (du ds lo hi))
 |_,_,_=>none
def EC:V->Option Int->Option Int->Hp->VK->Prop:=fun x lo hi H Q=>∃z,x=.str z/\z.length<=F2/\Q (.str (ab4 z lo hi)) H
theorem BW:SlR X EC:=by
 intro ag s σ H x v vl vu lo hi sl Q I rx hs pl pu h;obtain⟨z,rfl,hz,q⟩:=h;obtain⟨t,rfl⟩:=rx;refine⟨"str",_,PySem.F.slot_str_getitem.lookup,typeIs_str _ _ _,?_⟩;have fin:∀(t':Tok) (k:Nat),EP X ag σ Q (.str (ab4 z lo hi) t') { s with toks:=k }:=fun t' k=>⟨.str (ab4 z lo hi),H,I.tok _,⟨t',rfl⟩,q⟩;cases pl with
 |none =>
  cases pu with
  |none=>exact T0 (l:=none) (u:=none) (st:=none) hs rfl (Z7 ⟨L5 (ab5 z _ _) hz,fin⟩)
  |int j tj=>exact T0 (l:=none) (u:=some (j,tj)) (st:=none) hs rfl (Z7 ⟨L5 (ab5 z _ _) hz,fin⟩)
 |int i ti =>
  cases pu with
  |none=>exact T0 (l:=some (i,ti)) (u:=none) (st:=none) hs rfl (Z7 ⟨L5 (ab5 z _ _) hz,fin⟩)
  |int j tj=>exact T0 (l:=some (i,ti)) (u:=some (j,tj)) (st:=none) hs rfl (Z7 ⟨L5 (ab5 z _ _) hz,fin⟩)
end
def bH(names:List (Str×J9)) (cells:List (Str×F9)):List (Str×F9):=(names.filterMap fun y=>if y.2==.free then(cells.lookup y.1).map fun c=>(y.1,c)else none).reverse
noncomputable def eV(env:Env) (y:Str×J9) (cs:List (Str×F9)):Sem (ForInStep (List (Str×F9))):=if(y.2==.free)=true then(do let c <-cellOf env y.1;V9 (O8 ((y.1,c)::cs)))else V9 (O8 cs)
theorem jh{env:Env}:∀(names:List (Str×J9)) (acc:List (Str×F9)),(∀y∈names,y.2=.free->(env.cells.lookup y.1).isSome=true) ->
  (forIn names acc (eV env):Sem (List (Str×F9)))=V9 (bH names env.cells++acc)
 |[],acc,_=>by simp[bH]
 |y::r,acc,h=>by
  rw[List.forIn_cons]
  by_cases hk:(y.2==K7)=true
  ·have hs:=h y L9 (by simpa using hk);obtain⟨c,hc⟩:=O4.mp hs;have e1:eV env y acc=V9 (O8 ((y.1,c)::acc)):=by
    unfold eV cellOf;rw[if_pos hk,hc];simp only[ae2]
   rw[e1];simp only[ae2];rw[jh r ((y.1,c)::acc) fun y hy=>h y (K8 _ hy)];have e2:bH (y::r) env.cells=bH r env.cells++[(y.1,c)]:=by
    unfold bH;rw[Q3,if_pos hk,hc];simp
   rw[e2];simp
  ·have e1:eV env y acc=V9 (O8 acc):=by
    unfold eV;rw[if_neg hk]
   rw[e1];simp only[ae2];rw[jh r acc fun y hy=>h y (K8 _ hy)];have e2:bH (y::r) env.cells=bH r env.cells:=by
    unfold bH;rw[Q3,if_neg hk]
   rw[e2]
theorem oE{scope:R0}{env:Env}(h:∀y∈scope.names,y.2=.free->(env.cells.lookup y.1).isSome=true):closureFor scope env=V9 (bH scope.names env.cells):=by
 have:=jh (env:=env) scope.names [] h;simp only[Z0]at this;show(forIn scope.names [] (eV env) >>= fun cs=>V9 cs)=_;rw[this];simp only[ae2]
theorem lZ{cells:List (Str×F9)}{names:List (Str×J9)}{x:Str}{c:F9}(h:(bH names cells).lookup x=some c):cells.lookup x=some c:=by
 have hm:=K3 h;unfold bH at hm;rw[List.mem_reverse,P4]at hm;obtain⟨y,_,e⟩:=hm
 split at e
 ·cases q:cells.lookup y.1 with
  |none=>rw[q]at e;cases e
  |some c'=>rw[q]at e;cases e;exact q
 ·cases e
theorem dQ:∀{l:List (Str×F9)}{x:Str}{c:F9},(x,c)∈l->∃c',l.lookup x=some c'
 |(y,d)::l,x,c,h=>by
  rw[J8];cases q:x==y with
  |true=>exact⟨d,by simp⟩
  |false =>
   rcases N7.mp h with e|h
   ·cases e;simp at q
   ·simpa using dQ h
theorem kh{cells:List (Str×F9)}{names:List (Str×J9)}{x:Str}(h:names.lookup x=some .free) (hs:(cells.lookup x).isSome=true):∃c,(bH names cells).lookup x=some c:=by
 obtain⟨c,hc⟩:=O4.mp hs;refine dQ (c:=c) ?_;unfold bH;rw[List.mem_reverse,P4];exact⟨(x,.free),K3 h,by simp[hc]⟩
noncomputable def aQ(fs:R0) (N:List Str) (scope:R0) (ms:List Bool):Bool :=
 scope.kind==.function&&scope.names.all (fun y=>y.2 != .cell)&&scope.names.all (fun y=>y.2 != .local || scope.names.lookup y.1==some .local) &&
 scope.names.all (fun y=>y.2 != .free || fs.names.lookup y.1==some .cell)&&(ms.zip N).all (fun y=>!y.1 || scope.names.lookup y.2==some .free)&&decide (ms.length<=N.length)
theorem aK{X:Cx}{scope:R0}{ms:List Bool}{aj:List Str}{n0:Nat}(hX:X.env.cells=P0 n0 X.env.scope.names []) (c:aQ X.env.scope X.N scope ms=true):cQ X scope (bH scope.names X.env.cells) ms aj:=by
 unfold aQ at c;simp only[K1,X1,decide_eq_true_eq]at c;obtain⟨⟨⟨⟨⟨c1,c2⟩,c3⟩,c4⟩,c5⟩,c6⟩:=c;have fr:∀x,(x,K7)∈scope.names->X.env.scope.names.lookup x=some .cell:=fun x hx=>by
  have:=c4 _ hx;simpa using this
 have cs:∀x,(x,K7)∈scope.names->(X.env.cells.lookup x).isSome=true:=fun x hx=>by
  rw[hX];exact O1 _ _ _ (.inl (fr x hx))
 refine⟨by simpa using c1,fun y hy e=>?_,fun y hy e=>?_,oE fun y hy e=>?_,fun x c h=>lZ h,fun x h=>kh h (cs x (K3 h)),fun x h=>.inl (fr x (K3 h)),fun i x h1 h2=>?_,c6⟩
 ·have:=c2 y hy;rw[e]at this;simp at this
 ·have:=c3 y hy;simpa[e]using this
 ·obtain⟨a,b⟩:=y;cases e;exact cs a hy
 ·have:=c5 (true,x) (by
   rw[List.mem_iff_getElem?];exact⟨i,by rw[List.getElem?_zip_eq_some];exact⟨h1,h2⟩⟩)
  simpa using this
structure FnD(P:L4) (w:P7) (K:o0) (mg:Str->Option u8) (base:K5) (x:Str) (k n:Nat) (S:SpD):Prop where
 ex:∃(f:F9) (fd:V4) (ps:List Str),bg P w K mg base CX0 k f fd ps (spD K n S)/\mg x=some (.ref f)/\W5 K (.ref f)=true/\dO K fd ps []
section
variable{X:Cx}{e:J5}{es:List J5}{t:TAd}{pos p:Pos}{x:Str}{k n:Nat}{S:SpD}
theorem dc(F:FnD X.prog X.w X.K X.mg X.base x k n S) (hr:cw k X.A) (hg:Gl X x) (ha:PAd X (e::es) t) (hdb:(x==("__debug__":Str))=false:=by decide) (he:J7 (e::es) X.env=(false,V1 e X.env)::J7 es X.env:=by rfl) (hpl:(V8 pos (J7 es X.env)).any (·.1)=false:=by rfl) :
  PEd X (.Call (.Name x p) (e::es) [] pos) (kW n S t):=by
 obtain⟨f,fd,ps,h1,h2,h3,h4⟩:=F.ex;exact B3 h1 hr hg h2 h3 h4 ha hdb he hpl
end
section
variable{X:Cx}{a b c e:J5}{es:List J5}{te ta tb:TEd}{t:TAd}{pos:Pos}{tg iter:J5}
def z7(te:TEd):TSd:=fun E Δ M=>te Δ M fun d M1=>∃a ds,d=.ref a/\M1 a=some (.lst ds)/\E.rt (.lst ds) (iC M1 a)
theorem AH:bT X (ad8 .Add) (iOp fun i j=>some (.int (i+j))):=by
 intro ag s σ H M x y v u dx dy dz Q I hr rx ry r1 r2 e k;obtain⟨i,j,rfl,rfl,e'⟩:=lY e;cases e';exact AD ag s σ H x y v u Q I rx ry ⟨i,j,eR r1,eR r2,k _ H (Ext.refl _ _) hr (by simp[Rep])⟩
theorem xC:Ed X (unaryOp .USub) (fun d=>match d with|.int i=>some (.int (-i))|_=>none):=by
 intro ag s σ H M x v dx dz Q I hr rx r1 e k;cases dx with
 |int i=>cases e;exact AM ag s σ H x v Q I rx ⟨i,eR r1,k _ H (Ext.refl _ _) hr (by simp[Rep])⟩
 |_=>cases e
def g9:D->Option (List D)
 |.tup ds=>some ds
 |.lst ds=>some ds
 |.scr ds=>some ds
 |.str x=>if x.length<=F2 then some (ik x)else none
 |_=>none
def z6(te:TEd):TId:=fun Δ M R=>te Δ M fun d M1=>∃ds,g9 d=some ds/\(ds.length<=F2->R ds M1)
theorem oz{ag:List (F9×Obj)}{σ:St}{H:Hp}{s:F0}{o:Obj}(I:Inv X ag σ H s):∀b∈[s.heap.objs.size],cz X ag H b:=fun b hb=>by
 have e:b=s.heap.objs.size:=by simpa using hb
 subst e;exact I.fpOk (F7 _) (I.hok.fresh (F7 _))
theorem BO{K:o0}{x:Str}{M1:DH}{H1:Hp}:ItD K (ItW x.cps.size fun i v=>∃c,x.cps[i]?=some c/\v=.str ⟨#[c]⟩) (ik x) M1 H1:=fun M2 H2 e2 hr2 i=>⟨fun d hd=>by
  unfold ik at hd;rw[P9]at hd;cases q:x.cps.toList[i]? with
  |none=>rw[q]at hd;cases hd
  |some c =>
   rw[q]at hd;cases hd;have hc:x.cps[i]?=some c:=by simpa using q
   refine⟨?_,fun y H' ⟨eH,c',hc',ey⟩=>?_⟩
   ·exact(Array.getElem?_eq_some_iff.mp hc).1
   ·subst eH;subst ey;rw[hc]at hc';cases hc';exact⟨Ext.refl _ _,hr2,by simp[Rep]⟩,fun hl=>by
  show x.cps.size<=i;simpa[ik]using hl⟩
end
section
variable{M:DH}
theorem sE{i:Int}:rdM M (.int i)=.int i:=rfl
theorem BF{i:Bool}:rdM M (.bl i)=.bl i:=rfl
theorem yJ{i:Str}:rdM M (.str i)=.str i:=rfl
theorem yF:rdM M .non=.non:=rfl
theorem yu{i:List D}:rdM M (.tup i)=.tup i:=rfl
theorem yc{i:List D}:rdM M (.lst i)=.lst i:=rfl
theorem xP{i:List D}:rdM M (.scr i)=.scr i:=rfl
theorem e7{a:F9}{ds:List D}(h:M a=some (.lst ds)):rdM M (.ref a)=.lst ds:=by simp[rdM,h]
theorem zC{a:F9}{ds:List D}:rdM (av M a (.lst ds)) (.ref a)=.lst ds:=e7 ai
theorem xp{f:Int->Int->Option D}{a b:Int}:iOp f (.int a) (.int b)=f a b:=rfl
theorem yl{a b:Int}:jX (.int a) (.int b)=some (.int (a+b)):=rfl
theorem yb{a b:Str}:jX (.str a) (.str b)=if a.length+b.length<=F2 then some (.str (a++b))else none:=rfl
theorem yA{a b:List D}:jX (.lst a) (.lst b)=if a.length+b.length<=F2 then some (.lst (a++b))else none:=rfl
theorem yo{a b:List D}:jX (.tup a) (.tup b)=if a.length+b.length<=F2 then some (.tup (a++b))else none:=rfl
theorem DL{a:List D}{b:Int}:ixD (.lst a) (.int b)=atI a b:=rfl
theorem CD{a:List D}{b:Int}:ixD (.scr a) (.int b)=atI a b:=rfl
theorem Dd{a:List D}{b:Int}:ixD (.tup a) (.int b)=atI a b:=rfl
theorem wF{α:Type}{x:α}{xs:List α}:atI (x::xs) 0=some x:=dw (j:=0) rfl
theorem Af{α:Type}{x y:α}{xs:List α}:atI (x::y::xs) 1=some y:=dw (j:=1) rfl
theorem DM{α:Type}{x y z:α}{xs:List α}:atI (x::y::z::xs) 2=some z:=dw (j:=2) rfl
theorem wW{f:D->Option D}{d:D}:uP f [d]=f d:=rfl
theorem Ck{a:List D}:tW (.lst a)=some (.int a.length):=rfl
theorem AN{a:List D}:tW (.tup a)=some (.int a.length):=rfl
theorem Ay{a:List D}:tW (.scr a)=some (.int a.length):=rfl
theorem AU{x:Str}:tW (.str x)=if x.length<=F2 then some (.int x.length)else none:=rfl
theorem A9{i:Int}:EO (.int i)=some (.int (if i<0 then -i else i)):=rfl
theorem Cq{a:List D}:Bq (.lst a)=some (.tup a):=rfl
theorem BZ{a:List D}:Bq (.tup a)=some (.tup a):=rfl
theorem CV{b:Bool}{x:D}{ds:List D}:inD b x (.lst ds)=if bh x=true/\ds.all bh=true then some (.bl (xor b (ds.any fun d=>eqD d x)))else none:=rfl
theorem Ef{b:Bool}{x:D}{ds:List D}:inD b x (.tup ds)=if bh x=true/\ds.all bh=true then some (.bl (xor b (ds.any fun d=>eqD d x)))else none:=rfl
theorem AC{a b:Int}:eqF (.int a) (.int b)=some (.bl (a==b)):=by simp[eqF,dLe,eqD]
theorem Bl{a b:Str}:eqF (.str a) (.str b)=some (.bl (a==b)):=by simp[eqF,dLe,eqD]
theorem Cj{a b:Bool}:eqF (.bl a) (.bl b)=some (.bl (a==b)):=by simp[eqF,dLe,eqD]
theorem DF{ds:List D}{lo hi:Option Int}:slD (.scr ds) lo hi=some (.lst (du ds lo hi)):=rfl
theorem C9{ds:List D}{lo hi:Option Int}:slD (.lst ds) lo hi=some (.lst (du ds lo hi)):=rfl
theorem Do{x:Str}{lo hi:Option Int}:slD (.str x) lo hi=if x.length<=F2 then some (.str (ab4 x lo hi))else none:=rfl
theorem xN{a:List D}:g9 (.lst a)=some a:=rfl
theorem xH{a:List D}:g9 (.tup a)=some a:=rfl
theorem wc{a:List D}:g9 (.scr a)=some a:=rfl
theorem wD{x:Str}:g9 (.str x)=if x.length<=F2 then some (ik x)else none:=rfl
theorem CS{n:Nat}:ixN (n+1) 0=some 0:=by simp[ixN]<;>omega
theorem D8{n:Nat}:ixN (n+2) 1=some 1:=by simp[ixN]<;>omega
theorem Dm{n:Nat}:ixN (n+3) 2=some 2:=by simp[ixN]<;>omega
theorem sz3(n:Nat) (h:n<=1000:=by decide):n<=F2:=L5 h (by decide)
theorem Bb{b:Bool}:EL "bool" (.bl b)=some true:=rfl
end
end L2
namespace L2
theorem CZ{i j:Int}(h:-18446744073709551616<j/\j<18446744073709551616):i7 i j=True:=by unfold i7;simp;right;omega
theorem Eh{i j:Int}(h:-18446744073709551616<i/\i<18446744073709551616):i7 i j=True:=by unfold i7;simp;left;omega
theorem wd:pM 10 18=True:=by simp[pM]
theorem Dr{i j:Int}(h:0<j/\j<1073741824):kf i j=True:=by unfold kf;simp[h]
end L2
namespace L2
open PySem PySem.Spec PyProof.Rows
theorem fm{g:GD}{tc:TTd}{te:TEd}{M:DH}{Q:List D->DH->Prop}(b:D->Bool) (y:D->D) (Ok:DE->Prop):∀(ds:List D) (Δ:DE) (acc:List D),
  (∀d∈ds,∀ Δ,Ok Δ->∃ Δ',g d Δ=some Δ'/\Ok Δ'/\(∀Q1:Bool->DH->Prop,Q1 (b d) M->tc Δ' M Q1)/\(b d=true->∀Q2:D->DH->Prop,Q2 (y d) M->te Δ' M Q2))->Ok Δ ->
  Q (acc++(ds.filter b).map y) M->cx g tc te ds Δ M acc Q
 |[],Δ,acc,_,_,q=>by simpa[cx]using q
 |d::ds,Δ,acc,h,hΔ,q=>by
  simp only[cx];obtain⟨Δ',eg,ok,h1,h2⟩:=h d L9 Δ hΔ;refine⟨Δ',eg,h1 _ ?_⟩;have hr:∀d∈ds,∀ Δ,Ok Δ->∃ Δ',g d Δ=some Δ'/\Ok Δ'/\(∀Q1:Bool->DH->Prop,Q1 (b d) M->tc Δ' M Q1)/\(b d=true->∀Q2:D->DH->Prop,Q2 (y d) M->te Δ' M Q2):=fun x hx=>h x (K8 _ hx);cases hb:b d with
  |true =>
   simp only[if_true];refine h2 hb _ (fm b y Ok ds Δ' (acc++[y d]) hr ok ?_);simpa[List.filter_cons,hb]using q
  |false =>
   simp only[N4,if_false];refine fm b y Ok ds Δ' acc hr ok ?_;simpa[List.filter_cons,hb]using q
theorem xW{a b:Str}:eqD (.str a) (.str b)=(a==b):=by simp[eqD]
theorem da{x:Str}:∀{ws:List Str},(ws.map D.str).any (fun d=>eqD d (.str x))=decide (x∈ws)
 |[]=>by simp
 |w::ws=>by
  rw[N9,P2,da (ws:=ws),xW]
  by_cases h:w=x
  ·subst h;simp
  ·have h2:(w==x)=false:=by simpa using h
   have h3:¬ x=w:=fun e=>h e.symm;simp[h2,h3]
theorem dJ{ws:List Str}:(ws.map D.str).all bh=true:=by
 induction ws with
 |nil=>rfl
 |cons w ws ih=>rw[N9,V7,ih];rfl
section
variable{X:Cx}{e:J5}{te:TEd}{pos:Pos}
def Al(te:TEd):TSd:=fun E Δ M=>te Δ M fun d M1=>∃M2,LeM M2 M1/\E.rt d M2
theorem ff{M:DH}{q:F9}{o:HD}(h:M q=none):LeM M (av M q o):=fun a u e=>by
 by_cases ha:a=q
 ·subst ha;rw[h]at e;cases e
 ·rw[aq ha];exact e
end
end L2
namespace L2
open PySem PySem.Spec PyProof.Rows PySem.Builtin.Str
def tx(cs:List Nat):Str:=⟨cs.toArray⟩
theorem eX{α:Type} [DecidableEq α]:∀(V K:List α),V.Nodup->(∀x∈V,x∈K)->V.length<=K.length
 |[],_,_,_=>R5 _
 |x::V,K,hn,h=>by
  have hx:=h x L9;obtain⟨h1,h2⟩:=V5.mp hn;have:=eX V (K.erase x) h2 fun y hy=>(List.mem_erase_of_ne (by rintro rfl;exact h1 hy)).mpr (h y (K8 _ hy));rw[List.length_erase_of_mem hx]at this;have hp:0<K.length:=List.length_pos_of_mem hx;simp only[T4]
  lia
end L2
namespace L2
open PySem PySem.Spec PyProof.Rows
theorem nA{g:GD}{tb:TSd}{E:fF}{all:List D}(I:Nat->DE->DH->Prop)
  (step:∀(i:Nat) (d:D) (Δ:DE) (M:DH) (X:DE->DH->Prop),all[i]?=some d->I i Δ M->(∀ Δ' M',I (i+1) Δ' M'->X Δ' M')->∃ Δ',g d Δ=some Δ'/\tb { E with nx:=X,ct:=X,bk:=E.nx } Δ' M)
  (fin:∀ Δ M,I all.length Δ M->E.nx Δ M):∀(ds:List D) (i:Nat) (Δ:DE) (M:DH),all.drop i=ds->i<=all.length->I i Δ M->cR g tb E ds Δ M
 |[],i,Δ,M,e,hi,h=>by
  have:i=all.length:=by
   have:=congrArg aa4 e;simp at this;lia
  subst this;simpa only[cR]using fin Δ M h
 |d::ds,i,Δ,M,e,hi,h=>by
  have hlt:i<all.length:=by
   have:=congrArg aa4 e;simp at this;lia
  have hd:all[i]?=some d:=by
   have:=congrArg List.head? e;simpa using this
  have hn:all.drop (i+1)=ds:=by
   rw[<-List.tail_drop,e];rfl
  simp only[cR];exact step i d Δ M _ hd h fun Δ' M' h'=>nA I step fin ds (i+1) Δ' M' hn hlt h'
theorem a7{g:GD}{tb:TSd}{E:fF}{ds:List D}{Δ:DE}{M:DH}(I:Nat->DE->DH->Prop) (h0:I 0 Δ M)
  (step:∀(i:Nat) (d:D) (Δ:DE) (M:DH) (X:DE->DH->Prop),ds[i]?=some d->I i Δ M->(∀ Δ' M',I (i+1) Δ' M'->X Δ' M')->∃ Δ',g d Δ=some Δ'/\tb { E with nx:=X,ct:=X,bk:=E.nx } Δ' M)
  (fin:∀ Δ M,I ds.length Δ M->E.nx Δ M):cR g tb E ds Δ M:=nA I step fin ds 0 Δ M rfl (R5 _) h0
theorem pC{g:GD}{tc:TTd}{te:TEd}{all:List D}{Q:List D->DH->Prop}(I:Nat->List D->DE->DH->Prop)
  (step:∀ (i:Nat) (d:D) (acc:List D) (Δ:DE) (M:DH) (X:List D → DE → DH → Prop),all[i]? = some d → I i acc Δ M → (∀ acc' Δ' M',I (i + 1) acc' Δ' M' → X acc' Δ' M') →
   ∃ Δ',g d Δ=some Δ'/\tc Δ' M fun b M1=>if b=true then te Δ' M1 fun y M2=>X (acc++[y]) Δ' M2 else X acc Δ' M1)
  (fin:∀acc Δ M,I all.length acc Δ M->Q acc M):∀(ds:List D) (i:Nat) (acc:List D) (Δ:DE) (M:DH),all.drop i=ds->i<=all.length->I i acc Δ M->cx g tc te ds Δ M acc Q
 |[],i,acc,Δ,M,e,hi,h=>by
  have:i=all.length:=by
   have:=congrArg aa4 e;simp at this;lia
  subst this;simpa only[cx]using fin acc Δ M h
 |d::ds,i,acc,Δ,M,e,hi,h=>by
  have hlt:i<all.length:=by
   have:=congrArg aa4 e;simp at this;lia
  have hd:all[i]?=some d:=by
   have:=congrArg List.head? e;simpa using this
  have hn:all.drop (i+1)=ds:=by
   rw[<-List.tail_drop,e];rfl
  simp only[cx];exact step i d acc Δ M (fun acc' Δ' M'=>cx g tc te ds Δ' M' acc' Q) hd h fun acc' Δ' M' h'=>pC I step fin ds (i+1) acc' Δ' M' hn hlt h'
theorem lQ{g:GD}{tc:TTd}{te:TEd}{ds:List D}{Δ:DE}{M:DH}{Q:List D->DH->Prop}(I:Nat->List D->DE->DH->Prop) (h0:I 0 [] Δ M)
  (step:∀ (i:Nat) (d:D) (acc:List D) (Δ:DE) (M:DH) (X:List D → DE → DH → Prop),ds[i]? = some d → I i acc Δ M → (∀ acc' Δ' M',I (i + 1) acc' Δ' M' → X acc' Δ' M') →
   ∃ Δ',g d Δ=some Δ'/\tc Δ' M fun b M1=>if b=true then te Δ' M1 fun y M2=>X (acc++[y]) Δ' M2 else X acc Δ' M1)
  (fin:∀acc Δ M,I ds.length acc Δ M->Q acc M):cx g tc te ds Δ M [] Q:=pC I step fin ds 0 [] Δ M rfl (R5 _) h0
theorem szB(n:Nat) (h:n<=16000000:=by decide):n<=F2:=L5 h (by decide)
theorem iy{α:Type}{f:α->D}{xs:List α}{i:Nat}{d:D}(h:(xs.map f)[i]?=some d):∃x,xs[i]?=some x/\d=f x:=by
 rw[P9]at h;cases e:xs[i]? with
 |none=>rw[e]at h;cases h
 |some x=>rw[e]at h;cases h;exact⟨x,rfl,rfl⟩
theorem oT{K:o0}{M:DH}{H:Hp}:∀ns:List Int,ar K M H (ns.map D.int) (ns.map V.int)
 |[]=>ar.nil
 |n::ns=>ar.cons (by simp[Rep]) (oT ns)
theorem m6:Manifest.owners.lookup (String.ofList ['d','e','s','r','e','v','e','r'].reverse)=some Manifest.sig_reversed:=by kernel_rfl
theorem cm:Slot "reversed" "__next__" "reversed.__next__" :=
 .of (owner:="reversed") (n:="__next__") (by rw[Z8,U1];kernel_rfl) (by decide +kernel) (by decide +kernel) (by decide +kernel)
  (by first|exact .inl (by decide +kernel)|exact .inr (by decide +kernel)) (by rw[W7];kernel_rfl)
theorem fS:entryFor table "reversed.__next__"=some J1.«reversed.__next__»:=entryFor_of_tree (by kernel_rfl)
theorem fK(a:u8):argsOk "reversed.__next__" ⟨[a],[]⟩:=by
 unfold argsOk;rw[signature?_of (id:="reversed.__next__") (n:=['_','_','t','x','e','n','_','_']) (o:=['d','e','s','r','e','v','e','r']) (by kernel_rfl) m6];kernel_rfl
theorem gO:Slot "reversed" "__iter__" "reversed.__iter__" :=
 .of (owner:="reversed") (n:="__iter__") (by rw[Z8,U1];kernel_rfl) (by decide +kernel) (by decide +kernel) (by decide +kernel)
  (by first|exact .inl (by decide +kernel)|exact .inr (by decide +kernel)) (by rw[W7];kernel_rfl)
theorem jP(a:u8):argsOk "reversed.__iter__" ⟨[a],[]⟩:=by
 unfold argsOk;rw[signature?_of (id:="reversed.__iter__") (n:=['_','_','r','e','t','i','_','_']) (o:=['d','e','s','r','e','v','e','r']) (by kernel_rfl) m6];kernel_rfl
theorem kN:entryFor table "reversed.__iter__"=some J1.«dict_keyiterator.__iter__» :=
 entryFor_alias (id':="dict_keyiterator.__iter__") (by kernel_rfl) (by first|rfl|decide +kernel|(unfold String.splitOn;simp +decide [String.splitOnAux])) (by decide +kernel) (by kernel_rfl)
theorem iw:typeLookup (.type "tuple") "__reversed__"=V9 none:=by rw[Z8,U1];kernel_rfl
theorem kZ:isSubtype (.type "tuple") (.type "dict")=V9 false:=by rw[W7];kernel_rfl
section
variable{prog:L4}{w:P7}{A:N5}{E:u8->F0->Prop}{s:F0}
noncomputable def sd(l:F9) (i:Int):Obj:={ cls:=.type "reversed",data:=.fields #[.ref l,aa2 i] }
def eI(h:K5) (a l:F9) (i:Int):Prop:=∃o,h.get? a=some o/\o.cls=.type "reversed"/\o.data=.fields #[.ref l,aa2 i]
theorem eI.typeIs{a l:F9}{i:Int}(x:eI s.heap a l i):s.TypeIs (.ref a) "reversed":=let⟨o,ho,hc,_⟩:=x;⟨o,ho,hc⟩
theorem eI.at{h h':K5}{a l:F9}{i:Int}(x:eI h a l i) (e:∀o,h.get? a=some o->h'.get? a=some o):eI h' a l i:=let⟨o,ho,r⟩:=x;⟨o,e _ ho,r⟩
theorem mC(l:F9) (items:Array u8) (hsz:items.size<2 ^ 63) :
  Meets (J1.«reversed.__new__» ⟨[.type "reversed",.ref l],[]⟩) (fun _ R s=>ac9 s.heap l items/\∀k,R (.ok (.ret (.ref s.heap.objs.size))) { s with heap:=s.heap.push (sd l ((items.size:Int)-1)),toks:=k }) :=
 .of_wp fun prog w A R s h=>by
  obtain⟨hl,h⟩:=h;unfold J1.«reversed.__new__»;refine s0 (U2 (newClass_reversed _) ?_)
  try dsimp only
  refine s0 (U2 (a:=()) (by first|rfl|kernel_rfl) ?_);refine s0 (U2 (a:=()) (by first|rfl|kernel_rfl) ?_)
  try dsimp only
  refine s0 (Z5 hl.typeIs iw ?_)
  try dsimp only
  refine s0 (s0 (wpAny_isInstance hl.typeIs kZ ?_));rw[if_neg L3];refine s0 (Z5 hl.typeIs slot_tuple_getitem.lookup ?_);dsimp only;rw[if_pos (by decide +kernel)];refine F4 ?_;rw[if_neg (by decide)];refine s0 (len_tuple hl (by lia) ?_);refine s0 (U2 (a:=some (items.size:Int)) rfl ?_);dsimp only;show J3 _ _ (newObj (.type "reversed") (.fields #[.ref l,aa2 ((items.size:Int)-1)]) >>= _) _ _ _;exact s0 (K0 (F4 ⟨_,rfl,h _⟩))
theorem mn:Slot "reversed" "__init__" "object.__init__" :=
 .of (owner:="object") (n:="__init__") (by rw[Z8,U1];kernel_rfl) (by decide +kernel) (by decide +kernel) (by decide +kernel)
  (by first|exact .inl (by decide +kernel)|exact .inr (by decide +kernel)) (by rw[W7];kernel_rfl)
theorem rR:TypeCalled "reversed" "reversed.__new__" "object.__init__" :=
 ⟨by decide +kernel,by decide +kernel,⟨_,_,F.mro_reversed⟩,F.made_reversed,by decide +kernel,by rw[W7];kernel_rfl,mn⟩
theorem kK{l:F9}{items:Array u8}{Q:u8->F0->Prop}(hl:ac9 s.heap l items) (hsz:items.size<2 ^ 63)
  (h:∀k,Q (.ref s.heap.objs.size) { s with heap:=s.heap.push (sd l ((items.size:Int)-1)),toks:=k }):J3 (K6 prog w) A (call (.type "reversed") [.ref l]) Q E s:=by
 refine callType_new rR (by decide) (F.typeCall_reversed_1 _) (F.newCall_reversed_1 _) (fun obj=>F.args_object_init_2 obj _) F.entry_reversed_new (mC l items hsz) ⟨hl,fun k=>?_⟩;exact⟨⟨_,F6 _ rfl,rfl⟩,h k⟩
theorem eZ{it l:F9}{i:Nat}{items:Array u8}{x:u8}{Q:Option u8->F0->Prop}(hit:eI s.heap it l (i:Int)) (hl:ac9 s.heap l items) (hx:items[i]?=some x) (hsz:items.size<2 ^ 62)
  (hQ:∀h' k,eI h' it l ((i:Int)-1)->O0 it s.heap h'->Q (some x) { s with heap:=h',toks:=k }):J3 (K6 prog w) A (ad5 (.ref it)) Q E s:=by
 obtain⟨o,ho,hc,hd⟩:=id hit;have hi:i<items.size:=(Array.getElem?_eq_some_iff.mp hx).1;unfold ad5;refine s0 (wpAny_attempt (N8 (name:=U9 "__next__") hit.typeIs cm
  (P5 cm hit.typeIs fS ?_ (fK _))))
 unfold J1.«reversed.__next__»;refine s0 (U2 (a:=(Q0 it,[])) rfl ?_)
 try dsimp only
 refine s0 (O7 ho hd (x:=.ref l) rfl ?_);refine s0 (O7 ho hd (x:=aa2 (i:Int)) rfl ?_);show J3 _ _ (if(i:Int)<0 then _ else _) _ _ s;rw[if_neg (by lia)];refine s0 (Z5 hl.typeIs slot_tuple_getitem.lookup ?_);rw[if_neg (by simp)];refine s0 (wpAny_mkInt ?_);refine s0 (wpAny_attempt (getItem_tuple (s:={ s with toks:=s.toks+1 }) hl (by lia) (by lia) (j:=i) (by unfold seqIndex?;simp;lia) hx ?_));dsimp only;refine s0 (O7 (s:={ s with toks:=s.toks+1 }) ho hd (x:=aa2 (i:Int)) rfl ?_);dsimp only[aa2];refine s0 (W8 (s:={ s with toks:=s.toks+1 }) ho hd (by simp) ?_);refine F4 ⟨x,rfl,F4 (hQ _ _ ?_ (T3 ..))⟩;exact⟨_,U0 _ ho (Obj.isFreed_of_fields (R1 hd _)),(Obj.cls_mapFields ..).trans hc,by
  rw[R1 hd];simp[aa2]⟩
theorem fQ{it l:F9}{Q:Option u8->F0->Prop}(hh:A.handled=none) (hit:eI s.heap it l (-1))
  (hQ:∀h',K5.ExtBut it s.heap h'->Q none { s with heap:=h' }):J3 (K6 prog w) A (ad5 (.ref it)) Q E s:=by
 obtain⟨o,ho,hc,hd⟩:=id hit;unfold ad5;refine s0 (wpAny_attempt (N8 (name:=U9 "__next__") hit.typeIs cm
  (P5 cm hit.typeIs fS ?_ (fK _))))
 unfold J1.«reversed.__next__»;refine s0 (U2 (a:=(Q0 it,[])) rfl ?_)
 try dsimp only
 refine s0 (O7 ho hd (x:=.ref l) rfl ?_);refine s0 (O7 ho hd (x:=aa2 (-1)) rfl ?_);show J3 _ _ (if(-1:Int)<0 then _ else _) _ _ s;rw[if_pos (by decide)];refine s0 (wpAny_rule ?_);have ho1:=U0 (Obj.mapFields (·.setIfInBounds 1 (aa2 (-1)))) ho (Obj.isFreed_of_fields (R1 hd _));refine s0 (s0 (W8 ho hd (by simp) (W8 ho1 (R1 hd _) (by simp) ?_)));refine s0 ?_;show J3 _ _ (newExc (.type "StopIteration") [] >>= _) _ _ _;refine s0 ?_;simp only[newExc,newTuple];refine s0 (K0 ?_ (by size_fits));refine s0 (m:=aa1 _ _) (U2 (a:=W0) (by first|rfl|(simp only[aa1];rfl)) ?_);refine K0 ?_ (by size_fits);simp only[raiseNew];refine s0 (wpAny_handled ?_)
 first|rw[show A.in1.handled=none from hh]|rw[hh]
 refine s0 (F4 (wpAny_throw ?_));refine s0 (wpAny_isInstance (T:="StopIteration") (b:=true) ⟨_,F6 _ rfl,rfl⟩ isSubtype_stop ?_);refine F4 (hQ _ ((K5.ExtBut.push ?_ _).push _));exact fun b o hb e=>((T3 ..).2 b hb).trans (((T3 ..).2 b hb).trans e)
theorem eA{it l:F9}{i:Int}{Q:u8->F0->Prop}(hit:eI s.heap it l i) (h:Q (.ref it) s):J3 (K6 prog w) A (pyIter (.ref it)) Q E s:=by
 refine wpAny_pyIter_slot hit.typeIs gO (P5 gO hit.typeIs kN ?_ (jP _));show J3 _ _ (ret (.ref it)) _ _ s;exact F4 ⟨_,rfl,"reversed",_,hit.typeIs,cm.lookup,h⟩
end
def Itv(K:o0) (a:F9) (n:Nat):It :=
 ⟨fun i H=>(∃xs,SqT K H a xs/\xs.length=n)/\i<n,fun i H x H'=>H'=H/\∀xs,SqT K H a xs->xs[n-1-i]?=some x,fun i _=>n<=i⟩
theorem wg:F2<2 ^ 62:=by decide
theorem vF{P:L4}{w:P7}{K:o0}{tg:J5}(a it:F9) (n:Nat):iP P w K tg (Itv K a n) [it] it (fun i h=>i<=n/\eI h it a ((n:Int)-1-(i:Int))) where
 mem:=by simp
 obj:=fun i h st b hb=>by
  have e:b=it:=by simpa using hb
  subst e;obtain⟨_,o,e,c,d⟩:=st;exact⟨o,e,fun v z=>by rw[d]at z;cases z⟩
 keep:=fun i h h' st k=>⟨st.1,st.2.at fun o e=>k it (by simp) o e⟩
 item:=by
  intro X hP hw hK hc i ag s σ H E I hf st hg;subst hP hw hK;obtain⟨⟨xs,hq,hxl⟩,hi⟩:=hg;obtain⟨its,rv,p,hz⟩:=I.tuple hq;have bP:=rv.length;have hxi:n-1-i<xs.length:=by lia
  obtain⟨u,hu,ru⟩:=rv.get (show xs[n-1-i]?=some xs[n-1-i]by simp[hxi]);obtain⟨f0,f1,f2,f3,f4,f5⟩:=hf it (by simp);have ei:(n:Int)-1-(i:Int)=((n-1-i:Nat):Int):=by lia
  have st2:=st.2;rw[ei]at st2;have hsz:its.toArray.size<2 ^ 62:=by have:=wg;simp;lia
  refine eZ st2 p (x:=u) (by simpa using hu) hsz fun h' kk st' sb=>?_;have I1:Inv X ag σ H { s with heap:=h',toks:=kk }:=I.turned (t':=kk) (fun b o hb e=>(sb.2 b hb).trans e) f0 f1 f3 f4 f5;obtain⟨o,e,c,d⟩:=id st';have e2:((n-1-i:Nat):Int)-1=(n:Int)-1-((i+1:Nat):Int):=by lia
  rw[e2]at st';exact⟨u,rfl,nu (s:={ s with heap:=h',toks:=kk }) e c d (by decide) ⟨xs[n-1-i],H,I1,ru,⟨rfl,fun ys hy=>by rw[I.tuple_inj hy hq];simp[hxi]⟩,⟨hi,st'⟩,fun b hb=>(hf b hb).1⟩⟩
 done:=by
  intro X hP hw hK hc i ag s σ H E I hf st hg;subst hP hw hK;obtain⟨f0,f1,f2,f3,f4,f5⟩:=hf it (by simp);have e:i=n:=Nat.le_antisymm st.1 hg;subst e;have st2:=st.2;rw[show(i:Int)-1-(i:Int)=-1 by lia]at st2;exact fQ (I.ok.hd hc) st2 fun h' eb=>⟨rfl,I.turned (t':=s.toks) (fun b o hb e=>eb b o hb e) f0 f1 f3 f4 f5⟩
 self:=fun _ _ _ _ _ st h=>eA st.2 h
section
variable{X:Cx}{a b c e:J5}{es:List J5}{te ta tb:TEd}{t:TAd}{pos:Pos}{tg iter:J5}
def Ab(ta:TAd):TId:=fun Δ M R=>ta Δ M fun ds M1=>∃es,ds=[.tup es]/\(es.length<=F2->R es.reverse M1)
theorem ml:T7 "reversed"=some (.type "reversed"):=by kernel_rfl
end
section
variable{X:Cx}
def neF(x y:D):Option D:=if dLe x 60=true/\dLe y 60=true then some (.bl (!(eqD x y)))else none
theorem nJ(hu:X.A.units+64<aa9):bT X (N0 .NotEq) neF:=by
 intro ag s σ H M x y v u dx dy dz Q I hr rx ry r1 r2 e k;unfold neF at e
 by_cases hc:dLe dx 60=true/\dLe dy 60=true
 ·rw[if_pos hc]at e;cases e;exact(qU I 60 (A:=X.A) (by lia) hc.1 hc.2 r1 r2 rx ry).2.2 X.prog X.w X.xe _ ⟨.bl (!(eqD dx dy)),H,I,rfl,k _ H (Ext.refl _ _) hr (by simp[Rep])⟩
 ·rw[if_neg hc]at e;cases e
theorem xf{a b:Int}:neF (.int a) (.int b)=some (.bl (!(a==b))):=by simp[neF,dLe,eqD]
theorem vJ{a b:Str}:neF (.str a) (.str b)=some (.bl (!(a==b))):=by simp[neF,dLe,eqD]
theorem md{a b:Bool}:neF (.bl a) (.bl b)=some (.bl (!(a==b))):=by simp[neF,dLe,eqD]
end
end L2
namespace HT
open PySem PyProof.Rows
section
variable{prog:L4}{w:P7}{A:N5}{E:u8->F0->Prop}{s:F0}
theorem mF{t:F9}{items:Array u8}{Q:Bool->F0->Prop}(ht:ac9 s.heap t items) (h:Q true s):J3 (K6 prog w) A (J1.Tuple.tupleIsExact (.ref t)) Q E s:=by
 unfold J1.Tuple.tupleIsExact;exact s0 (ab3 ht.typeIs (F4 (by simpa using h)))
theorem getItem_tuple_whole{t sl:F9}{items:Array u8}{vl vu:u8}{lo hi:Option Int}{Q:u8->F0->Prop}(ht:ac9 s.heap t items) (hs:s.heap.IsSliceOf sl vl vu .none) (pl:ad1 vl lo) (pu:ad1 vu hi)
  (hw:sIx items.size 0 lo=0/\sIx items.size items.size hi=items.size) (h:Q (.ref t) s):J3 (K6 prog w) A (Z3 (.ref t) (.ref sl)) Q E s:=by
 obtain⟨os,hos,hcs,hds⟩:=id hs;have hTs:s.TypeIs (.ref sl) "slice":=⟨os,hos,hcs⟩;unfold Z3
 try with_reducible refine S7 ?_
 first|refine s0 (F4 ?_)|skip
 refine s0 (wpAny_sequenceKey ht.typeIs (by decide) ?_);refine s0 (N8 (name:=U9 "__getitem__") ht.typeIs J6
  (P5 J6 ht.typeIs entry_tuple_getitem ?_ (args_tuple_getitem _ _)))
 show J3 _ _ (Q8 (.ref t) >>= _) _ _ s;refine s0 (aa5 ht ?_);refine s0 (ab3 hTs ?_);rw[if_pos (by decide)];refine s0 (eQ hs pl pu ?_);show J3 _ _ (if(((sIx items.size 0 lo:Nat):Int)==0&&(1:Int)==1&&(sIx items.size items.size hi-sIx items.size 0 lo)==items.size)=true then _ else _) _ _ s;rw[if_pos (by rw[hw.1,hw.2];simp)];refine s0 (mF ht ?_);rw[if_pos rfl];refine s0 (wpAny_rule ?_)
 first
  |exact F4 ⟨_,rfl,F4 h⟩
  |exact s0 (F4 (F4 ⟨_,rfl,F4 h⟩))
theorem iX{sl:F9}{tk:Tok}{n:Nat}{Q:Int×Int×Nat->F0->Prop}(hs:s.heap.IsSliceOf sl .none .none (.int (-1) tk))
  (h:Q ((n:Int)-1,-1,n) s):J3 (K6 prog w) A (Q7 (.ref sl) (V9 (n:Int))) Q E s:=by
 obtain⟨os,hos,hcs,hds⟩:=id hs;unfold Q7 J1.Slice.sliceFields;refine s0 (s0 (O7 hos hds (x:=.none) rfl (s0 (O7 hos hds (x:=.none) rfl (s0 (O7 hos hds (x:=.int (-1) tk) rfl (F4 ?_)))))));refine s0 (slicePart_int ?_);show J3 _ _ (if((-1:Int)==0)=true then _ else _) _ _ s;rw[if_neg (by decide)];refine s0 (aa0 (s0 (aa0 (s0 (F4 ?_)))));show J3 _ _ (V9 ((n:Int)-1,(-1:Int),N2 ((n:Int)-1) (-1) (-1))) _ _ s;have e:N2 ((n:Int)-1) (-1) (-1)=n:=by
  unfold N2;simp only[show ¬ ((-1:Int) > 0)by omega,if_false]
  split<;>simp<;>omega
 rw[e];exact F4 h
theorem pick_rev(xs:Array u8):((T6 xs.size).filterMap fun(m:Nat)=>xs[((xs.size:Int)-1+(m:Int)*-1).toNat]?)=xs.toList.reverse:=by
 have:∀k,k<=xs.size->((T6 k).filterMap fun(m:Nat)=>xs[((xs.size:Int)-1+(m:Int)*-1).toNat]?)=xs.toList.reverse.take k:=by
  intro k
  induction k with
  |zero=>intro _;simp
  |succ k ih =>
   intro hk;rw[List.range_succ,List.filterMap_append,ih (by omega)];have e1:((xs.size:Int)-1+(k:Int)*-1).toNat=xs.size-1-k:=by omega
   have e2:xs[xs.size-1-k]?=some xs[xs.size-1-k]:=by simp[show xs.size-1-k<xs.size by omega]
   have e3:xs.toList.reverse[k]?=some xs[xs.size-1-k]:=by
    rw[List.getElem?_reverse (by simp;omega)];simpa using e2
   rw[List.take_add_one,e3];have e4:(List.filterMap (fun(m:Nat)=>xs[((xs.size:Int)-1+(m:Int)*-1).toNat]?) [k])=[xs[xs.size-1-k]]:=by
    rw[Q3,e1,e2];rfl
   rw[e4];rfl
 rw[this xs.size (F7 _)];exact List.take_of_length_le (by simp)
theorem getItem_tuple_rev{t sl:F9}{items:Array u8}{tk:Tok}{Q:u8->F0->Prop}(ht:ac9 s.heap t items) (hs:s.heap.IsSliceOf sl .none .none (.int (-1) tk))
  (h:Q (.ref s.heap.objs.size) { s with heap:=s.heap.push { cls:=.type "tuple",data:=.seq items.toList.reverse.toArray } }) (hsz:items.size<=F2):J3 (K6 prog w) A (Z3 (.ref t) (.ref sl)) Q E s:=by
 have htake:sizeOk (.seq items.toList.reverse.toArray):=by
  show items.toList.reverse.toArray.size<=F2;simpa using hsz
 obtain⟨os,hos,hcs,hds⟩:=id hs;have hTs:s.TypeIs (.ref sl) "slice":=⟨os,hos,hcs⟩;unfold Z3
 try with_reducible refine S7 ?_
 first|refine s0 (F4 ?_)|skip
 refine s0 (wpAny_sequenceKey ht.typeIs (by decide) ?_);refine s0 (N8 (name:=U9 "__getitem__") ht.typeIs J6
  (P5 J6 ht.typeIs entry_tuple_getitem ?_ (args_tuple_getitem _ _)))
 show J3 _ _ (Q8 (.ref t) >>= _) _ _ s;refine s0 (aa5 ht ?_);refine s0 (ab3 hTs ?_);rw[if_pos (by decide)];refine s0 (iX hs ?_);show J3 _ _ (if((((items.size:Int)-1)==0&&(-1:Int)==1&&items.size==items.size)=true)then _ else _) _ _ s;rw[if_neg (by simp),pick_rev]
 first
  |exact s0 (m:=K2 _) (K0 (F4 ⟨_,rfl,F4 h⟩) htake)
  |exact s0 (m:=K2 _) (K0 (s0 (F4 (F4 ⟨_,rfl,F4 h⟩))) htake)
  |exact s0 (s0 (m:=K2 _) (K0 (F4 (F4 ⟨_,rfl,F4 h⟩)) htake))
  |exact s0 (s0 (m:=K2 _) (K0 (F4 ⟨_,rfl,F4 h⟩) htake))
end
end HT
namespace L2
open PySem PySem.Spec PyProof.Rows
section
variable{X:Cx}{a b c e:J5}{es:List J5}{te ta tb ts:TEd}{t:TAd}{pos:Pos}
def slE:D->Option Int->Option Int->Option D
 |.tup ds,lo,hi=>some (.tup (du ds lo hi))
 |d,lo,hi=>slD d lo hi
def EZ(K:o0):V->Option Int->Option Int->Hp->VK->Prop:=fun x lo hi H Q=>∃a xs,x=.ref a/\SqT K H a xs/\(HT.sIx xs.length 0 lo=0/\HT.sIx xs.length xs.length hi=xs.length)/\Q (.ref a) H
theorem xn:SlR X (EZ X.K):=by
 intro ag s σ H x v vl vu lo hi sl Q I rx hs pl pu h;obtain⟨a,xs,rfl,hx,hw,q⟩:=h;cases rx;obtain⟨its,r,ht,hz⟩:=I.tuple hx;have bP:its.toArray.size=xs.length:=by rw[F3];exact r.length.symm
 exact⟨"tuple",_,J6.lookup,ht.typeIs,HT.getItem_tuple_whole ht hs pl pu (by rw[bP];exact hw) ⟨.ref a,H,I,rfl,q⟩⟩
theorem qG{ds:List D}{lo hi:Option Int}(h:HT.sIx ds.length 0 lo=0/\HT.sIx ds.length ds.length hi=ds.length):du ds lo hi=ds:=by
 unfold du;rw[h.1,h.2];simp
def Dc(te:TEd) (tl th:TOd):TEd:=fun Δ M Q=>te Δ M fun x M1=>tl Δ M1 fun l M2=>th Δ M2 fun u M3=>∃z,slE (rdM M3 x) l u=some z/\Q z M3
theorem Di{ds:List D}{lo hi:Option Int}:slE (.tup ds) lo hi=some (.tup (du ds lo hi)):=rfl
theorem sC{ds:List D}{lo hi:Option Int}:slE (.lst ds) lo hi=some (.lst (du ds lo hi)):=rfl
theorem Dv{ds:List D}{lo hi:Option Int}:slE (.scr ds) lo hi=some (.lst (du ds lo hi)):=rfl
theorem CM{x:Str}{lo hi:Option Int}:slE (.str x) lo hi=if x.length<=F2 then some (.str (ab4 x lo hi))else none:=rfl
theorem ar.reverse{K:o0}{M:DH}{H:Hp}:∀{ds:List D}{vs:List V},ar K M H ds vs->ar K M H ds.reverse vs.reverse
 |[],_,h=>by simp only[ar]at h;subst h;exact ar.nil
 |d::ds,_,h=>by
  simp only[ar]at h;obtain⟨v,ws,rfl,h1,h2⟩:=h;rw[W3,W3];exact(ar.reverse h2).append (ar.cons h1 ar.nil)
def vf(te ts:TEd):TEd:=fun Δ M Q=>te Δ M fun x M1=>ts Δ M1 fun st M2=>st=.int (-1)/\∃ds,x=.tup ds/\Q (.tup ds.reverse) M2
variable{scope:R0}{cl:List (Str×F9)}{aj:List Str}{tg:J5}
def zB(X:Cx) (scope:R0) (cl:List (Str×F9)) (aj:List Str) (tgs:List J5) (g:GDs):Prop:=∃gv:TGs,(∀C s H ex,PGs (aB X scope cl (X.N++aj) C s H ex) tgs gv)/\∀(ds:List D) (vs:List V) (σ:St) (Δ Δ':DE) (M:DH) (H:Hp) (Q:St->Hp->Prop),SR X.K M H σ Δ->HR X.K M H->ar X.K M H ds vs->g ds Δ=some Δ'->(∀ σ',SR X.K M H σ' Δ'->Q σ' H)->gv vs σ H Q
theorem cV:zB X scope cl aj [] mI:=⟨A6,fun _ _ _ _=>ou,fun ds vs σ Δ Δ' M H Q sr hr rv e k=>by
 cases ds with
 |nil=>simp only[ar]at rv;subst rv;cases e;exact⟨rfl,k _ sr⟩
 |cons _ _=>cases e⟩
theorem aO{tgs:List J5}{g:GD}{gs:GDs}(h1:PGa X scope cl aj tg g) (h2:zB X scope cl aj tgs gs)
  (hs:∀env,(N1 (tg::tgs) env).map (·.2)=U6 tg env::(N1 tgs env).map (·.2):=by intro _;rfl):zB X scope cl aj (tg::tgs) (fo g gs):=by
 obtain⟨g1,p1,k1⟩:=h1;obtain⟨g2,p2,k2⟩:=h2;refine⟨wG g1 g2,fun C s H ex=>h8 (p1 C s H ex) (p2 C s H ex) (hs _),fun ds vs σ Δ Δ' M H Q sr hr rv e k=>?_⟩;cases ds with
 |nil=>cases e
 |cons d r =>
  simp only[ar]at rv;obtain⟨v,ws,rfl,h3,h4⟩:=rv;simp only[fo]at e;cases q:g d Δ with
  |none=>rw[q]at e;cases e
  |some Δ1 =>
   rw[q]at e;exact⟨v,ws,rfl,k1 d v σ Δ Δ1 M H _ sr hr h3 q fun σ1 sr1=>k2 r ws σ1 Δ1 Δ' M H Q sr1 hr h4 e k⟩
theorem cO{tgs:List J5}{kx:Nat}{g:GDs}{n:Nat}(hc:X.calm=true) (h:zB X scope cl aj tgs g) (hn:∀env,(N1 tgs env).length=n:=by intro _;rfl) (hst:∀env,(N1 tgs env).findIdx? (·.1)=none:=by intro _;rfl):PGa X scope cl aj (.Tuple tgs kx pos) (jF g n):=by
 obtain⟨g1,p1,k1⟩:=h;refine⟨BH X.K n g1,fun C s H ex=>rA (X:=aB X scope cl (X.N++aj) C s H ex) hc (p1 C s H ex) (hn _) (hst _),fun d v σ Δ Δ' M H Q sr hr rv e k=>?_⟩;cases d with
 |tup ds =>
  simp only[jF]at e
  by_cases hl:ds.length=n
  ·rw[if_pos hl]at e;simp only[Rep]at rv;obtain⟨a,vs,rfl,ta,rl⟩:=rv;exact⟨a,vs,rfl,ta.sq,by rw[<-rl.length];exact hl,k1 ds vs σ Δ Δ' M H Q sr hr rl e k⟩
  ·rw[if_neg hl]at e;cases e
 |_=>cases e
end
section
variable{X:Cx}{a b c e:J5}{es:List J5}{te ta tb ts:TEd}{t:TAd}{pos:Pos}
def inE(neg:Bool) (x y:D):Option D:=match y with
 |.str j=>match x with
  |.str i=>some (.bl (xor neg (!(S8 j i 0 j.length 1).isEmpty)))
  |_=>none
 |y=>inD neg x y
theorem qo:bT X (N0 .In) (inE false):=by
 intro ag s σ H M x y v u dx dy dz Q I hr rx ry r1 r2 e k;cases dy with
 |str j =>
  cases dx with
  |str i =>
   cases e;exact uK ag s σ H x y v u Q I rx ry ⟨i,j,mh r1,mh r2,k _ H (Ext.refl _ _) hr (by simp[Rep])⟩
  |_=>cases e
 |_=>exact Es ag s σ H M x y v u dx _ dz Q I hr rx ry r1 r2 e k
theorem o9:bT X (N0 .NotIn) (inE true):=by
 intro ag s σ H M x y v u dx dy dz Q I hr rx ry r1 r2 e k;cases dy with
 |str j =>
  cases dx with
  |str i =>
   cases e;exact ow ag s σ H x y v u Q I rx ry ⟨i,j,mh r1,mh r2,k _ H (Ext.refl _ _) hr (by simp[Rep])⟩
  |_=>cases e
 |_=>exact zA ag s σ H M x y v u dx _ dz Q I hr rx ry r1 r2 e k
theorem Eb{b:Bool}{x:D}{ds:List D}:inE b x (.lst ds)=if bh x=true/\ds.all bh=true then some (.bl (xor b (ds.any fun d=>eqD d x)))else none:=rfl
theorem DO{b:Bool}{x:D}{ds:List D}:inE b x (.tup ds)=if bh x=true/\ds.all bh=true then some (.bl (xor b (ds.any fun d=>eqD d x)))else none:=rfl
theorem DZ{b:Bool}{c:Nat}{y:Str}:inE b (.str (tx [c])) (.str y)=some (.bl (xor b (decide (c∈y.cps.toList)))):=by
 show some (D.bl (xor b (!(S8 y ⟨#[c]⟩ 0 y.length 1).isEmpty)))=_;rw[StrLaws.found_one]
theorem jj:fillsNumberSlot (.type "tuple") "mul"=V9 false :=
 PySem.fillsNumberSlot_seq (id:="tuple.__mul__") (r:=some (.builtin "tuple.__rmul__")) F.slot_tuple_mul.lookup (by decide +kernel) F.slot_tuple_rmul.lookup (by decide +kernel)
theorem oe:seqRepeat? (.type "tuple")=V9 (some (.builtin "tuple.__mul__")):=by
 unfold seqRepeat?;rw[PySem.seqSlot_of (T:="tuple") (name:="__mul__") (id:="tuple.__mul__") F.slot_tuple_mul.lookup (by decide +kernel),PySem.seqSlot_of (T:="tuple") (name:="__rmul__") (id:="tuple.__rmul__") F.slot_tuple_rmul.lookup (by decide +kernel)];rfl
theorem lF(a:Int) (t:Tok) (l:F9) (items:Array u8) :
  Meets (J1.«int.__rmul__» ⟨[.int a t,.ref l],[]⟩) (fun _ R s=>ac9 s.heap l items/\R (.ok (.ret u8.notImplemented)) s) :=
 .of_wp fun prog w A R s h=>by
  obtain⟨hp,g,d,tk,os⟩:=s;obtain⟨⟨⟨cls,dd,data,sl⟩,ho,hc,n,hd⟩,h⟩:=h;simp only at hc hd;subst hc hd
  wp_walk;exact⟨_,rfl,h⟩
theorem mz(l:F9) (items:Array u8) (x:Int) (u:Tok) (hne:items.isEmpty=false) (hx:2<=x) (hx2:x<2 ^ 62) (hz:items.size*x.toNat<=F2) :
  Meets (J1.«tuple.__mul__» ⟨[.ref l,.int x u],[]⟩) (fun _ R s=>ac9 s.heap l items/\R (.ok (.ret (.ref s.heap.objs.size))) { s with heap:=s.heap.push { cls:=.type "tuple",data:=.seq (J0 x.toNat items.toList).flatten.toArray } }) :=
 .of_wp fun prog w A R s h=>by
  obtain⟨ht,h⟩:=h;show J3 _ _ (do
   let n <-asIndex (.int x u)
   if n < -(2 ^ 63) || n>=2 ^ 63 then
    rule "tuple.repeat.overflow";raiseError "OverflowError" s!"cannot fit '{← typeNameOf (.int x u)}' into an index-sized integer"
   let xs <-Q8 (.ref l)
   if xs.isEmpty || n==1 then
    if <-J1.Tuple.tupleIsExact (.ref l)then rule "tuple.repeat.same-object";return <-ret (.ref l)
   if n<=0 || xs.isEmpty then return <-ret (<-K2 #[])
   if xs.size*n > (2 ^ 63-1) / 8 then rule "tuple.repeat.no-memory";raiseNew (<-newExc (.type "MemoryError") [])
   if J1.Tuple.tupleTooMany (xs.size*n)then unsupported "tuple.__mul__:memory"
   ret (<-K2 ((J0 n.toNat xs).foldl (·++·) #[]))) _ _ s
  refine s0 (U2 (a:=x) rfl ?_);dsimp only;rw[if_neg (by simp only[Bool.or_eq_true,decide_eq_true_eq];lia)];refine s0 (aa5 ht ?_);rw[if_neg (by simp[hne];lia)];rw[if_neg (by simp[hne];lia)];have hxn:((x.toNat:Nat):Int)=x:=by lia
  have hm:(items.size:Int)*x=((items.size*x.toNat:Nat):Int):=by rw[Int.natCast_mul,hxn]
  have h16:F2=16777216:=rfl;rw[if_neg (by rw[hm];lia)];rw[if_neg (by unfold J1.Tuple.tupleTooMany;rw[hm];simp only[decide_eq_true_eq];lia)];have hf:ad3 (fun x1 x2=>x1++x2) #[] (J0 x.toNat items)=(J0 x.toNat items.toList).flatten.toArray:=by
   have:=i9 items.toList x.toNat [];rw[List.nil_append]at this;simpa using this
  rw[hf];have hs:sizeOk (.seq (J0 x.toNat items.toList).flatten.toArray):=by
   show(J0 x.toNat items.toList).flatten.toArray.size<=F2;rw[F3,nL,U7,Nat.mul_comm];exact hz
  exact s0 (m:=K2 _) (K0 (F4 ⟨_,rfl,h⟩) hs)
theorem ar.rep{K:o0}{M:DH}{H:Hp}{ds:List D}{vs:List V}(h:ar K M H ds vs):∀k:Nat,ar K M H (J0 k ds).flatten (J0 k vs).flatten
 |0=>ar.nil
 |k+1=>by
  rw[P1,P1,S0,S0];exact h.append (ar.rep h k)
def vW:D->D->Option D
 |.int a,.int b=>if i7 a b then some (.int (a*b))else none
 |.str x,.int n=>if x.length<=16777216/\-(2 ^ 63)<=n/\n<=16777216/\x.length*n.toNat<=16777216 then some (.str (Txt.mul x n))else none
 |.tup ds,.int n=>if 2<=n/\n<2 ^ 62/\ds≠[]/\ds.length*n.toNat<=F2 then some (.tup (J0 n.toNat ds).flatten)else none
 |.lst ds,.int n=>if -(2 ^ 63)<=n/\n<2 ^ 63/\ds.length*n.toNat<=F2 then some (.lst (J0 n.toNat ds).flatten)else none
 |_,_=>none
theorem vd:bT X (O9 .Mult) vW:=by
 intro ag s σ H M x y v u dx dy dz Q I hr rx ry r1 r2 e k;cases dx with
 |int a =>
  cases dy with
  |int b=>exact AV ag s σ H M x y v u _ _ dz Q I hr rx ry r1 r2 e k
  |_=>cases e
 |str z =>
  cases dy with
  |int n =>
   simp only[vW]at e
   by_cases hc:z.length<=16777216/\-(2 ^ 63)<=n/\n<=16777216/\z.length*n.toNat<=16777216
   ·rw[if_pos hc]at e;cases e;have e1:=mh r1;have e2:=eR r2;subst e1;subst e2;obtain⟨t1,rfl⟩:=rx;obtain⟨t2,rfl⟩:=ry;have hok:MulOk z n:=by
     by_cases hn:0<=n
     ·exact mulOk_of z.length n.toNat (F7 _) (by lia) hc.2.1 (by lia) hc.2.2.2
     ·exact mulOk_of z.length 0 (F7 _) (by lia) hc.2.1 (by lia) (by lia)
    exact SB.mul hok fun t' kk=>⟨.str _,H,I.tok _,⟨t',rfl⟩,k _ H (Ext.refl _ _) hr (by simp[Rep])⟩
   ·rw[if_neg hc]at e;cases e
  |_=>cases e
 |tup ds =>
  cases dy with
  |int n =>
   simp only[vW]at e
   by_cases hc:2<=n/\n<2 ^ 62/\ds≠[]/\ds.length*n.toNat<=F2
   ·rw[if_pos hc]at e;cases e;have e2:=eR r2;subst e2;obtain⟨t2,rfl⟩:=ry;obtain⟨a,vs,rfl,sq,rl⟩:=r1;cases rx;obtain⟨its,rv,pt,hz⟩:=I.tuple sq;have hl1:=rv.length;have hl2:=rl.length;have hne:its.toArray.isEmpty=false:=by
     cases its with
     |nil =>
      have h0:ds.length=0:=by rw[hl2,hl1];rfl
      exact absurd (List.length_eq_zero_iff.mp h0) hc.2.2.1
     |cons _ _=>rfl
    have hzz:its.toArray.size*n.toNat<=F2:=by rw[F3,<-hl1,<-hl2];exact hc.2.2.2
    refine wpAny_binaryOp_repeat_ref (T:="tuple") (U:="int") (by decide) pt.typeIs (fun s'=>ab8 s' n t2) jj F.fills_int_mul Z4 oe F.slot_int_index.lookup
     (X6 Z4 (ab8 s n t2) F.entry_int_rmul (F.args_int_rmul_2 _ _) (lF n t2 a its.toArray)
      ⟨pt,rfl,pt.typeIs,X6 F.slot_tuple_mul pt.typeIs F.entry_tuple_mul (F.args_tuple_mul_2 _ _) (mz a its.toArray n t2 hne hc.1 hc.2.1 hzz) ⟨pt,?_⟩⟩)
    have rr:ay (J0 n.toNat vs).flatten (J0 n.toNat its).flatten:=rv.rep n.toNat;refine⟨.ref s.heap.objs.size,_,I.laid (t':=s.toks) (o:=.tup (J0 n.toNat vs).flatten) (fun b ob q=>F1 _ q) (F7 _) ?_,rfl,?_⟩
    ·refine⟨?_,_,rr,by simpa using jI.new _ _⟩;rw[nL,Nat.mul_comm,<-hl2];exact hc.2.2.2
    ·exact jd hr (I.hok.fresh (F7 _)) (rl.rep n.toNat) k
   ·rw[if_neg hc]at e;cases e
  |_=>cases e
 |lst ds =>
  cases dy with
  |int n =>
   simp only[vW]at e
   by_cases hc:-(2 ^ 63)<=n/\n<2 ^ 63/\ds.length*n.toNat<=F2
   ·rw[if_pos hc]at e;cases e;obtain⟨a,vs,rfl,sq,rl⟩:=r1;exact Cd ag s σ H _ _ v u Q I rx ry ⟨a,n,vs,rfl,eR r2,sq,hc.1,hc.2.1,by rw[<-rl.length];exact hc.2.2,fun p hp=>gY hr hp (rl.rep n.toNat) k⟩
   ·rw[if_neg hc]at e;cases e
  |_=>cases e
 |_=>cases e
theorem yO{a b:Int}:vW (.int a) (.int b)=if i7 a b then some (.int (a*b))else none:=rfl
def lW:D->Bool
 |.non=>true
 |_=>false
def sI(neg:Bool) (x y:D):Option D:=match y with|.non=>some (.bl (xor neg (lW x)))|_=>none
theorem yq{K:o0}{M:DH}{H:Hp}{d:D}{x:V}(r:aR K M H d x):decide (x=V.non)=lW d:=by
 cases d with
 |tup ds=>obtain⟨a,vs,rfl,_⟩:=r;rfl
 |lst ds=>obtain⟨a,vs,rfl,_⟩:=r;rfl
 |scr ds=>obtain⟨a,vs,rfl,_⟩:=r;rfl
 |emp=>simp only[aR,Rep]at r;obtain⟨a,rfl,_⟩:=r;rfl
 |box _ _=>simp only[aR,Rep]at r;obtain⟨a,_,rfl,_⟩:=r;rfl
 |_=>simp only[aR,Rep]at r;subst r;rfl
theorem ET:bT X (N0 .Is) (sI false):=by
 intro ag s σ H M x y v u dx dy dz Q I hr rx ry r1 r2 e k;cases dy with
 |non =>
  cases e;refine B7 ag s σ H x y v u Q I rx ry ⟨EI r2,?_⟩;rw[yq r1];exact k _ H (Ext.refl _ _) hr (by simp[Rep])
 |_=>cases e
theorem ux{b:Bool}{x:D}:sI b x .non=some (.bl (xor b (lW x))):=rfl
def Au(ms:List Bool) (k:Nat) (wi:TId) (g:GD) (tc:TTd) (te:TEd):TEd:=fun Δ M Q=>wi Δ M fun ds M1=>ds.length<=F2/\cx g tc te ds (mJ ms k Δ) M1 [] fun ys M2=>∀p,M2 p=none->Q (.ref p) (av M2 p (.lst ys))
theorem xu{K:o0}{wi:TId}{g:GD}{tc:TTd}{te:TEd}{gv:TG}{ms:List Bool}{kk:Nat}(kg:sO K g gv) :
  ∀ σ H Q,up K (Au ms kk wi g tc te) σ H Q->tLc ms kk (upI K wi) gv (upT K tc) (up K te) σ H Q:=by
 rintro σ H Q ⟨Δ,M,R,sr,hr,q,k⟩;refine⟨Δ,M,_,sr,hr,q,fun ds M1 J H1 ⟨hz,q1⟩ e1 hr1 it=>?_⟩;obtain⟨W,Z,hW,hC,hZ⟩:=sx kg it hr1 hz ((sr.ext e1).comp ms kk) q1;refine⟨W,Z,hW,hC,fun ys σ' H' p z hp=>?_⟩;obtain⟨M',acc,e',hr',ra,q'⟩:=hZ _ _ _ z;exact k _ _ _ _ (q' p (hr'.fresh hp)) ((e1.trans e').trans (Ext.own hp)) (hr'.own hp ra) (by simp only[Rep])
variable{scope:R0}{cl:List (Str×F9)}{ms:List Bool}{aj:List Str}{ifs:List J5}{tg iter elt:J5}
end
@[irreducible] def QEd(X:Cx) (e:J5) (t:TEd):Prop:=PEd X e t
theorem QEd.eq{X:Cx}{e:J5}{t:TEd}:QEd X e t=(PEd X e t):=by unfold QEd;rfl
@[irreducible] def QAd(X:Cx) (e:List J5) (t:TAd):Prop:=PAd X e t
theorem QAd.eq{X:Cx}{e:List J5}{t:TAd}:QAd X e t=(PAd X e t):=by unfold QAd;rfl
@[irreducible] def QTd(X:Cx) (e:J5) (t:TTd):Prop:=PTd X e t
theorem QTd.eq{X:Cx}{e:J5}{t:TTd}:QTd X e t=(PTd X e t):=by unfold QTd;rfl
@[irreducible] def QWd(X:Cx) (e:J5) (t:TTd):Prop:=PWd X e t
theorem QWd.eq{X:Cx}{e:J5}{t:TTd}:QWd X e t=(PWd X e t):=by unfold QWd;rfl
@[irreducible] def QSd(X:Cx) (e:ab2) (t:TSd):Prop:=PSd X e t
theorem QSd.eq{X:Cx}{e:ab2}{t:TSd}:QSd X e t=(PSd X e t):=by unfold QSd;rfl
@[irreducible] def QSs(X:Cx) (e:List ab2) (t:TSd):Prop:=xi X e t
theorem QSs.eq{X:Cx}{e:List ab2}{t:TSd}:QSs X e t=(xi X e t):=by unfold QSs;rfl
@[irreducible] def QId(X:Cx) (tg e:J5) (t:TId):Prop:=PId X tg e t
theorem QId.eq{X:Cx}{tg e:J5}{t:TId}:QId X tg e t=(PId X tg e t):=by unfold QId;rfl
@[irreducible] def QIf(X:Cx) (e:List J5) (t:TTd):Prop:=D9 X e t
theorem QIf.eq{X:Cx}{e:List J5}{t:TTd}:QIf X e t=(D9 X e t):=by unfold QIf;rfl
@[irreducible] def QOd(X:Cx) (e:Option J5) (t:TOd):Prop:=POd X e t
theorem QOd.eq{X:Cx}{e:Option J5}{t:TOd}:QOd X e t=(POd X e t):=by unfold QOd;rfl
theorem af{X:Cx}(i:Nat) {x:Str}{pos:Pos}(hN:X.N[i]?=some x:=by rfl) (hv:Vis X.env.scope x:=by first|exact Or.inl rfl|exact Or.inr (Or.inl rfl)|exact Or.inr (Or.inr rfl)) (hd:(x==("__debug__":Str))=false:=by decide)
  (hcd:(x==("__classdict__":Str))=false:=by decide):QEd X (.Name x pos) (eG i):=by
 simp only[QEd.eq]at *
 exact(BG hN hv hd hcd).conv fun σ H Q ⟨Δ,M,R,sr,hr,⟨d,e,q⟩,k⟩=>let⟨v,ev,rv⟩:=sr.2 i d e;⟨v,ev,k d M v H q (Ext.refl _ _) hr rv⟩
theorem ao{X:Cx}{i j pos}:QEd X (.Constant (.int i) j pos) (dC (.int i)):=by
 simp only[QEd.eq]at *
 exact Cg.conv fun σ H Q hup=>hup.el fun Δ M R sr hr q k=>k _ M _ H q (Ext.refl _ _) hr (by simp[Rep])
theorem n9{X:Cx}{i j pos}:QEd X (.Constant (.bool i) j pos) (dC (.bl i)):=by
 simp only[QEd.eq]at *
 exact C5.conv fun σ H Q hup=>hup.el fun Δ M R sr hr q k=>k _ M _ H q (Ext.refl _ _) hr (by simp[Rep])
theorem aW{X:Cx}{i j pos}:QEd X (.Constant (.str i) j pos) (dC (.str i)):=by
 simp only[QEd.eq]at *
 exact A1.conv fun σ H Q hup=>hup.el fun Δ M R sr hr q k=>k _ M _ H q (Ext.refl _ _) hr (by simp[Rep])
theorem vD{X:Cx}{j pos}:QEd X (.Constant .none j pos) (dC .non):=by
 simp only[QEd.eq]at *
 exact AA.conv fun σ H Q hup=>hup.el fun Δ M R sr hr q k=>k _ M _ H q (Ext.refl _ _) hr (by simp[Rep])
theorem ah{X:Cx}:QAd X [] qI:=by
 simp only[QAd.eq]at *
 exact nN.conv fun σ H Q hup=>hup.el fun Δ M R sr hr q k=>k _ M _ H q (Ext.refl _ _) hr ar.nil
theorem ae{X:Cx}{a:J5}{es:List J5}{ta:TEd}{tr:TAd}(ha:QEd X a ta) (hr:QAd X es tr) (hs:J7 (a::es) X.env=(false,V1 a X.env)::J7 es X.env:=by rfl):QAd X (a::es) (ef ta tr):=by
 simp only[QEd.eq,QAd.eq]at *
 exact(j5 ha hr hs).conv fun σ H Q hup=>hup.el fun Δ M R sr hr q k=>⟨Δ,M,_,sr,hr,q,fun d M1 v H1 q1 e1 hr1 rv=>⟨Δ,M1,_,sr.ext e1,hr1,q1,fun ds M2 vs H2 q2 e2 hr2 rvs =>
   k _ M2 _ H2 q2 (e1.trans e2) hr2 (ar.cons (rv.ext e2) rvs)⟩⟩
theorem aZ{X:Cx}{es:List J5}{pos:Pos}{x1}{t:TAd}(h:QAd X es t):QEd X (.Tuple es x1 pos) (yE t):=by
 simp only[QEd.eq,QAd.eq]at *
 exact(lL h).conv fun σ H Q hup=>hup.el fun Δ M R sr hr q k=>⟨Δ,M,_,sr,hr,q,fun ds M1 vs H1 ⟨z,q1⟩ e1 hr1 rv=>⟨by rw[<-rv.length];exact z,fun p hp=>k _ M1 _ _ q1 (e1.trans (Ext.new hr1 hp)) (hr1.new hp) (by
   simp only[Rep];exact⟨p,vs,rfl,.inl ⟨.inl aF,hr1.fresh hp⟩,rv.ext (Ext.new hr1 hp)⟩)⟩⟩
theorem gQ{X:Cx}{es:List J5}{pos:Pos}{t:TAd}(h:QAd X es t):QEd X (.List es pos) (CT t):=by
 simp only[QEd.eq,QAd.eq]at *
 exact(xh h).conv fun σ H Q hup=>hup.el fun Δ M R sr hr q k=>⟨Δ,M,_,sr,hr,q,fun ds M1 vs H1 ⟨z,q1⟩ e1 hr1 rv=>⟨by rw[<-rv.length];exact z,fun p hp=>k _ M1 _ _ q1 (e1.trans (Ext.new hr1 hp)) (hr1.new hp) (by
   simp only[Rep];exact⟨p,vs,rfl,⟨aF,hr1.fresh hp⟩,rv.ext (Ext.new hr1 hp)⟩)⟩⟩
theorem dn{X:Cx}{es:List J5}{pos:Pos}{t:TAd}(h:QAd X es t):QEd X (.List es pos) (zO t):=by
 simp only[QEd.eq,QAd.eq]at *
 exact(xh h).conv fun σ H Q hup=>hup.el fun Δ M R sr hr q k=>⟨Δ,M,_,sr,hr,q,fun ds M1 vs H1 ⟨z,q1⟩ e1 hr1 rv=>⟨by rw[<-rv.length];exact z,fun p hp=>k _ _ _ _ (q1 p (hr1.fresh hp)) (e1.trans (Ext.own hp)) (hr1.own hp rv) (by
   simp only[Rep])⟩⟩
theorem aP{X:Cx}{a:J5}{b:J5}{ta:TEd}{tb:TEd}{pos:Pos}{op:ad6}{r:D->D->Option D}(ho:bT X (O9 op) r) (ha:QEd X a ta) (hb:QEd X b tb):QEd X (.BinOp a op b pos) (dOp r ta tb):=by
 simp only[QEd.eq]at *
 exact(Ap ho.v ha hb).conv vZ
theorem lE{X:Cx}{a:J5}{b:J5}{ta:TEd}{tb:TEd}{pos:Pos}{op:CmpOp}{r:D->D->Option D}(ho:bT X (N0 op) r) (ha:QEd X a ta) (hb:QEd X b tb) (hm:V2 op b=false):QEd X (.Compare a [op] [b] pos) (dOp r ta tb):=by
 simp only[QEd.eq]at *
 exact(zG ho.v ha hb hm).conv vZ
theorem aL{X:Cx}{a:J5}{b:J5}{ta:TEd}{tb:TEd}{pos:Pos}{r:D->D->Option D}(ho:IxR X (opV X.K r)) (ha:QEd X a ta) (hb:QEd X b tb) (hs:tP b):QEd X (.Subscript a b pos) (dOp r ta tb):=by
 simp only[QEd.eq]at *
 exact(DC ho ha hb hs).conv vZ
theorem wH{X:Cx}{a:J5}{ta:TEd}{pos:Pos}{op:UnaryOp}{r:D->Option D}(ho:Ed X (unaryOp op) r) (ha:QEd X a ta):QEd X (.UnaryOp op a pos) (dUn r ta):=by
 simp only[QEd.eq]at *
 have h:UnR X (unaryOp op) (fun x H Q=>∃dx dz M,HR X.K M H/\aR X.K M H dx x/\r dx=some dz/\∀w H',Ext M H M H'->HR X.K M H'->Rep X.K M H' dz w->Q w H'):=fun ag s σ H x v Q I rx ⟨dx,dz,M,hr,r1,e,k⟩=>ho ag s σ H M x v dx dz Q I hr rx r1 e k;exact(C6 h ha).conv fun σ H Q hup=>hup.el fun Δ M R sr hr q k=>⟨Δ,M,_,sr,hr,q,fun x M1 v H1 ⟨z,ez,q1⟩ e1 hr1 rv=>⟨_,z,M1,hr1,rv.rd hr1,ez,fun w H' e2 hr2 rw_=>k z M1 w H' q1 (e1.trans e2) hr2 rw_⟩⟩
theorem aN{X:Cx}{a:J5}{b:J5}{ta:TEd}{tb:TEd}{pos:Pos}{op:CmpOp}{r:D->D->Option D}(ho:bT X (N0 op) r) (ha:QEd X a ta) (hb:QEd X b tb) (hm:V2 op b=false):QTd X (.Compare a [op] [b] pos) (oa (dOp r ta tb)):=by
 simp only[QEd.eq,QTd.eq]at *
 refine(yd ho.v ha hb hm).conv fun σ H Q h=>?_;obtain⟨Δ,M,R,sr,hr,q,k⟩:=h;exact⟨Δ,M,_,sr,hr,q,fun x M1 v H1 q1 e1 hr1 rv=>⟨Δ,M1,_,sr.ext e1,hr1,q1,fun y M2 u H2 ⟨z,ez,b,eb,q2⟩ e2 hr2 ru=>⟨_,_,z,M2,hr2,(rv.ext e2).rd hr2,ru.rd hr2,ez,fun w H' e3 hr3 rw_ =>
  ⟨b,by subst eb;simpa only[Rep]using rw_,k b M2 H' q2 ((e1.trans e2).trans e3) hr3⟩⟩⟩⟩
theorem dI{X:Cx}{a:J5}{ta:TEd}(h:QEd X a ta) (he:∀whole,isTrue a X.env whole=(do let v <-whole;standAt a.pos;ac3 [v] (truthy v)):=by intro _;rfl):QTd X a (oa ta):=by
 simp only[QEd.eq,QTd.eq]at *
 exact(Az h he).conv DP
theorem qX{X:Cx}{a:J5}{pos:Pos}{tA:TTd}(h:QTd X a tA):QTd X (.UnaryOp .Not a pos) (Ai tA):=by
 simp only[QTd.eq]at *
 exact(Cw h).conv fun σ H Q hup=>hup.el fun Δ M R sr hr q k=>⟨Δ,M,_,sr,hr,q,fun b M1 H1 q1 e1 hr1=>k _ M1 H1 q1 e1 hr1⟩
theorem gz{X:Cx}{a:J5}{pos:Pos}{tA:TTd}(ha:QTd X a tA):QWd X (.BoolOp .And [a] pos) tA:=by
 simp only[QTd.eq,QWd.eq]at *
 exact yV ha
theorem Bu{X:Cx}{a:J5}{pos:Pos}{tA:TTd}(ha:QTd X a tA):QWd X (.BoolOp .Or [a] pos) tA:=by
 simp only[QTd.eq,QWd.eq]at *
 exact B6 ha
theorem gU{X:Cx}{a:J5}{b:J5}{pos:Pos}{tA:TTd}{tB':TTd}{br:List J5}(ha:QTd X a tA) (hb:QWd X (.BoolOp .And (b::br) pos) tB'):QWd X (.BoolOp .And (a::b::br) pos) (vw tA tB'):=by
 simp only[QTd.eq,QWd.eq]at *
 exact(By ha hb).conv fun σ H Q hup=>hup.el fun Δ M R sr hr q k=>⟨Δ,M,_,sr,hr,q,fun c M1 H1 q1 e1 hr1=>by
   cases c with
   |true=>simp only[if_true]at q1 ⊢;exact⟨Δ,M1,R,sr.ext e1,hr1,q1,fun b M2 H2 q2 e2 hr2=>k b M2 H2 q2 (e1.trans e2) hr2⟩
   |false=>simp only[N4,if_false]at q1 ⊢;exact k _ M1 H1 q1 e1 hr1⟩
theorem Dy{X:Cx}{a:J5}{b:J5}{pos:Pos}{tA:TTd}{tB':TTd}{br:List J5}(ha:QTd X a tA) (hb:QWd X (.BoolOp .Or (b::br) pos) tB'):QWd X (.BoolOp .Or (a::b::br) pos) (DJ tA tB'):=by
 simp only[QTd.eq,QWd.eq]at *
 exact(Dh ha hb).conv fun σ H Q hup=>hup.el fun Δ M R sr hr q k=>⟨Δ,M,_,sr,hr,q,fun c M1 H1 q1 e1 hr1=>by
   cases c with
   |false=>simp only[N4,if_false]at q1 ⊢;exact⟨Δ,M1,R,sr.ext e1,hr1,q1,fun b M2 H2 q2 e2 hr2=>k b M2 H2 q2 (e1.trans e2) hr2⟩
   |true=>simp only[if_true]at q1 ⊢;exact k _ M1 H1 q1 e1 hr1⟩
theorem zU{X:Cx}{a:J5}{ta:TEd}{pos:Pos}{op}(h:QEd X a ta):QEd X (.BoolOp op [a] pos) ta:=by
 simp only[QEd.eq]at *
 exact AI h
theorem zN{X:Cx}{a:J5}{b:J5}{ta:TEd}{tb:TEd}{pos:Pos}{br:List J5}(ha:QEd X a ta) (hb:QEd X (.BoolOp .And (b::br) pos) tb):QEd X (.BoolOp .And (a::b::br) pos) (D0 ta tb):=by
 simp only[QEd.eq]at *
 exact(BX ha hb).conv fun σ H Q hup=>hup.el fun Δ M R sr hr q k=>⟨Δ,M,_,sr,hr,q,fun d M1 v H1 ⟨c,e,q1⟩ e1 hr1 rv=>⟨c,by subst e;simpa only[Rep]using rv,by
   cases c with
   |true=>simp only[if_true]at q1 ⊢;exact⟨Δ,M1,R,sr.ext e1,hr1,q1,fun b M2 v2 H2 q2 e2 hr2 r2=>k b M2 v2 H2 q2 (e1.trans e2) hr2 r2⟩
   |false=>simp only[N4,if_false]at q1 ⊢;exact k _ M1 _ H1 q1 e1 hr1 (by simp[Rep])⟩⟩
theorem EB{X:Cx}{a:J5}{b:J5}{c:J5}{ta:TEd}{tb:TEd}{pos:Pos}{tA:TTd}(hc:QTd X c tA) (ha:QEd X a ta) (hb:QEd X b tb):QEd X (.IfExp c a b pos) (dIf tA ta tb):=by
 simp only[QEd.eq,QTd.eq]at *
 exact(wy hc ha hb).conv fun σ H Q hup=>hup.el fun Δ M R sr hr q k=>⟨Δ,M,_,sr,hr,q,fun c M1 H1 q1 e1 hr1=>by
   cases c with
   |true=>simp only[if_true]at q1 ⊢;exact⟨Δ,M1,R,sr.ext e1,hr1,q1,fun b M2 v2 H2 q2 e2 hr2 r2=>k b M2 v2 H2 q2 (e1.trans e2) hr2 r2⟩
   |false=>simp only[N4,if_false]at q1 ⊢;exact⟨Δ,M1,R,sr.ext e1,hr1,q1,fun b M2 v2 H2 q2 e2 hr2 r2=>k b M2 v2 H2 q2 (e1.trans e2) hr2 r2⟩⟩
theorem wO{X:Cx}{a:J5}{b:J5}{c:J5}{ta:TEd}{tb:TEd}{pos:Pos}{tc:TEd}{op op':CmpOp}{r r':D->D->Option D}(ho:bT X (N0 op) r) (ho':bT X (N0 op') r') (ha:QEd X a ta) (hb:QEd X b tb) (hc:QEd X c tc)
  (hm:lastMarks [op,op'] [b,c]=false:=by with_unfolding_all rfl):QTd X (.Compare a [op,op'] [b,c] pos) (oa (wQ r r' ta tb tc)):=by
 simp only[QEd.eq,QTd.eq]at *
 refine(wI ho.v ho'.v ha hb hc hm).conv fun σ H Q h=>?_;obtain⟨Δ,M,R,sr,hr,q,k⟩:=h;refine⟨Δ,M,_,sr,hr,q,fun x M1 v H1 q1 e1 hr1 rv=>⟨Δ,M1,_,sr.ext e1,hr1,q1,fun y M2 u H2 ⟨b,eb,q2⟩ e2 hr2 ru=>⟨_,_,.bl b,M2,hr2,(rv.ext e2).rd hr2,ru.rd hr2,eb,fun w H3 e3 hr3 rw_ =>
  ⟨b,by simpa only[Rep]using rw_,?_⟩⟩⟩⟩
 cases b with
 |true =>
  simp only[if_true]at q2 ⊢;exact⟨Δ,M2,_,(sr.ext (e1.trans e2)).ext e3,hr3,q2,fun z M4 w4 H4 ⟨d,ed,kb,ekb,q4⟩ e4 hr4 r4=>⟨_,_,d,M4,hr4,((ru.ext e3).ext e4).rd hr4,r4.rd hr4,ed,fun w5 H5 e5 hr5 r5=>⟨kb,by subst ekb;simpa only[Rep]using r5,k kb M4 H5 q4 ((((e1.trans e2).trans e3).trans e4).trans e5) hr5⟩⟩⟩
 |false =>
  simp only[N4,if_false]at q2 ⊢;obtain⟨kb,ekb,q2⟩:=q2;cases ekb;exact⟨false,rfl,k _ M2 H3 q2 ((e1.trans e2).trans e3) hr3⟩
theorem aH{X:Cx}{pos:Pos}{x:Str}{p:Pos}{e:J5}{es:List J5}{t:TAd}{id:String}{r:List D->Option D}(hc:bZ X (.builtin id) r) (hg:Gl X x) (hm:X.mg x=none) (hv:T7 x=some (.builtin id)) (ha:QAd X (e::es) t) (hn:x≠"__name__":=by decide) (hdb:(x==("__debug__":Str))=false:=by decide)
  (he:J7 (e::es) X.env=(false,V1 e X.env)::J7 es X.env:=by rfl) (hpl:(V8 pos (J7 es X.env)).any (·.1)=false:=by rfl):QEd X (.Call (.Name x p) (e::es) [] pos) (dCB r t):=by
 simp only[QEd.eq,QAd.eq]at *
 exact(xt hc.v hg hm hv ha hn hdb he hpl).conv zT
theorem cj{X:Cx}{pos:Pos}{x:Str}{p:Pos}{e:J5}{es:List J5}{t:TAd}{id:String}{r:List D->Option D}(hc:bZ X (.type id) r) (hg:Gl X x) (hm:X.mg x=none) (hv:T7 x=some (.type id)) (ha:QAd X (e::es) t) (hn:x≠"__name__":=by decide) (hdb:(x==("__debug__":Str))=false:=by decide)
  (he:J7 (e::es) X.env=(false,V1 e X.env)::J7 es X.env:=by rfl) (hpl:(V8 pos (J7 es X.env)).any (·.1)=false:=by rfl):QEd X (.Call (.Name x p) (e::es) [] pos) (dCB r t):=by
 simp only[QEd.eq,QAd.eq]at *
 exact(uN hc.v hg hm hv ha hn hdb he hpl).conv zT
theorem bp{X:Cx}:QSs X [] wj:=by
 simp only[QSs.eq]at *
 exact zc.conv fun D σ H hup=>hup.el fun Δ M E sr hr q u=>u.nx Δ M σ H q (Ext.refl _ _) hr sr
theorem ak{X:Cx}{st:ab2}{br:List ab2}{t:TSd}{u:TSd}(h1:QSd X st t) (h2:QSs X br u):QSs X (st::br) (CN t u):=by
 simp only[QSd.eq,QSs.eq]at *
 exact(vj h1 h2).conv fun D σ H hup=>hup.el fun Δ M E sr hr q k=>⟨Δ,M,{ E with nx:=u E },sr,hr,q,⟨fun Δ' M' σ' H' q' e' hr' sr'=>⟨Δ',M',E,sr',hr',q',k.ext e'⟩,k.bk,k.ct,k.rt⟩⟩
theorem aw{X:Cx}{st:ab2}{t:TSd}(h1:QSd X st t):QSs X [st] t:=by
 simp only[QSd.eq,QSs.eq]at *
 exact zf h1
theorem aU{X:Cx}{e:J5}{te:TEd}{pos:Pos}(he:QEd X e te):QSd X (.Return (some e) pos) (D1 te):=by
 simp only[QEd.eq,QSd.eq]at *
 exact(qS he).conv fun D σ H hup=>hup.el fun Δ M E sr hr q k=>⟨Δ,M,_,sr,hr,q,k.rt⟩
theorem cH{X:Cx}{e:J5}{te:TEd}{pos:Pos}(he:QEd X e te) (hs:W9 e none pos.line X.env=V9 false:=by rfl):QSd X (.Expr e pos) (vQ te):=by
 simp only[QEd.eq,QSd.eq]at *
 exact(yf he hs).conv fun D σ H hup=>hup.el fun Δ M E sr hr q k=>⟨Δ,M,_,sr,hr,q,fun d M1 v H1 q1 e1 hr1 _=>k.nx Δ M1 σ H1 q1 e1 hr1 (sr.ext e1)⟩
theorem bN{X:Cx}{c:J5}{pos:Pos}{t:TSd}{u:TSd}{sa sb:List ab2}{tc:TTd}(hc:QTd X c tc) (ha:QSs X sa t) (hb:QSs X sb u):QSd X (.If c sa sb pos) (BS tc t u):=by
 simp only[QTd.eq,QSd.eq,QSs.eq]at *
 exact(Du hc ha hb).conv fun D σ H hup=>hup.el fun Δ M E sr hr q k=>⟨Δ,M,_,sr,hr,q,fun b M1 H1 q1 e1 hr1=>by
   cases b with
   |true=>simp only[if_true]at q1 ⊢;exact⟨Δ,M1,E,sr.ext e1,hr1,q1,k.ext e1⟩
   |false=>simp only[N4,if_false]at q1 ⊢;exact⟨Δ,M1,E,sr.ext e1,hr1,q1,k.ext e1⟩⟩
theorem aI{X:Cx}{e:J5}{te:TEd}{pos:Pos}{i:Nat}{x:Str}{pos':Pos}(hN:X.N.Nodup) (hi:X.N[i]?=some x) (hx:Loc X.env.scope x) (he:QEd X e te) (hs:W9 e (some (.Name x pos')) pos.line X.env=V9 false:=by rfl) (hf:X.fn x=true∨X.env.scope.names.lookup x=some .local:=by first|exact .inl rfl|exact .inr rfl|assumption) :
  QSd X (.Assign [.Name x pos'] e pos) (v7 i te):=by
 simp only[QEd.eq,QSd.eq]at *
 exact(BE hN hi hx he hs hf).conv fun D σ H hup=>hup.el fun Δ M E sr hr q k=>⟨Δ,M,_,sr,hr,q,fun d M1 v H1 q1 e1 hr1 rv=>k.nx _ M1 _ H1 q1 e1 hr1 ((sr.ext e1).set i rv)⟩
theorem Dj{X:Cx}{e:J5}{te:TEd}{pos:Pos}{i:Nat}{x:Str}{op:ad6}{r:D->D->Option D}{pos':Pos}(hN:X.N.Nodup) (hi:X.N[i]?=some x) (hx:Loc X.env.scope x) (he:QEd X e te) (ho:bT X (ad8 op) r) (hf:X.fn x=true∨X.env.scope.names.lookup x=some .local:=by first|exact .inl rfl|exact .inr rfl|assumption) :
  QSd X (.AugAssign (.Name x pos') op e pos) (CF i te r):=by
 simp only[QEd.eq,QSd.eq]at *
 have h:PIp X op (opV X.K r):=fun ag s σ H x y v u Q I rx ry q=>ho.v ag s σ H x y v u Q I rx ry q;refine(A4 hN hi hx he h hf).conv fun D σ H hh=>?_;obtain⟨Δ,M,E,sr,hr,⟨d,ed,q⟩,k⟩:=hh;obtain⟨v,ev,rv⟩:=sr.2 i d ed;refine⟨v,ev,Δ,M,_,sr,hr,q,fun y M1 w H1 ⟨z,ez,q1⟩ e1 hr1 rw_=>⟨_,_,z,M1,hr1,(rv.ext e1).rd hr1,rw_.rd hr1,ez,fun w2 H2 e2 hr2 r2=>k.nx _ M1 _ H2 q1 (e1.trans e2) hr2 (((sr.ext e1).ext e2).set i r2)⟩⟩
theorem n8{X:Cx}{t:TSd}{sts:List ab2}(i:Nat) (h:QSs X sts t):QSs X sts (wV i t):=by
 simp only[QSs.eq]at *
 exact PSs.conv h fun D σ H ⟨Δ,M,E,sr,hr,⟨a,ds,e1,e2,q⟩,k⟩=>by
  refine⟨_,iC M a,E,?_,hr.le LeM.del,q,k.ext (Ext.le LeM.del)⟩;obtain⟨v,ev,rv⟩:=sr.2 i _ e1;simp only[Rep]at rv;subst rv;have:=(sr.ext (Ext.le (M1:=iC M a) LeM.del)).set i (Rep.froze (M1:=iC M a) hr LeM.del e2 gB);have es:σ.set i (some (.ref a))=σ:=by
   apply List.ext_getElem?;intro j
   by_cases hj:j=i
   ·subst hj;have hl:j<σ.length:=(L7.mp ev).1;rw[Q5 hl,ev]
   ·rw[U5 (X7 hj)]
  rw[es]at this;exact this
theorem CQ{X:Cx}{e:J5}{te:TEd}{pos:Pos}{tg:J5}{g:GD}(he:QEd X e te) (hg:PGd X tg g) (hs:swapsWithSole [tg] e pos.line X.env=V9 false:=by rfl) (hw:swappedStores [tg] e X.env=V9 none:=by rfl)
  (h1:(N1 [tg] X.env).map (·.2)=[U6 tg X.env]:=by rfl):QSd X (.Assign [tg] e pos) (DN te g):=by
 simp only[QEd.eq,QSd.eq]at *
 obtain⟨gv,pg,kg⟩:=hg;exact(xc he pg hs hw h1).conv fun D σ H hup=>hup.el fun Δ M E sr hr q k=>⟨Δ,M,_,sr,hr,q,fun d M1 v H1 ⟨Δ',eg,q1⟩ e1 hr1 rv=>kg d v σ Δ Δ' M1 H1 _ (sr.ext e1) hr1 rv eg fun σ' sr'=>k.nx Δ' M1 σ' H1 q1 e1 hr1 sr'⟩
theorem cJ{X:Cx}{a:J5}{pos:Pos}{tg:J5}{ta:TAd}{p:Pos}(hg:Gl X "range") (hm:X.mg "range"=none) (ha:QAd X [a] ta) (hs:J7 [a] X.env=[(false,V1 a X.env)]:=by rfl):QId X tg (.Call (.Name "range" p) [a] [] pos) (xo ta):=by
 simp only[QAd.eq,QId.eq]at *
 exact(uO hg hm ha hs).conv fun σ H R hup=>hup.el fun Δ M R' sr hr q k=>⟨Δ,M,_,sr,hr,q,fun ds M1 vs H1 ⟨j,ed,h1,h2,q1⟩ e1 hr1 rv=>by
   subst ed;obtain⟨v,ev,rv1⟩:=rv.one;have ev1:v=.int j:=by simpa only[Rep]using rv1
   subst ev1;subst ev;exact⟨j,rfl,h1,h2,k _ M1 _ H1 q1 e1 hr1 zo⟩⟩
theorem dP{X:Cx}{pos:Pos}{tg:J5}{iter:J5}{body:List ab2}{wi:TId}{g:GD}{tb:TSd}(hp:ad9 (K6 X.prog X.w) X.A X.env X.xe) (hc:X.calm=true) (hi:QId X tg iter wi) (hg:PGd X tg g) (hb:QSs X body tb)
  (hs:∀x,O3 iter X.env x=V9 x:=by intro _;rfl):QSd X (.For tg iter body [] pos) (D3 wi g tb):=by
 simp only[QSd.eq,QSs.eq,QId.eq]at *
 obtain⟨gv,pg,kg⟩:=hg;refine(Cf hp hc hi pg hb hs).conv fun D σ H hh=>?_;obtain⟨Δ,M,E,sr,hr,q,k⟩:=hh;refine⟨Δ,M,_,sr,hr,q,fun ds M1 J H1 q1 e1 hr1 it=>?_⟩;refine⟨fun i m σ' H'=>∃ Δ' M',m=ds.length-i/\i<=ds.length/\Ext M1 H1 M' H'/\HR X.K M' H'/\SR X.K M' H' σ' Δ'/\cR g tb E (ds.drop i) Δ' M',⟨ds.length,Δ,M1,by simp,R5 _,Ext.refl _ _,hr1,sr.ext e1,q1⟩,?_⟩;rintro i m σ2 H2 ⟨Δ2,M2,rfl,hi2,e2,hr2,sr2,f2⟩;obtain⟨go,stop⟩:=it M2 H2 e2 hr2 i
 by_cases hlt:i<ds.length
 ·have hd:ds[i]?=some ds[i]:=by simp[hlt]
  obtain⟨g1,y1⟩:=go _ hd;rw[List.drop_eq_getElem_cons hlt]at f2;simp only[cR]at f2;obtain⟨Δ3,eg,f3⟩:=f2;refine .inr ⟨g1,fun σ' H'=>∃m',m'<ds.length-i/\∃ Δ' M',m'=ds.length-(i+1)/\i+1<=ds.length/\Ext M1 H1 M' H'/\HR X.K M' H'/\SR X.K M' H' σ' Δ'/\cR g tb E (ds.drop (i+1)) Δ' M',fun σ' H' z=>z,fun x H' hy=>?_⟩;obtain⟨e3,hr3,rx⟩:=y1 x H' hy;refine kg _ x σ2 Δ2 Δ3 M2 H' _ (sr2.ext e3) hr3 rx eg fun σ3 sr3=>?_;refine⟨Δ3,M2,_,sr3,hr3,f3,⟨fun Δ' M' σ' H'' q' e' hr' sr'=>?_,fun Δ' M' σ' H'' q' e' hr' sr'=>?_,fun Δ' M' σ' H'' q' e' hr' sr'=>?_,fun d M' v H'' q' e' hr' rv'=>?_⟩⟩
  ·exact⟨_,by lia,Δ',M',rfl,hlt,(e2.trans e3).trans e',hr',sr',q'⟩
  ·exact k.nx Δ' M' σ' H'' q' (((e1.trans e2).trans e3).trans e') hr' sr'
  ·exact⟨_,by lia,Δ',M',rfl,hlt,(e2.trans e3).trans e',hr',sr',q'⟩
  ·exact k.rt d M' v H'' q' (((e1.trans e2).trans e3).trans e') hr' rv'
 ·rw[List.drop_eq_nil_of_le (by lia)]at f2;exact .inl ⟨stop (by lia),k.nx Δ2 M2 σ2 H2 f2 (e1.trans e2) hr2 sr2⟩
theorem sj{X:Cx}{c:J5}{pos:Pos}{body:List ab2}{tc:TTd}{tb:TSd}(hp:ad9 (K6 X.prog X.w) X.A X.env X.xe) (hc:QTd X c tc) (hb:QSs X body tb):QSd X (.While c body [] pos) (vL tc tb):=by
 simp only[QTd.eq,QSd.eq,QSs.eq]at *
 refine(xB hp hc hb).conv fun D σ H hh=>?_;obtain⟨Δ,M,E,sr,hr,⟨W,⟨m0,w0⟩,turn⟩,k⟩:=hh;refine⟨fun m σ' H'=>∃ Δ' M',Ext M H M' H'/\HR X.K M' H'/\SR X.K M' H' σ' Δ'/\W m Δ' M',⟨m0,Δ,M,Ext.refl _ _,hr,sr,w0⟩,?_⟩;rintro m σ1 H1 ⟨Δ1,M1,e1,hr1,sr1,w1⟩;refine⟨Δ1,M1,_,sr1,hr1,turn m Δ1 M1 w1,fun b M2 H2 q2 e2 hr2=>?_⟩;cases b with
 |true =>
  simp only[if_true]at q2 ⊢;refine⟨fun σ' H'=>∃m',m'<m/\∃ Δ' M',Ext M H M' H'/\HR X.K M' H'/\SR X.K M' H' σ' Δ'/\W m' Δ' M',fun σ' H' z=>z,Δ1,M2,_,sr1.ext e2,hr2,q2,⟨fun Δ' M' σ' H'' ⟨m',hm,w'⟩ e' hr' sr'=>?_,fun Δ' M' σ' H'' q' e' hr' sr'=>?_,fun Δ' M' σ' H'' ⟨m',hm,w'⟩ e' hr' sr'=>?_,fun d M' v H'' q' e' hr' rv'=>?_⟩⟩
  ·exact⟨m',hm,Δ',M',(e1.trans e2).trans e',hr',sr',w'⟩
  ·exact k.nx Δ' M' σ' H'' q' ((e1.trans e2).trans e') hr' sr'
  ·exact⟨m',hm,Δ',M',(e1.trans e2).trans e',hr',sr',w'⟩
  ·exact k.rt d M' v H'' q' ((e1.trans e2).trans e') hr' rv'
 |false =>
  simp only[N4,if_false]at q2 ⊢;exact k.nx Δ1 M2 σ1 H2 q2 (e1.trans e2) hr2 (sr1.ext e2)
theorem fC{X:Cx}:QIf X [] CH:=by
 simp only[QIf.eq]at *
 exact fun ag s σ H Q I ⟨Δ,M,R,sr,hr,q,k⟩=>zM ag s σ H Q I (k true M H q (Ext.refl _ _) hr)
theorem dm{X:Cx}{c:J5}{tc:TTd}(h:QTd X c tc):QIf X [c] tc:=by
 simp only[QTd.eq,QIf.eq]at *
 exact xV h
theorem jT{X:Cx}{pos:Pos}{tg:J5}{iter:J5}{elt:J5}{scope:R0}{cl:List (Str×F9)}{ms:List Bool}{aj:List Str}{ifs:List J5}{wi:TId}{g:GD}{tc:TTd}{te:TEd}(S:cQ X scope cl ms aj) (bA:X.calm=true) (hi:QId X tg iter wi) (hg:PGa X scope cl aj tg g)
  (hif:∀C s H ex,QIf (aB X scope cl (X.N++aj) C s H ex) ifs tc) (he:∀C s H ex,QEd (aB X scope cl (X.N++aj) C s H ex) elt te)
  (hs:∀x,O3 iter X.env x=V9 x:=by intro _;rfl):QEd X (.ListComp elt [⟨tg,iter,ifs,0⟩] scope pos) (dLc ms aj.length wi g tc te):=by
 simp only[QEd.eq,QId.eq,QIf.eq]at *
 obtain⟨gv,pg,kg⟩:=hg;exact(Bc (tc:=upT X.K tc) S bA hi pg hif (rK (te:=up X.K te) he) hs).conv (oo kg)
theorem gE{X:Cx}{pos:Pos}{tg:J5}{iter:J5}{elt:J5}{scope:R0}{cl:List (Str×F9)}{ms:List Bool}{aj:List Str}{ifs:List J5}{i:Nat}{x:Str}{spos pos':Pos}{wi:TId}{g:GD}{tc:TTd}{te:TEd}(hN:X.N.Nodup) (hix:X.N[i]?=some x) (hx:X.env.scope.names.lookup x=some .local)
  (hsw:W9 (.ListComp elt [⟨tg,iter,ifs,0⟩] scope pos) (some (.Name x pos')) spos.line X.env=V9 true) (S:cQ X scope cl ms aj) (bA:X.calm=true) (hi:QId X tg iter wi) (hg:PGa X scope cl aj tg g)
  (hif:∀C s H ex,QIf (aB X scope cl (X.N++aj) C s H ex) ifs tc) (he:∀C s H ex,QEd (aB X scope cl (X.N++aj) C s H ex) elt te)
  (hs:∀x,O3 iter X.env x=V9 x:=by intro _;rfl):QSd X (.Assign [.Name x pos'] (.ListComp elt [⟨tg,iter,ifs,0⟩] scope pos) spos) (v7 i (dLc ms aj.length wi g tc te)):=by
 simp only[QEd.eq,QSd.eq,QId.eq,QIf.eq]at *
 obtain⟨gv,pg,kg⟩:=hg;refine(mZ (tc:=upT X.K tc) hN hix hx hsw S bA hi pg hif (rK (te:=up X.K te) he) hs).conv fun D σ H hh=>?_;obtain⟨Δ,M,E,sr,hr,q,k⟩:=hh;exact oo kg σ H _ ⟨Δ,M,_,sr,hr,q,fun d M1 v H1 q1 e1 hr1 rv=>k.nx _ M1 _ H1 q1 e1 hr1 ((sr.ext e1).set i rv)⟩
theorem fE{X:Cx}{e:J5}{te:TEd}{o:J5}{to:TEd}{cb bf:Pos}(ho:QEd X o to) (he:QEd X e te) (dU:X4 o "append" X.env (V1 o X.env)=V1 o X.env:=by rfl)
  (hse:J7 [e] X.env=(false,V1 e X.env)::J7 [] X.env:=by rfl)
  (oM:((V8 bf (J7 [e] X.env)).all (fun x => !x.1) && (backToKw bf (ac6 [] X.env)).all (fun x => x.1.isSome)
  &&decide ([e].length+([]:List ac7).length+(if([]:List ac7).isEmpty then 0 else 1)<30))=true:=by rfl)
  (dN:(cb.endLine==bf.line)=true:=by rfl) (g7:(V8 bf (J7 [] X.env)).any (·.1)=false:=by rfl):QEd X (.Call (.Attribute o "append" cb) [e] [] bf) (A8 to te):=by
 simp only[QEd.eq]at *
 exact(wb PySem.F.plainAttrs_list PySem.F.slot_list_append PySem.F.type_list_append (show MtR X "list.append" sG from uM) ho (j5 he nN hse) dU oM dN hse g7).conv fun σ H Q hup=>hup.el fun Δ M R sr hr q k=>⟨Δ,M,_,sr,hr,q,fun o M1 ov H1 ⟨a,l,eo,em,q1⟩ e1 hr1 ro=>by
   subst eo;simp only[Rep]at ro;subst ro;obtain⟨vs,hv,rl⟩:=hr1 a _ em;refine⟨.inl ⟨rfl,vs,SqL.of hv⟩,Δ,M1,_,sr.ext e1,hr1,q1,fun d M2 v H2 ⟨ds,em2,hz,q2⟩ e2 hr2 rv=>?_⟩;obtain⟨ws,hw,rl2⟩:=hr2 a _ em2;refine⟨a,ws,v,rfl,rfl,hw,by rw[<-rl2.length];exact hz,k _ _ _ _ q2 ((e1.trans e2).trans (Ext.write em2)) (hr2.write em2 (rl2.append (ar.cons rv ar.nil))) (by simp[Rep])⟩⟩
theorem dv{X:Cx}:QOd X none nW:=by
 simp only[QEd.eq,QAd.eq,QTd.eq,QWd.eq,QSd.eq,QSs.eq,QId.eq,QIf.eq,QOd.eq]at *
 exact zj 
theorem bV{X:Cx}{e:J5}{te:TEd}(h:QEd X e te):QOd X (some e) (wC te):=by
 simp only[QEd.eq,QAd.eq,QTd.eq,QWd.eq,QSd.eq,QSs.eq,QId.eq,QIf.eq,QOd.eq]at *
 exact xY (h:=h)
theorem qc{X:Cx}{e:J5}{es:List J5}{t:TAd}{pos:Pos}{p:Pos}{x:Str}{k:Nat}{n:Nat}{S:SpD}(F:FnD X.prog X.w X.K X.mg X.base x k n S) (hr:cw k X.A) (hg:Gl X x) (ha:QAd X (e::es) t) (hdb:(x==("__debug__":Str))=false:=by decide) (he:J7 (e::es) X.env=(false,V1 e X.env)::J7 es X.env:=by rfl) (hpl:(V8 pos (J7 es X.env)).any (·.1)=false:=by rfl) :
  QEd X (.Call (.Name x p) (e::es) [] pos) (kW n S t):=by
 simp only[QEd.eq,QAd.eq,QTd.eq,QWd.eq,QSd.eq,QSs.eq,QId.eq,QIf.eq,QOd.eq]at *
 exact dc (F:=F) (hr:=hr) (hg:=hg) (ha:=ha) (hdb:=hdb) (he:=he) (hpl:=hpl)
theorem vE{X:Cx}{e:J5}{te:TEd}{pos:Pos}(he:QEd X e te):QSd X (.Return (some e) pos) (z7 te):=by
 simp only[QEd.eq,QSd.eq]at *
 exact(qS he).conv fun D σ H hup=>hup.el fun Δ M E sr hr q k=>⟨Δ,M,_,sr,hr,q,fun d M1 v H1 ⟨a,ds,ed,em,q1⟩ e1 hr1 rv=>by
  subst ed;simp only[Rep]at rv;subst rv;exact k.rt _ _ _ H1 q1 (e1.trans (Ext.le LeM.del)) (hr1.le LeM.del) (Rep.froze hr1 LeM.del em gB)⟩
theorem bz{X:Cx}{te:TEd}{tg:J5}{iter:J5}(h:QEd X iter te):QId X tg iter (z6 te):=by
 simp only[QEd.eq,QId.eq]at *
 intro ag s σ H R I hh;obtain⟨Δ,M,R',sr,hr,q,k⟩:=hh;refine thn (h ag s σ H (fun v H1=>∃d ds M1,g9 d=some ds/\(ds.length<=F2->R' ds M1)/\Ext M H M1 H1/\HR X.K M1 H1/\Rep X.K M1 H1 d v) I ⟨Δ,M,_,sr,hr,q,fun d M1 v H1 ⟨ds,ed,q1⟩ e1 hr1 rv=>⟨d,ds,M1,ed,q1,e1,hr1,rv⟩⟩) fun u s1 ⟨v,H1,I1,r1,d,ds,M1,ed,q1,e1,hr1,rv⟩=>?_;have lo:=aR.len (K:=X.K) I1 rv;cases d with
 |tup es =>
  cases ed;simp only[Rep]at rv;obtain⟨a,vs,rfl,ta,rl⟩:=rv;cases r1;obtain⟨its,rvv,p,hz⟩:=I1.tuple ta.sq;refine wpAny_pyIter_tuple (show s1.heap.IsTuple a its.toArray from p) ?_;refine⟨s1.heap.objs.size,[s1.heap.objs.size],_,_,H1,rfl,I1.kept (t':=s1.toks) fun b o e=>F1 _ e,qx a _,⟨_,F6 _ rfl,rfl,rfl⟩,oz (o:=default) I1,?_⟩;refine k _ M1 _ H1 (q1 lo) e1 hr1 fun M2 H2 e2 hr2 i=>⟨fun d hd=>?_,fun hl=>⟨vs,(ta.ext e2).sq,by rw[<-rl.length];exact hl⟩⟩;obtain⟨v,gv,r⟩:=rl.get hd;refine⟨⟨vs,v,(ta.ext e2).sq,gv⟩,fun x H' ⟨eH,y⟩=>?_⟩;subst eH;have:=y vs (ta.ext e2).sq;rw[gv]at this;cases this;exact⟨Ext.refl _ _,hr2,r.ext e2⟩
 |lst es =>
  cases ed;simp only[Rep]at rv;obtain⟨a,vs,rfl,ta,rl⟩:=rv;cases r1;obtain⟨its,rvv,p,hz⟩:=I1.list (SqL.of ta.1);refine wpAny_pyIter_list p.isList ?_;refine⟨s1.heap.objs.size,[s1.heap.objs.size],_,_,H1,rfl,I1.kept (t':=s1.toks) fun b o e=>F1 _ e,mM a _,⟨_,F6 _ rfl,rfl,rfl⟩,oz (o:=default) I1,?_⟩;refine k _ M1 _ H1 (q1 lo) e1 hr1 fun M2 H2 e2 hr2 i=>⟨fun d hd=>?_,fun hl=>⟨vs,SqL.of (ta.ext e2).1,by rw[<-rl.length];exact hl⟩⟩;obtain⟨v,gv,r⟩:=rl.get hd;refine⟨⟨vs,v,SqL.of (ta.ext e2).1,gv⟩,fun x H' ⟨eH,y⟩=>?_⟩;subst eH;have:=y vs (SqL.of (ta.ext e2).1);rw[gv]at this;cases this;exact⟨Ext.refl _ _,hr2,r.ext e2⟩
 |scr es =>
  cases ed;simp only[Rep]at rv;obtain⟨a,vs,rfl,ta,rl⟩:=rv;cases r1;obtain⟨its,rvv,p,hz⟩:=I1.list ta.sq;refine wpAny_pyIter_list p.isList ?_;refine⟨s1.heap.objs.size,[s1.heap.objs.size],_,_,H1,rfl,I1.kept (t':=s1.toks) fun b o e=>F1 _ e,mM a _,⟨_,F6 _ rfl,rfl,rfl⟩,oz (o:=default) I1,?_⟩;refine k _ M1 _ H1 (q1 lo) e1 hr1 fun M2 H2 e2 hr2 i=>⟨fun d hd=>?_,fun hl=>⟨vs,(ta.ext e2).sq,by rw[<-rl.length];exact hl⟩⟩;obtain⟨v,gv,r⟩:=rl.get hd;refine⟨⟨vs,v,(ta.ext e2).sq,gv⟩,fun x H' ⟨eH,y⟩=>?_⟩;subst eH;have:=y vs (ta.ext e2).sq;rw[gv]at this;cases this;exact⟨Ext.refl _ _,hr2,r.ext e2⟩
 |str x =>
  simp only[g9]at ed
  by_cases hz:x.length<=F2
  ·rw[if_pos hz]at ed;cases ed;simp only[Rep]at rv;subst rv;obtain⟨t,rfl⟩:=r1;have hq:=k _ M1 _ H1 (q1 (by have hz2:x.cps.size<=F2:=hz;simpa[ik]using hz2)) e1 hr1 BO;cases ha:x.cps.all (·<128)
   ·exact wpAny_pyIter_wide ha (sU I1 "str_iterator" (by decide) (fun A hA=>Walks.strWide hA _ x t) (fun A i s' Q E st q=>wpAny_pyIter_striter_wide st q) hq)
   ·exact wpAny_pyIter_ascii ha (sU I1 "str_ascii_iterator" (by decide) (fun A hA=>Walks.strAscii hA _ x t) (fun A i s' Q E st q=>wpAny_pyIter_striter_ascii st q) hq)
  ·rw[if_neg hz]at ed;cases ed
 |_=>cases ed
theorem dX{X:Cx}{e:J5}{te:TEd}{pos:Pos}(he:QEd X e te):QSd X (.Return (some e) pos) (Al te):=by
 simp only[QEd.eq,QSd.eq]at *
 exact(qS he).conv fun D σ H hup=>hup.el fun Δ M E sr hr q k=>⟨Δ,M,_,sr,hr,q,fun d M1 v H1 ⟨M2,hle,q1⟩ e1 hr1 rv =>
  k.rt _ _ _ H1 q1 (e1.trans (Ext.le hle)) (hr1.le hle) (rv.ext (Ext.le hle))⟩
theorem AO{X:Cx}{a:J5}{t:TAd}{pos:Pos}{tg:J5}{p:Pos}(hg:Gl X "reversed") (hm:X.mg "reversed"=none) (ha:QAd X [a] t) (hs:J7 [a] X.env=[(false,V1 a X.env)]:=by rfl):QId X tg (.Call (.Name "reversed" p) [a] [] pos) (Ab t):=by
 simp only[QAd.eq,QId.eq]at *
 intro ag s σ H R I hh;obtain⟨Δ,M,R',sr,hr,q,k⟩:=hh;refine Call_ (e8 I hg hm ml (O6 (thn (ha pos ag s σ H (fun vs H1=>∃es M1,ar X.K M1 H1 [.tup es] vs/\(es.length<=F2->R' es.reverse M1)/\Ext M H M1 H1/\HR X.K M1 H1) I ⟨Δ,M,_,sr,hr,q,fun ds M1 vs H1 ⟨es,ed,q1⟩ e1 hr1 rv=>⟨es,M1,by rw[<-ed];exact rv,q1,e1,hr1⟩⟩) fun us s1 ⟨vs,H1,I1,r1,es,M1,rv,q1,e1,hr1⟩=>?_) hs rfl));obtain⟨v,rfl,rt⟩:=rv.one;cases r1 with
 |cons r rr =>
  cases rr;have lo:=aR.len (K:=X.K) I1 rt;simp only[Rep]at rt;obtain⟨ad,vs,rfl,ta,rl⟩:=rt;cases r;obtain⟨its,rvv,pt,hz⟩:=I1.tuple ta.sq;have hl1:=rvv.length;have hl2:=rl.length;have hsz:its.toArray.size<2 ^ 63:=by have:=wg;simp;lia
  refine kK pt hsz fun kk=>?_;refine eA (i:=(its.toArray.size:Int)-1) ⟨_,F6 _ rfl,rfl,rfl⟩ ?_;refine⟨s1.heap.objs.size,[s1.heap.objs.size],_,_,H1,rfl,I1.kept (t':=kk) fun b o e=>F1 _ e,vF ad _ es.length,⟨R5 _,_,F6 _ rfl,rfl,?_⟩,oz (o:=default) I1,?_⟩
  ·show Data.fields _=_;have e1:(its.toArray.size:Int)-1=(es.length:Int)-1-((0:Nat):Int):=by simp;lia
   rw[e1]
  ·refine k _ M1 _ H1 (q1 lo) e1 hr1 fun M2 H2 e2 hr2 i=>⟨fun d hd=>?_,fun hl=>by show es.length<=i;simpa using hl⟩;have hi:i<es.length:=by
    have:=(L7.mp hd).1;simpa using this
   rw[List.getElem?_reverse hi]at hd;obtain⟨v,gv,r⟩:=rl.get hd;refine⟨⟨⟨vs,(ta.ext e2).sq,by lia⟩,hi⟩,fun x H' ⟨eH,y⟩=>?_⟩;subst eH;have:=y vs (ta.ext e2).sq;rw[gv]at this;cases this;exact⟨Ext.refl _ _,hr2,r.ext e2⟩
theorem cf{X:Cx}{e:J5}{te:TEd}{pos:Pos}{lo hi:Option J5}{tl th:TOd}{p2:Pos}(he:QEd X e te) (hl:QOd X lo tl) (hu:QOd X hi th):QEd X (.Subscript e (.Slice lo hi none p2) pos) (Dc te tl th):=by
 simp only[QEd.eq,QOd.eq]at *
 refine(xq (SlR.or yK (SlR.or B8 (SlR.or BW xn))) he hl hu).conv fun σ H Q hh=>?_;obtain⟨Δ,M,R,sr,hr,q,k⟩:=hh;refine⟨Δ,M,_,sr,hr,q,fun x M1 v H1 q1 e1 hr1 rv=>⟨Δ,M1,_,sr.ext e1,hr1,q1,fun l M2 H2 q2 e2 hr2=>⟨Δ,M2,_,(sr.ext e1).ext e2,hr2,q2,fun u M3 H3 ⟨z,ez,q3⟩ e3 hr3=>?_⟩⟩⟩;have rr:=((rv.ext e2).ext e3).rd hr3;have ee:=(e1.trans e2).trans e3;have kk:∀w H',Ext M3 H3 M3 H'->HR X.K M3 H'->Rep X.K M3 H' z w->Q w H':=fun w H' e4 hr4 r4=>k z M3 w H' q3 (ee.trans e4) hr4 r4;generalize rdM M3 x=d at rr ez;cases d with
 |lst ds =>
  cases ez;obtain⟨a,vs,rfl,sq,rl⟩:=rr;refine .inl ⟨a,vs,rfl,SqL.of sq,fun p hp=>gY hr3 hp ?_ kk⟩;unfold du oP;rw[<-rl.length];exact(rl.drop _).take _
 |scr ds =>
  cases ez;obtain⟨a,vs,rfl,sq,rl⟩:=rr;refine .inl ⟨a,vs,rfl,sq,fun p hp=>gY hr3 hp ?_ kk⟩;unfold du oP;rw[<-rl.length];exact(rl.drop _).take _
 |str s =>
  simp only[slE,slD]at ez
  by_cases hz:s.length<=F2
  ·rw[if_pos hz]at ez;cases ez;exact .inr (.inr (.inl ⟨s,mh rr,hz,kk _ H3 (Ext.refl _ _) hr3 (by simp[Rep])⟩))
  ·rw[if_neg hz]at ez;cases ez
 |tup ds =>
  cases ez;have rt:=aR.tup hr3 rr;obtain⟨a,vs,rfl,sq,rl⟩:=rr
  by_cases hw:HT.sIx ds.length 0 l=0/\HT.sIx ds.length ds.length u=ds.length
  ·refine .inr (.inr (.inr ⟨a,vs,rfl,sq,by rw[<-rl.length];exact hw,kk _ H3 (Ext.refl _ _) hr3 ?_⟩));rw[qG hw];exact rt
  ·refine .inr (.inl ⟨a,vs,rfl,sq,by rw[<-rl.length];exact hw,fun p hp=>jd hr3 hp ?_ kk⟩);unfold du oP;rw[<-rl.length];exact(rl.drop _).take _
 |_=>cases ez
theorem pS{X:Cx}{e:J5}{te:TEd}{ts:TEd}{pos:Pos}{st:J5}{p2:Pos}(he:QEd X e te) (hs:QEd X st ts):QEd X (.Subscript e (.Slice none none (some st) p2) pos) (vf te ts):=by
 simp only[QEd.eq]at *
 intro ag s σ H Q I hh;obtain⟨Δ,M,R,sr,hr,q,k⟩:=hh;refine ab6 (thn (he ag s σ H (fun v H1=>∃x M1,Rep X.K M1 H1 x v/\Ext M H M1 H1/\HR X.K M1 H1/\ts Δ M1 fun st M2=>st=.int (-1)/\∃ds,x=.tup ds/\R (.tup ds.reverse) M2) I
  ⟨Δ,M,_,sr,hr,q,fun x M1 v H1 q1 e1 hr1 rv=>⟨x,M1,rv,e1,hr1,q1⟩⟩) fun v s1 ⟨vx,H1,I1,r1,x,M1,rv,e1,hr1,q1⟩=>?_)
 refine wpAny_Slice ?_;rw[aa6];refine F4 (F4 ?_);rw[evalPart_some];refine thn (hs ag s1 σ H1 (fun u H2=>∃M2 ds,u=.int (-1)/\x=.tup ds/\R (.tup ds.reverse) M2/\Ext M1 H1 M2 H2/\HR X.K M2 H2) I1 ⟨Δ,M1,_,sr.ext e1,hr1,q1,fun d M2 u H2 ⟨ed,ds,ex,q2⟩ e2 hr2 ru=>⟨M2,ds,by subst ed;simpa only[Rep]using ru,ex,q2,e2,hr2⟩⟩) fun u s2 ⟨vu,H2,I2,r2,M2,ds,eu,ex,q2,e2,hr2⟩=>?_;subst eu;subst ex;obtain⟨tk,rfl⟩:=r2;have rv2:=rv.ext e2;simp only[Rep]at rv2;obtain⟨ad,vs,rfl,ta,rl⟩:=rv2;cases r1;have I4:Inv X ag σ H2 { s2 with heap:=s2.heap.push { cls:=.type "slice",data:=.fields #[.none,.none,.int (-1) tk] } }:=I2.kept (t':=s2.toks) fun b ob q=>F1 _ q;obtain⟨its,r,ht,hz⟩:=I4.tuple ta.sq;have hl:=r.length;refine tail_any (ops:=[.ref ad,.ref s2.heap.objs.size]) ht.typeIs J6.lookup (HT.getItem_tuple_rev ht (K5.IsSliceOf.new ..) ?_ (by rw[F3,<-hl];exact hz)) (by with_unfolding_all rfl);have rr:ay vs.reverse its.reverse:=ay.reverse r;refine⟨.ref _,_,I4.laid (t':=s2.toks) (o:=.tup vs.reverse) (fun b ob q=>F1 _ q) (F7 _) ?_,rfl,?_⟩
 ·exact⟨by simpa using hz,_,rr,jI.new _ _⟩
 ·exact jd (ds:=ds.reverse) hr2 (I4.hok.fresh (F7 _)) rl.reverse fun w H' e4 hr4 r4=>k _ M2 w H' q2 ((e1.trans e2).trans e4) hr4 r4
theorem pF{X:Cx}{pos:Pos}{scope:R0}{cl:List (Str×F9)}{ms:List Bool}{aj:List Str}{ifs:List J5}{tg:J5}{iter:J5}{elt:J5}{i:Nat}{x:Str}{spos pos':Pos}{wi:TId}{g:GD}{tc:TTd}{te:TEd}(hN:X.N.Nodup) (hix:X.N[i]?=some x) (hx:X.env.scope.names.lookup x=some .local)
  (hsw:W9 (.ListComp elt [⟨tg,iter,ifs,0⟩] scope pos) (some (.Name x pos')) spos.line X.env=V9 true) (S:cQ X scope cl ms aj) (bA:X.calm=true) (hi:QId X tg iter wi) (hg:PGa X scope cl aj tg g)
  (hif:∀C s H ex,QIf (aB X scope cl (X.N++aj) C s H ex) ifs tc) (he:∀C s H ex,QEd (aB X scope cl (X.N++aj) C s H ex) elt te)
  (hs:∀x,O3 iter X.env x=V9 x:=by intro _;rfl):QSd X (.Assign [.Name x pos'] (.ListComp elt [⟨tg,iter,ifs,0⟩] scope pos) spos) (v7 i (Au ms aj.length wi g tc te)):=by
 simp only[QEd.eq,QSd.eq,QId.eq,QIf.eq]at *
 obtain⟨gv,pg,kg⟩:=hg;refine(mZ (tc:=upT X.K tc) hN hix hx hsw S bA hi pg hif (rK (te:=up X.K te) he) hs).conv fun D σ H hh=>?_;obtain⟨Δ,M,E,sr,hr,q,k⟩:=hh;exact xu kg σ H _ ⟨Δ,M,_,sr,hr,q,fun d M1 v H1 q1 e1 hr1 rv=>k.nx _ M1 _ H1 q1 e1 hr1 ((sr.ext e1).set i rv)⟩
section
variable{X:Cx}{br:List ab2}{t:TSd}{e:J5}{tt:TTd}
theorem tI(h:QSs X br t):xi X br t:=by
 rw[QSs.eq]at h;exact h
theorem qR(h:QWd X e tt):QTd X e tt:=by
 simp only[QWd.eq,QTd.eq]at *
 exact PWd.pt h
end
end L2
namespace L2
open PySem PySem.Spec PyProof.Rows PySem.Builtin.Str
end L2
namespace L2
open PySem PySem.Spec PyProof.Rows
def Few(n:Int):Prop:=J1.Int.intBits n<=2 ^ 20
theorem yW{ns:List Int}:R3.weightAll (ns.map .int)<=2 ^ 20->∀n∈ns,Few n:=by
 induction ns with
 |nil=>intro _ n h;cases h
 |cons a r ih =>
  intro h n hn;rw[N9,R3.weightAll]at h;rcases N7.mp hn with e|e
  ·subst e;have:R3.weight (.int n)=J1.Int.intBits n:=by unfold R3.weight J1.Int.intBits;rfl
   unfold Few
   lia
  ·exact ih (by lia) n e
theorem yI{ns:List Int}(h:R3.layableAll [.list (ns.map .int)]=true):∀n∈ns,Few n:=by
 refine yW ?_;have h1:R3.layable (.list (ns.map .int))=true:=by
  unfold R3.layableAll at h;simpa using h
 unfold R3.layable at h1;have h2:=(Bool.and_eq_true_iff.mp h1).2;have h3:=of_decide_eq_true h2;unfold R3.weight at h3;exact h3
end L2
namespace Att
open PySem PySem.W PySem.Calls PyProof.Rows
theorem attach_callB{l:OpenLaw}{n:Nat}{q:L4}{loose:List Str}{XP:(Str->Option u8)->K5->Prop}{YP:P7->K5->Prop}{d:DefRec}
  (hn:l.most=some n) (hdf:d.params.defaults=[])
  (call:∀ (w:P7) (s₀ s₁:F0) (mg mb:Str → Option u8) (fa:F9) (o:Obj) (pm cd doc:u8) (a:F9) (vs:List u8) (ns:List Int),
   Ground q loose [] XP w s₀ mg mb s₁.heap->YP w s₁.heap ->
   s₁.heap.get? fa=some o->o.data=.func (docDef d.name d.params d.body d.scope pm cd doc)->s₁.heap.CodeRec cd d.name->mg d.name=some (.ref fa) ->
   s₁.heap.get? a=some { cls:=.type "list",data:=.seq vs.toArray }->IntsAre vs ns->ns.length<=n->(∀m∈ns,L2.Few m)->s₁.gens=#[] ->
   Z9 (K6 l.prog w) callerA (.call (.ref fa) ⟨[.ref a],[]⟩) (fun r s'=>r=.ok (.ret (.bool true))/\OldK s₁.heap s'.heap/\s'.os=s₁.os/\ab1 s'.gens) s₁) :
  WalkO q loose XP YP l.row.toRowW d [] (fun f vs=>PySem.call f vs):=by
 intro w s₀ s₁ mg mb G Y fa o pm cd doc dV kV ho hd hcd hD hmg hg args vals as hpre hlay hrd hwl hlo;obtain rfl:dV=.none:=Dflts.none hD hdf;obtain rfl:kV=.none:=Dflts.noKw hD;obtain⟨a,vs,ns,rfl,rfl,hobj,hints,bP⟩:=uf hn hpre hwl;refine enter_call (codeAny_mono (call w s₀ s₁ mg mb fa o pm cd doc a vs ns G Y ho (fd_plain hd) hcd hmg hobj hints bP (L2.yI hlay) hg) fun r s' hq=>?_);obtain⟨rfl,h2,h3,h4⟩:=hq;exact⟨.inl ⟨.bool true,.bool true,[],rfl,fun _=>rfl,.bool true,tZ l _,fun _=>⟨List.Pairwise.nil,fun _ hm=>(nomatch hm)⟩⟩,h2,h3,h4⟩
end Att
namespace L2
open PySem PySem.Spec PyProof.Rows
section
variable{X:Cx}{pos:Pos}
instance (n:Int):Decidable (Few n):=by unfold Few;exact inferInstance
def gL(i j:Int):Prop:=i7 i j∨(Few i/\Few j)
instance:∀i j,Decidable (gL i j):=fun i j=>Classical.propDecidable _
theorem gL.ok{i j:Int}(h:gL i j):IntMulOk i j:=by
 rcases h with h|⟨a,b⟩
 ·exact h.ok
 ·exact .of_bits a b
theorem yy:OpR X (O9 .Mult) (rI gL fun i j=>.int (i*j)):=opI fun _ _ _ _ _ _ _ hc q=>mul_int q hc.ok
theorem qw:bT X (O9 .Mult) (iOp fun i j=>if gL i j then some (.int (i*j))else none):=qm (fun _ _=>rfl) yy
theorem An{K:o0}{M:DH}{H:Hp}{a b:D}{xs:List V}(h:P8 (aR K M H) [a,b] xs):∃v w,xs=[v,w]/\aR K M H a v/\aR K M H b w:=by
 cases h with
 |cons r t =>
  cases t with
  |cons r2 t2=>cases t2;exact⟨_,_,rfl,r,r2⟩
def dmD:List D->Option D
 |[.int i,.int j]=>if kf i j then some (.tup [.int (i / j),.int (i % j)])else none
 |_=>none
theorem wx:bZ X (.builtin "divmod") dmD:=bZ.of pE fun H M xs ds dz Q hr rp e q=>by
 unfold dmD at e
 split at e
 ·rename_i i j
  by_cases hc:kf i j
  ·rw[if_pos hc]at e;cases e;obtain⟨v,w,rfl,r1,r2⟩:=An rp;rw[eR r1,eR r2];refine⟨i,j,rfl,hc,fun p hp=>?_⟩;exact jd hr hp (ar.cons (by simp[Rep]) (ar.cons (by simp[Rep]) ar.nil)) q
  ·rw[if_neg hc]at e;cases e
 ·cases e
noncomputable def BA:List D->Option D
 |[.int i,.int j]=>some (.int (if j > i then j else i))
 |_=>none
theorem Ec(hc:X.calm=true):bZ X (.builtin "max") BA:=bZ.of (uS hc) fun H M xs ds dz Q hr rp e q=>by
 unfold BA at e
 split at e
 ·rename_i i j;cases e;obtain⟨v,w,rfl,r1,r2⟩:=An rp;rw[eR r1,eR r2];exact⟨i,j,rfl,q _ H (Ext.refl _ _) hr (by simp[Rep])⟩
 ·cases e
def Ag(n:Nat) (to ti te:TEd):TSd:=fun E Δ M=>te Δ M fun d M1=>∃d1 d2,d=.tup [d1,d2]/\to Δ M1 fun o M2=>ti Δ M2 fun i M3=>∃a ds k j,o=.ref a/\i=.int k/\M3 a=some (.lst ds)/\ixN ds.length k=some j/\E.nx (Δ.set n (some d2)) (av M3 a (.lst (ds.set j d1)))
theorem AJ{n:Nat}{x:Str}{o i e:J5}{to ti te:TEd}{p px pt:Pos}{kx:Nat}(hc:X.calm=true) (hN:X.N.Nodup) (hn:X.N[n]?=some x) (hx:Loc X.env.scope x) (ho:QEd X o to) (hi:QEd X i ti) (he:QEd X e te)
  (hf:X.fn x=true∨X.env.scope.names.lookup x=some .local:=by first|exact .inl rfl|exact .inr rfl|assumption)
  (ha:∀ v,U6 (.Subscript o i p) X.env v = (do
   let ov <-ac3 [v] (V1 o X.env)
   let iv <-ac3 [v,ov] (V1 i X.env)
   standAt p
   ac3 [v,ov,iv] (setItem ov iv v)
   release [v,ov,iv] []):=by intro _;rfl)
  (hs1:(N1 [.Subscript o i p,.Name x px] X.env).map (·.2)=U6 (.Subscript o i p) X.env::(N1 [.Name x px] X.env).map (·.2):=by rfl)
  (hs2:(N1 [.Name x px] X.env).map (·.2)=U6 (.Name x px) X.env::(N1 [] X.env).map (·.2):=by rfl)
  (hl2:(N1 [.Subscript o i p,.Name x px] X.env).length=2:=by rfl) (hst:(N1 [.Subscript o i p,.Name x px] X.env).findIdx? (·.1)=none:=by rfl)
  (hs:swapsWithSole [.Tuple [.Subscript o i p,.Name x px] kx pt] e pos.line X.env=V9 false:=by rfl) (hw:swappedStores [.Tuple [.Subscript o i p,.Name x px] kx pt] e X.env=V9 none:=by rfl)
  (h1:(N1 [.Tuple [.Subscript o i p,.Name x px] kx pt] X.env).map (·.2)=[U6 (.Tuple [.Subscript o i p,.Name x px] kx pt) X.env]:=by rfl):QSd X (.Assign [.Tuple [.Subscript o i p,.Name x px] kx pt] e pos) (Ag n to ti te):=by
 simp only[QEd.eq,QSd.eq]at *
 exact(xc he (rA hc (h8 (Bh ho hi wu ha) (h8 (j8 hN hn hx hf) ou hs2) hs1) hl2 hst) hs hw h1).conv fun D σ H hup=>hup.el fun Δ M E sr hr q k=>⟨Δ,M,_,sr,hr,q,fun d M1 v H1 ⟨d1,d2,ed,q1⟩ e1 hr1 rv=>by
   subst ed;simp only[Rep]at rv;obtain⟨ad,vs,rfl,ta,rl⟩:=rv;simp only[ar]at rl;obtain⟨v1,r1,rfl,h3,v2,r2,rfl,h4,rfl⟩:=rl;refine⟨ad,[v1,v2],rfl,ta.sq,rfl,v1,[v2],rfl,Δ,M1,_,sr.ext e1,hr1,q1,fun o M2 ov H2 q2 e2 hr2 ro=>⟨Δ,M2,_,(sr.ext e1).ext e2,hr2,q2,fun i M3 iv H3 ⟨a,ds,kk,j,eo,ei,em,ej,q3⟩ e3 hr3 ri=>by
   subst eo;subst ei;simp only[Rep]at ro ri;subst ro;subst ri;obtain⟨vs,hv,rl⟩:=hr3 a _ em;refine⟨a,vs,kk,j,rfl,rfl,hv,by rw[<-rl.length];exact ej,v2,[],rfl,rfl,?_⟩;exact k.nx _ _ _ _ q3 (((e1.trans e2).trans e3).trans (Ext.write em)) (hr3.write em (rl.set j ((h3.ext e2).ext e3))) (((((sr.ext e1).ext e2).ext e3).ext (Ext.write em)).set n (((h4.ext e2).ext e3).ext (Ext.write em)))⟩⟩⟩
end
open AutoSeq1 (wpAny_loadPart')
section
variable{prog:L4}{w:P7}{A:N5}{E:u8->F0->Prop}{s:F0}
theorem jL(l:F9) (its:Array u8) (n:Nat) (dct:Option F9) (sl:Array (Option u8)) :
  Meets (J1.«enumerate.__new__» ⟨[.type "enumerate",.ref l],[]⟩) (fun _ R s=>s.heap.get? l=some { cls:=.type "tuple",dict:=dct,data:=.seq its n,slots:=sl } /\
   R (.ok (.ret (.ref (s.heap.push { cls:=.type "tuple_iterator",data:=.fields #[.ref l,.int 0 0] }).objs.size)))
    { s with heap:=(s.heap.push { cls:=.type "tuple_iterator",data:=.fields #[.ref l,.int 0 0] }).push { cls:=.type "enumerate",data:=.fields #[.none,.bool false,.ref s.heap.objs.size,aa2 0,.none,.none] } }) :=
 .of_wp fun prog w A R s h=>by
  obtain⟨hp,g,d,tk,os⟩:=s;have hl:=h.1;have hR:=h.2;have hsb:=sub_enumerate;have hT:K5.IsTuple (F0.heap ⟨hp,g,d,tk,os⟩) l its:=⟨_,hl,rfl,n,rfl⟩
  wp_walk using V6 hl
  refine wpAny_stack_any fun st=>F4 ?_
  split
  ·rename_i c _ _ _ _ _;cases(c==ad2 "enumerate")<;>(wp_walk using V6 hl,wpAny_pyIter_tuple hT;exact⟨_,rfl,hR⟩)
  ·wp_walk using V6 hl,wpAny_pyIter_tuple hT
   exact⟨_,rfl,hR⟩
theorem jS{l:F9}{its:Array u8}{Q:u8->F0->Prop}(hL:s.heap.IsTuple l its)
  (h:∀ h',IsEnum h' (s.heap.objs.size + 1) s.heap.objs.size 0 .none → h'.IsTupleIter s.heap.objs.size l 0 → h'.objs.size = s.heap.objs.size + 2 →
   (∀b o,s.heap.get? b=some o->h'.get? b=some o)->Q (.ref (s.heap.objs.size+1)) { s with heap:=h' }) :
  J3 (K6 prog w) A (call (.type "enumerate") [.ref l]) Q E s:=by
 obtain⟨⟨c,dct,dt,sl⟩,hl,hc,n,hd⟩:=hL;obtain rfl:c=.type "tuple":=hc;obtain rfl:dt=.seq its n:=hd;refine callType_new F.called_enumerate (by decide) (F.typeCall_enumerate_1 _) (F.newCall_enumerate_1 _) (fun ob=>F.args_object_init_2 ob _) F.entry_enumerate_new (jL l its n dct sl) ⟨hl,?_⟩;have hz:(s.heap.push { cls:=.type "tuple_iterator",data:=.fields #[.ref l,.int 0 0] }).objs.size=s.heap.objs.size+1:=R6 ..;show _/\_;rw[hz];have he:IsEnum ((s.heap.push { cls:=.type "tuple_iterator",data:=.fields #[.ref l,.int 0 0] }).push { cls:=.type "enumerate",data:=.fields #[.none,.bool false,.ref s.heap.objs.size,aa2 0,.none,.none] }) (s.heap.objs.size+1) s.heap.objs.size 0 .none:=by
  have q:=F6 (s.heap.push { cls:=.type "tuple_iterator",data:=.fields #[.ref l,.int 0 0] }) (o:={ cls:=.type "enumerate",data:=.fields #[.none,.bool false,.ref s.heap.objs.size,aa2 0,.none,.none] }) rfl
  rwa [hz]at q
 exact⟨⟨_,he,rfl⟩,h _ he ⟨_,F1 _ (F6 _ rfl),rfl,rfl⟩ (by rw[R6,hz]) fun b o x=>F1 _ (F1 _ x)⟩
theorem jJ{it t:F9}{i:Nat}{its}{x:u8}{Q:u8->F0->Prop}(hit:s.heap.IsTupleIter it t i) (ht:s.heap.IsTuple t its) (hx:its[i]?=some x)
  (hQ:∀h',h'.IsTupleIter it t (i+1)->O0 it s.heap h'->Q x { s with heap:=h' }):J3 (K6 prog w) A (R7 (.ref it)) Q E s:=by
 obtain⟨o,ho,hc,hd⟩:=id hit;obtain⟨ol,hol,_,nl,hdl⟩:=ht;unfold R7;refine s0 (N8 (name:=U9 "__next__") hit.typeIs Q9 (P5 Q9 hit.typeIs F.entry_tuple_iterator_next ?_ (F.args_tuple_iterator_next_1 _)));show J3 _ _ (field (.ref it) 0 >>= _) _ _ s;refine s0 (O7 ho hd (x:=.ref t) rfl ?_);show J3 _ _ (if(Q0 t==W0)=true then _ else _) _ _ s;rw[if_neg (show ¬ ((Q0 t==W0)=true)from L3)];show J3 _ _ (field (.ref it) 1 >>= _) _ _ s;refine s0 (O7 ho hd (x:=.int i 0) rfl ?_);show J3 _ _ (seqItems? (.ref t) >>= _) _ _ s;refine s0 (wpAny_seqItems hol hdl ?_);simp only[W1,hx];refine s0 (W8 ho hd (by simp) (F4 ⟨x,rfl,F4 (hQ _ ?_ (T3 ..))⟩));exact⟨_,U0 _ ho (Obj.isFreed_of_fields (R1 hd _)),(Obj.cls_mapFields ..).trans hc,by rw[R1 hd];simp[aa2]⟩
theorem lK{it t:F9}{i:Nat}{its}{Q:u8->F0->Prop}(hh:A.handled=none) (hit:s.heap.IsTupleIter it t i) (ht:s.heap.IsTuple t its) (hx:its[i]?=none)
  (hE:∀h' e,K5.ExtBut it s.heap h'->(∃o,h'.get? e=some o/\o.cls=.type "StopIteration")->E (.ref e) { s with heap:=h' }):J3 (K6 prog w) A (R7 (.ref it)) Q E s:=by
 obtain⟨o,ho,hc,hd⟩:=id hit;obtain⟨ol,hol,_,nl,hdl⟩:=ht;unfold R7;refine s0 (N8 (name:=U9 "__next__") hit.typeIs Q9 (P5 Q9 hit.typeIs F.entry_tuple_iterator_next ?_ (F.args_tuple_iterator_next_1 _)));show J3 _ _ (field (.ref it) 0 >>= _) _ _ s;refine s0 (O7 ho hd (x:=.ref t) rfl ?_);show J3 _ _ (if(Q0 t==W0)=true then _ else _) _ _ s;rw[if_neg (show ¬ ((Q0 t==W0)=true)from L3)];show J3 _ _ (field (.ref it) 1 >>= _) _ _ s;refine s0 (O7 ho hd (x:=.int i 0) rfl ?_);show J3 _ _ (seqItems? (.ref t) >>= _) _ _ s;refine s0 (wpAny_seqItems hol hdl ?_);simp only[W1,hx];refine s0 (wpAny_rule (s0 (W8 ho hd (by simp) ?_)));show J3 _ _ (newExc (.type "StopIteration") [] >>= _) _ _ _;refine s0 ?_;simp only[newExc,newTuple];refine s0 (K0 ?_ (by size_fits));refine s0 (m:=aa1 _ _) (U2 (a:=W0) (by first|rfl|(simp only[aa1];rfl)) ?_);refine K0 ?_ (by size_fits);simp only[raiseNew];refine s0 (wpAny_handled ?_)
 first|rw[show A.in1.handled=none from hh]|rw[hh]
 refine s0 (F4 (wpAny_throw ?_));exact hE _ _ (((T3 ..).extBut.push _).push _) ⟨_,F6 _ rfl,rfl⟩
theorem uC{prog:L4}{w:P7}{A:N5}(hh:A.handled=none) (it l:F9) (hne:l≠it) (its:Array u8) :
  Draws prog w A it [it,l] its.size (fun i v=>its[i]?=some v) (fun i h=>h.IsTupleIter it l i/\h.IsTuple l its) where
 live:=fun _ _ st=>let⟨o,ho,_⟩:=st.1;⟨o,ho⟩
 frame:=fun _ _ _ st hk=>⟨let⟨o,ho,r⟩:=st.1;⟨o,hk it (by simp) o ho,r⟩,let⟨o,ho,r⟩:=st.2;⟨o,hk l (by simp) o ho,r⟩⟩
 item:=fun i s Q E hi st hQ=>jJ st.1 st.2 (x:=its[i]) (by simp[hi]) fun h' hit' hs'=>hQ _ h' s.toks (by simp[hi]) ⟨hit',st.2.extBut hs'.extBut hne⟩ hs'
 done:=fun s Q E st hE=>lK hh st.1 st.2 (by simp) hE
end
section
variable{X:Cx}{ag:List (F9×Obj)}{σ:St}{H:Hp}{s:F0}{h':K5}
theorem Inv.turned2{t':Nat}{e it:F9}(I:Inv X ag σ H s) (k:∀b o,b≠e->b≠it->s.heap.get? b=some o->h'.get? b=some o) (f1:cz X ag H e) (f2:cz X ag H it):Inv X ag σ H { s with heap:=h',toks:=t' }:=by
 obtain⟨a0,a1,a2,a3,a4,a5⟩:=f1;obtain⟨b0,b1,b2,b3,b4,b5⟩:=f2;have nit:∀b u,H b=some u->b≠e/\b≠it:=fun b u q=>⟨fun z=>(by rw[z,a0]at q;cases q),fun z=>(by rw[z,b0]at q;cases q)⟩;have kk:∀b o,b∉[e,it]->s.heap.get? b=some o->h'.get? b=some o:=fun b o hc q=>k b o (fun z=>hc (by simp[z])) (fun z=>hc (by simp[z])) q;refine I.step (g':=s.gens) (d':=s.drawn) (ch:=[e,it]) (fun b hb=>?_) (fun b o _ _ hc q _=>kk b o hc q) (fun b o _ _ hc q _=>⟨o.slots,kk b o hc q⟩) (fun _ _ _ _ n=>n)
  (fun b o hc q=>⟨o,kk b o hc q⟩) (fun _ _ q=>q) (fun _ _ _ q=>q) (fun b ps q=>⟨#[],by rw[q];simp⟩) (fun m hm=>?_) (fun b u q=>?_) I.bare
 ·rcases N7.mp hb with z|z
  ·subst z;exact⟨a3,a1,a4,a5⟩
  ·have z:=N3.mp z;subst z;exact⟨b3,b1,b4,b5⟩
 ·obtain⟨o,es,ep,ho,r⟩:=hm;exact⟨o,es,ep,k _ o (X7 a1) (X7 b1) ho,r⟩
 ·refine(I.hok b u q).stay (fun c v hc q'=>?_) (fun _ q=>q) fun _ _ q=>q;rcases hc with z|z
  ·rw[z]at q' ⊢;exact k _ _ (nit b u q).1 (nit b u q).2 q'
  ·exact k c v (nit c _ z).1 (nit c _ z).2 q'
end
def mj(b:Bool) (K:o0) (H:Hp) (a:F9) (xs:List V):Prop:=match b with|true=>SqT K H a xs|false=>SqL K H a xs
def pd(b:Bool) (h:K5) (it a:F9) (i:Nat):Prop:=match b with|true=>h.IsTupleIter it a i|false=>h.IsListIter it a i
def Dl(b:Bool):String:=match b with|true=>"tuple_iterator" |false=>"list_iterator"
theorem pd.obj{b:Bool}{h:K5}{it a:F9}{i:Nat}(st:pd b h it a i):∃o,h.get? it=some o/\o.cls=.type (Dl b)/\o.data=.fields #[.ref a,.int i 0]:=by
 cases b<;>exact st
theorem pd.of{b:Bool}{h:K5}{it a:F9}{i:Nat}(st:∃o,h.get? it=some o/\o.cls=.type (Dl b)/\o.data=.fields #[.ref a,.int i 0]):pd b h it a i:=by
 cases b<;>exact st
theorem qt{X:Cx}{ag:List (F9×Obj)}{σ:St}{H:Hp}{s:F0}{b:Bool}{a it:F9}{i:Nat}{xs:List V}(hc:X.calm=true) (I:Inv X ag σ H s) (hq:mj b X.K H a xs) (hit:pd b s.heap it a i) :
  ∃(its:List u8) (St:Nat->K5->Prop),ay xs its/\Draws X.prog X.w X.A.in1 it [it,a] its.toArray.size (fun i v=>its.toArray[i]?=some v) St/\St i s.heap/\(∀j h,St j h->pd b h it a j)/\∃o,s.heap.get? a=some o/\o.cls≠.type "enumerate":=by
 cases b with
 |true =>
  obtain⟨its,rv,p,hz⟩:=I.tuple hq;have hT:s.heap.IsTuple a its.toArray:=p;have hal:a≠it:=fun z=>by
   obtain⟨o,q,c,_⟩:=hT;obtain⟨o',q',c',_⟩:=hit;rw[z,q']at q;cases q;rw[c']at c;exact absurd c (by decide)
  obtain⟨o,q,c,_⟩:=id hT;exact⟨its,_,rv,uC (A:=X.A.in1) (I.ok.hd hc) it a hal its.toArray,⟨hit,hT⟩,fun j h st=>st.1,o,q,by rw[c];decide⟩
 |false =>
  obtain⟨its,rv,p,hz⟩:=I.list hq;have hT:s.heap.IsList a its.toArray:=p.isList;have hal:a≠it:=fun z=>by
   obtain⟨o,q,c,_⟩:=hT;obtain⟨o',q',c',_⟩:=hit;rw[z,q']at q;cases q;rw[c']at c;exact absurd c (by decide)
  obtain⟨o,q,c,_⟩:=id hT;exact⟨its,_,rv,Draws.list (A:=X.A.in1) (I.ok.hd hc) it a hal its.toArray,⟨hit,hT⟩,fun j h st=>st.1,o,q,by rw[c];decide⟩
theorem mj.inj{X:Cx}{ag:List (F9×Obj)}{σ:St}{H:Hp}{s:F0}{b:Bool}{a:F9}{xs ys:List V}(I:Inv X ag σ H s) (h:mj b X.K H a xs) (h':mj b X.K H a ys):xs=ys:=by
 cases b with
 |true=>exact I.tuple_inj h h'
 |false=>exact I.list_inj h h'
def Ite(b:Bool) (K:o0) (a:F9) (n:Nat):It :=
 ⟨fun i H=>(∃xs,mj b K H a xs/\xs.length=n)/\i<n,fun i H x H'=>∃T y,x=.ref T/\H T=none/\H'=upd H T (.tup [.int i,y])/\∀xs,mj b K H a xs->xs[i]?=some y,fun i H=>(∃xs,mj b K H a xs/\xs.length=n)/\n<=i⟩
theorem cz.upd{X:Cx}{ag:List (F9×Obj)}{H:Hp}{b T:F9}{o:HO}(f:cz X ag H b) (h:b≠T):cz X ag (upd H T o) b:=by
 obtain⟨f0,r⟩:=f;exact⟨by rw[ax h];exact f0,r⟩
theorem uV{P:L4}{w:P7}{K:o0}{elts:List J5}{x1:Nat}{pt:Pos}(b:Bool) (a e it:F9) (n:Nat):iP P w K (.Tuple elts x1 pt) (Ite b K a n) [e,it] e (fun i h=>(∃old,IsEnum h e it i old)/\pd b h it a i/\e≠it/\i<=n) where
 mem:=by simp
 obj:=fun i h st c hb=>by
  rcases N7.mp hb with z|z
  ·subst z;obtain⟨⟨old,q⟩,_⟩:=st;exact⟨_,q,fun v z=>by cases z⟩
  ·have z:=N3.mp z;subst z;obtain⟨_,st,_⟩:=st;obtain⟨o,q,_,d⟩:=st.obj;exact⟨o,q,fun v z=>by rw[d]at z;cases z⟩
 keep:=fun i h h' st k=>by
  obtain⟨⟨old,q⟩,st,ne,le⟩:=st;obtain⟨o,q2,r⟩:=st.obj;exact⟨⟨old,k e (by simp) _ q⟩,.of ⟨o,k it (by simp) o q2,r⟩,ne,le⟩
 item:=by
  intro X hP hw hK hc i ag s σ H E I hf st hg;subst hP hw hK;obtain⟨⟨xs,hq,hxl⟩,hin⟩:=hg;have hx:xs[i]?=some (xs[i]'(by lia)):=by simp[hxl,hin]
  generalize xs[i]'(by lia)=x at hx;obtain⟨⟨old,he⟩,hit,hne,hle⟩:=st;obtain⟨its,St,rv,dr,hst0,hback,ob,hob,hcl⟩:=qt hc I hq hit;obtain⟨u,hu,ru⟩:=rv.get hx;have hea:e≠a:=fun z=>by
   rw[<-z,he]at hob;cases hob;exact hcl rfl
  have fe:=hf e (by simp);have fi:=hf it (by simp);have hlt:i<its.toArray.size:=by
   have h1:=(L7.mp hu).1;simpa using h1
  have eT:e<s.heap.objs.size:=F5 he;have iT:it<s.heap.objs.size:=by obtain⟨o,q,_⟩:=hit.obj;exact F5 q
  refine wpAny_pyNext_enum_itemD dr he hst0 hlt hne (by simp[hne,hea]) fun y h1 tk hy hout hst hTn hsz hk=>?_;have ey:y=u:=by
   have h2:its[i]?=some y:=by simpa using hy
   rw[hu]at h2;cases h2;rfl
  subst ey;refine⟨_,rfl,?_⟩;have In:H s.heap.objs.size=none:=I.hok.fresh (F7 _);have I1:Inv X ag σ (upd H s.heap.objs.size (.tup [.int i,x])) { s with heap:=s.heap.push { cls:=.type "tuple",data:=.seq #[.int i tk,y] },toks:=tk+1 } :=
   I.laid (fun b o q=>F1 _ q) (F7 _) ⟨by simp only[T4,X9];rw[sizeLine_eq];decide,[.int i tk,y],.cons ⟨_,rfl⟩ (.cons ru .nil),⟨_,F6 s.heap rfl,rfl,⟨0,rfl⟩,rfl⟩⟩
  have fe1:cz X ag (upd H s.heap.objs.size (.tup [.int i,x])) e:=fe.upd (I0 eT);have fi1:cz X ag (upd H s.heap.objs.size (.tup [.int i,x])) it:=fi.upd (I0 iT);have I2:Inv X ag σ (upd H s.heap.objs.size (.tup [.int i,x])) { s with heap:=h1,toks:=tk+1 }:=I1.turned2 (t':=tk+1) (fun b o hb1 hb2 q=>by
   by_cases hbs:b=s.heap.objs.size
   ·subst hbs;rw[F6 s.heap rfl]at q;cases q;exact hTn
   ·refine hk b o hb1 hb2 ?_;rcases K5.get?_push_cases q with z|z
    ·exact absurd z.1 hbs
    ·exact z) fe1 fi1
  refine wpAny_letOwnedTupleGo_enum hout fun h2 he2 hs2=>?_;obtain⟨g0,g1,g2,g3,g4,g5⟩:=fe1;have I3:=I2.turned (t':=tk+1) (h':=h2) (it:=e) (fun b o hb q=>(hs2.2 b hb).trans q) g0 g1 g3 g4 g5;refine⟨.ref s.heap.objs.size,_,I3,rfl,⟨_,x,rfl,In,rfl,fun ys hys=>by rw[mj.inj I hys hq];exact hx⟩,⟨⟨y,by simpa using he2⟩,?_,hne,hin⟩,fun b hb=>?_⟩
  ·obtain⟨o,q,r⟩:=(hback _ _ hst).obj;exact .of ⟨o,(hs2.2 it (X7 hne)).trans q,r⟩
  ·rcases N7.mp hb with z|z
   ·subst z;exact g0
   ·rw[N3.mp z];exact fi1.1
 done:=by
  intro X hP hw hK hc i ag s σ H E I hf st hg;subst hP hw hK;obtain⟨⟨xs,hq,hxl⟩,hx⟩:=hg;obtain⟨⟨old,he⟩,hit,hne,hle⟩:=st;obtain⟨its,St,rv,dr,hst0,_⟩:=qt hc I hq hit;obtain⟨f0,f1,f2,f3,f4,f5⟩:=hf it (by simp);have hl:=rv.length;have hi:i=its.toArray.size:=by simp;lia
  rw[hi]at hst0;exact wpAny_pyNext_enum_endD dr he hst0 fun h' eb=>⟨rfl,I.turned (t':=s.toks) (fun b o hb q=>eb b o hb q) f0 f1 f3 f4 f5⟩
 self:=fun _ _ _ _ _ st h=>by
  obtain⟨⟨old,he⟩,_⟩:=st;exact wpAny_pyIter_enum he h
section
variable{X:Cx}{a:J5}{t:TAd}{pos:Pos}
def kM(n:Nat):List D->List D
 |[]=>[]
 |d::r=>.tup [.int n,d]::kM (n+1) r
theorem kU:∀(ds:List D) (n i:Nat),(kM n ds)[i]?=(ds[i]?).map fun d=>.tup [.int ((n+i:Nat):Int),d]
 |[],n,i=>by simp[kM]
 |d::r,n,0=>by simp[kM]
 |d::r,n,i+1=>by
  simp only[kM,List.getElem?_cons_succ];rw[kU r (n+1) i];have:n+1+i=n+(i+1):=by lia
  rw[this]
theorem iR:∀(ds:List D) (n:Nat),(kM n ds).length=ds.length
 |[],_=>rfl
 |d::r,n=>by simp[kM,iR r (n+1)]
def sqD(b:Bool) (es:List D):D:=match b with|true=>.tup es|false=>.lst es
def yk(b:Bool) (ta:TAd):TId:=fun Δ M R=>ta Δ M fun ds M1=>∃es,ds=[sqD b es]/\(es.length<=F2->R (kM 0 es) M1)
def sF(ta:TAd):TId:=fun Δ M R=>ta Δ M fun ds M1=>∃es,ds=[.lst es]/\(es.length<=F2->R (kM 0 es) M1)
theorem Bs{K:o0}{M:DH}{H:Hp}{b:Bool}{es:List D}{v:V}(h:Rep K M H (sqD b es) v):∃a vs,v=.ref a/\ar K M H es vs/\∀M2 H2,Ext M H M2 H2->mj b K H2 a vs:=by
 cases b with
 |true =>
  simp only[sqD,Rep]at h;obtain⟨a,vs,e,ta,rl⟩:=h;exact⟨a,vs,e,rl,fun M2 H2 x=>(ta.ext x).sq⟩
 |false =>
  simp only[sqD,Rep]at h;obtain⟨a,vs,e,ta,rl⟩:=h;exact⟨a,vs,e,rl,fun M2 H2 x=>SqL.of (x _ _ ta.1 ta.2).1⟩
theorem qZ{prog:L4}{w:P7}{A:N5}{E:u8->F0->Prop}{X:Cx}{ag:List (F9×Obj)}{σ:St}{H:Hp}{s:F0}{b:Bool}{l:F9}{xs:List V}{Q:u8->F0->Prop}(I:Inv X ag σ H s) (hq:mj b X.K H l xs)
  (h:∀ h',IsEnum h' (s.heap.objs.size + 1) s.heap.objs.size 0 .none → pd b h' s.heap.objs.size l 0 → h'.objs.size = s.heap.objs.size + 2 →
   (∀b o,s.heap.get? b=some o->h'.get? b=some o)->Q (.ref (s.heap.objs.size+1)) { s with heap:=h' }):J3 (K6 prog w) A (call (.type "enumerate") [.ref l]) Q E s:=by
 cases b with
 |true =>
  obtain⟨its,rv,p,hz⟩:=I.tuple hq;exact jS (show s.heap.IsTuple l its.toArray from p) h
 |false =>
  obtain⟨its,rv,p,hz⟩:=I.list hq;exact call_enumerate_list p.isList h
theorem kG:T7 "enumerate"=some (.type "enumerate"):=by kernel_rfl
theorem yx{b:Bool}{elts:List J5}{x1:Nat}{pt p:Pos}(hg:Gl X "enumerate") (hm:X.mg "enumerate"=none) (ha:PAd X [a] t) (hs:J7 [a] X.env=[(false,V1 a X.env)]:=by rfl):PId X (.Tuple elts x1 pt) (.Call (.Name "enumerate" p) [a] [] pos) (yk b t):=by
 intro ag s σ H R I hh;obtain⟨Δ,M,R',sr,hr,q,k⟩:=hh;refine Call_ (e8 I hg hm kG (O6 (thn (ha pos ag s σ H (fun vs H1=>∃es M1,ar X.K M1 H1 [sqD b es] vs/\(es.length<=F2->R' (kM 0 es) M1)/\Ext M H M1 H1/\HR X.K M1 H1) I ⟨Δ,M,_,sr,hr,q,fun ds M1 vs H1 ⟨es,ed,q1⟩ e1 hr1 rv=>⟨es,M1,by rw[<-ed];exact rv,q1,e1,hr1⟩⟩) fun us s1 ⟨vs,H1,I1,r1,es,M1,rv,q1,e1,hr1⟩=>?_) hs rfl));obtain⟨v,rfl,rt⟩:=rv.one;cases r1 with
 |cons r rr =>
  cases rr;obtain⟨ad,vs,rfl,rl,ta⟩:=Bs rt;cases r;have lo:es.length<=F2:=by
   have hq:=ta _ _ (Ext.refl _ _);rw[rl.length];cases b with
   |true=>exact(I1.tuple hq).choose_spec.2.2
   |false=>exact(I1.list hq).choose_spec.2.2
  have hl2:=rl.length;refine qZ I1 (ta _ _ (Ext.refl _ _)) fun h' he hit hsz hk=>?_;refine wpAny_pyIter_enum he ?_;refine⟨s1.heap.objs.size+1,[s1.heap.objs.size+1,s1.heap.objs.size],_,_,H1,rfl,I1.kept (t':=s1.toks) hk,uV b ad _ _ es.length,⟨⟨_,he⟩,hit,Nat.succ_ne_self _,R5 _⟩,fun b' hb=>?_,?_⟩
  ·rcases N7.mp hb with z|z
   ·subst z;exact I1.fpOk (by lia) (I1.hok.fresh (by lia))
   ·rw[N3.mp z];exact I1.fpOk (F7 _) (I1.hok.fresh (F7 _))
  ·refine k _ M1 _ H1 (q1 lo) e1 hr1 fun M2 H2 e2 hr2 i=>⟨fun d hd=>?_,fun hl=>⟨⟨vs,(ta _ _ e2),by lia⟩,by rw[iR]at hl;exact hl⟩⟩;rw[kU]at hd;cases hdi:es[i]? with
   |none=>rw[hdi]at hd;cases hd
   |some d0 =>
    rw[hdi]at hd;have hd':D.tup [.int ((0+i:Nat):Int),d0]=d:=by simpa using hd
    subst hd';have hi:i<es.length:=(L7.mp hdi).1;obtain⟨v0,gv,r0⟩:=rl.get hdi;refine⟨⟨⟨vs,(ta _ _ e2),by lia⟩,hi⟩,fun x H' ⟨T,y,ex,hT,eH,hy⟩=>?_⟩;subst ex;subst eH;have hh:=hy vs (ta _ _ e2);rw[gv]at hh;cases hh;refine⟨Ext.new hr2 hT,hr2.new hT,?_⟩;simp only[Rep];refine⟨T,[.int i,v0],rfl,.inl ⟨.inl aF,hr2.fresh hT⟩,?_⟩;exact ar.cons (by simp[Rep]) (ar.cons ((r0.ext e2).ext (Ext.new hr2 hT)) ar.nil)
theorem u6{elts:List J5}{x1:Nat}{pt p:Pos}(hg:Gl X "enumerate") (hm:X.mg "enumerate"=none) (ha:QAd X [a] t) (hs:J7 [a] X.env=[(false,V1 a X.env)]:=by rfl):QId X (.Tuple elts x1 pt) (.Call (.Name "enumerate" p) [a] [] pos) (sF t):=by
 simp only[QAd.eq,QId.eq]at *
 exact yx (b:=false) hg hm ha hs
end
section
variable{X:Cx}{pos:Pos}
theorem BD{i j:Int}:dmD [.int i,.int j]=if kf i j then some (.tup [.int (i / j),.int (i % j)])else none:=rfl
theorem yC{i j:Int}:BA [.int i,.int j]=some (.int (if j > i then j else i)):=rfl
theorem vN:pM 10 60=True:=by simp[pM]
theorem vT{x:Int}(h0:-(10 ^ 60)<x) (h1:x<10 ^ 60):Few x:=by
 unfold Few;rw[intBits_le_iff];have h2:x.natAbs<10 ^ 60:=by lia
 exact F8 h2 (L5 (by decide:10 ^ 60<=2 ^ 200) (Nat.pow_le_pow_right (by decide) (by decide)))
theorem we{i j:Int}(h:Few i/\Few j):gL i j=True:=by simp[gL,h]
end
section
variable{X:Cx}{e:J5}{te ts:TEd}{pos:Pos}
theorem mD(its:List u8):ae1 its.toArray none none (some (-1))=its.reverse.toArray:=by
 unfold ae1;have h1:R4 none none (some (-1)) its.toArray.size=((its.toArray.size:Int)-1,-1,-1):=by simp[R4]
 rw[h1];have h2:sliceRange ((its.toArray.size:Int)-1) (-1) (-1)=(T6 its.toArray.size).map fun(k:Nat)=>((its.toArray.size:Int)-1+(k:Int)*-1).toNat:=by
  unfold sliceRange;have hc:(if(-1:Int) > 0 then(if(its.toArray.size:Int)-1 < -1 then((-1)-((its.toArray.size:Int)-1)+(-1)-1) / (-1)else 0)else(if(its.toArray.size:Int)-1 > -1 then((its.toArray.size:Int)-1-(-1)-(-1)-1) / (-(-1))else 0))=(its.toArray.size:Int):=by
   rw[if_neg (by lia),show(-(-1):Int)=1 from rfl,Int.ediv_one]
   split<;>lia
  simp only[hc,W1];apply List.map_congr_left;intro k _;rw[Int.mul_comm]
 simp only[h2,List.filterMap_map];have h3:=HT.pick_rev its.toArray;show(List.filterMap (fun(m:Nat)=>its.toArray[((its.toArray.size:Int)-1+(m:Int)*-1).toNat]?) (T6 its.toArray.size)).toArray=_;rw[h3]
def z4(te ts:TEd):TEd:=fun Δ M Q=>te Δ M fun x M1=>ts Δ M1 fun st M2=>st=.int (-1)/\∃ds,rdM M2 x=.lst ds/\Q (.lst ds.reverse) M2
theorem ur{st:J5}{p2:Pos}(he:QEd X e te) (hs:QEd X st ts):QEd X (.Subscript e (.Slice none none (some st) p2) pos) (z4 te ts):=by
 simp only[QEd.eq]at *
 intro ag s σ H Q I hh;obtain⟨Δ,M,R,sr,hr,q,k⟩:=hh;refine ab6 (thn (he ag s σ H (fun v H1=>∃x M1,Rep X.K M1 H1 x v/\Ext M H M1 H1/\HR X.K M1 H1/\ts Δ M1 fun st M2=>st=.int (-1)/\∃ds,rdM M2 x=.lst ds/\R (.lst ds.reverse) M2) I
  ⟨Δ,M,_,sr,hr,q,fun x M1 v H1 q1 e1 hr1 rv=>⟨x,M1,rv,e1,hr1,q1⟩⟩) fun v s1 ⟨vx,H1,I1,r1,x,M1,rv,e1,hr1,q1⟩=>?_)
 refine wpAny_Slice ?_;rw[aa6];refine F4 (F4 ?_);rw[evalPart_some];refine thn (hs ag s1 σ H1 (fun u H2=>∃M2 ds,u=.int (-1)/\rdM M2 x=.lst ds/\R (.lst ds.reverse) M2/\Ext M1 H1 M2 H2/\HR X.K M2 H2) I1 ⟨Δ,M1,_,sr.ext e1,hr1,q1,fun d M2 u H2 ⟨ed,ds,ex,q2⟩ e2 hr2 ru=>⟨M2,ds,by subst ed;simpa only[Rep]using ru,ex,q2,e2,hr2⟩⟩) fun u s2 ⟨vu,H2,I2,r2,M2,ds,eu,ex,q2,e2,hr2⟩=>?_;subst eu;obtain⟨tk,rfl⟩:=r2;have rv2:=(rv.ext e2).rd hr2;rw[ex]at rv2;obtain⟨ad,vs,rfl,hH,rl⟩:=rv2;cases r1;have I4:Inv X ag σ H2 { s2 with heap:=s2.heap.push { cls:=.type "slice",data:=.fields #[.none,.none,.int (-1) tk] } }:=I2.kept (t':=s2.toks) fun b ob q=>F1 _ q;obtain⟨its,r,ht,hz⟩:=I4.list (SqL.of hH);have hl:=r.length;refine tail_any (ops:=[.ref ad,.ref s2.heap.objs.size]) ht.isList.typeIs slot_list_getitem.lookup (wpAny_getItem_list_slice ht.isList (K5.IsSliceOf.new ..) .none .none (.int _ _) (by decide) ?_ (by rw[F3,<-hl];exact hz)) (by with_unfolding_all rfl);rw[mD];have rr:ay vs.reverse its.reverse:=ay.reverse r;refine⟨.ref _,_,I4.laid (t':=s2.toks) (o:=.lst vs.reverse) (fun b ob q=>F1 _ q) (F7 _) ?_,rfl,?_⟩
 ·exact⟨by simpa using hz,_,0,rr,F6 _ rfl⟩
 ·exact gY (ds:=ds.reverse) hr2 (I4.hok.fresh (F7 _)) rl.reverse fun w H' e4 hr4 r4=>k _ M2 w H' q2 ((e1.trans e2).trans e4) hr4 r4
end
section
variable{κ:Type} [DecidableEq κ]
noncomputable def df(kvs:List (κ×D)) (k:κ):Option D:=(kvs.find? fun kv=>decide (kv.1=k)).map (·.2)
noncomputable def j3(kvs:List (κ×D)) (k:κ) (v:D):List (κ×D) :=
 if(kvs.any fun kv=>decide (kv.1=k))=true then kvs.map (fun kv=>if kv.1=k then(kv.1,v)else kv)else kvs++[(k,v)]
theorem cg{p:κ×D}{r:List (κ×D)}{k:κ}(e:p.1=k):df (p::r) k=some p.2:=by simp[df,Q4,e]
theorem cn{p:κ×D}{r:List (κ×D)}{k:κ}(e:¬ p.1=k):df (p::r) k=df r k:=by simp[df,Q4,e]
theorem lT(k:κ):∀kvs:List (κ×D),(kvs.any fun kv=>decide (kv.1=k))=(df kvs k).isSome
 |[]=>rfl
 |p::r=>by
  rw[P2]
  by_cases e:p.1=k
  ·simp only[cg e,decide_eq_true e,Bool.true_or,Option.isSome_some]
  ·rw[cn e,decide_eq_false e,Bool.false_or];exact lT k r
theorem pG(k j:κ) (y:D):∀kvs:List (κ×D),df (kvs.map fun kv=>if kv.1=k then(kv.1,y)else kv) j=(df kvs j).map fun x=>if j=k then y else x
 |[]=>rfl
 |p::r=>by
  have ih:=pG k j y r;rw[N9]
  by_cases h:p.1=k
  ·rw[if_pos h]
   by_cases e:p.1=j
   ·rw[cg (p:=(p.1,y)) e,cg e,R8,if_pos (e.symm.trans h)]
   ·rw[cn (p:=(p.1,y)) e,cn e,ih]
  ·rw[if_neg h]
   by_cases e:p.1=j
   ·rw[cg (p:=p) e,cg e,R8,if_neg (fun z=>h (e.trans z))]
   ·rw[cn (p:=p) e,cn e,ih]
theorem nz(k j:κ) (y:D):∀kvs:List (κ×D),df kvs k=none->df (kvs++[(k,y)]) j=if j=k then some y else df kvs j
 |[],_=>by
  by_cases e:k=j
  ·rw[if_pos e.symm];exact cg (p:=(k,y)) e
  ·rw[if_neg (fun z=>e z.symm)];exact cn (p:=(k,y)) e
 |p::r,hn=>by
  rw[List.cons_append];have hk:¬ p.1=k:=fun z=>by rw[cg z]at hn;cases hn
  rw[cn hk]at hn;have ih:=nz k j y r hn
  by_cases e:p.1=j
  ·rw[cg e,cg e,if_neg (fun z=>hk (e.trans z))]
  ·rw[cn e,cn e,ih]
theorem qu(kvs:List (κ×D)) (k j:κ) (y:D):df (j3 kvs k y) j=if j=k then some y else df kvs j:=by
 unfold j3
 by_cases a:(kvs.any fun kv=>decide (kv.1=k))=true
 ·rw[if_pos a,pG];rw[lT]at a
  by_cases e:j=k
  ·obtain⟨x,hx⟩:=O4.mp a;rw[if_pos e,e,hx,R8,if_pos rfl]
  ·rw[if_neg e];cases df kvs j with
   |none=>rfl
   |some x=>rw[R8,if_neg e]
 ·rw[if_neg a];refine nz k j y kvs ?_;rw[lT]at a;cases q:df kvs k with
  |none=>rfl
  |some x=>rw[q]at a;exact(a rfl).elim
theorem jG(kvs:List (κ×D)) (k:κ) (v:D):(j3 kvs k v).length<=kvs.length+1:=by
 unfold j3
 split
 ·rw[Z1];lia
 ·rw[L6,T4,X9];lia
variable{K:o0}{M:DH}{H:Hp}
theorem KR.val{kvs:List (κ×D)}{ks:List (κ×V)}(h:KR K M H kvs ks) (k:κ):(∀d,df kvs k=some d->∃v,gK ks k=some v/\Rep K M H d v)/\(gK ks k).isSome=(df kvs k).isSome:=by
 unfold KR at h
 induction h with
 |nil=>exact⟨fun d e=>(nomatch e),rfl⟩
 |@cons p q ps qs r t ih =>
  by_cases e:p.1=k
  ·rw[cg e,iI (r.1.symm.trans e)];exact⟨fun d z=>(by cases z;exact⟨_,rfl,r.2⟩),rfl⟩
  ·rw[cn e,ix (fun z=>e (r.1.trans z))];exact ih
theorem KR.any{kvs:List (κ×D)}{ks:List (κ×V)}(h:KR K M H kvs ks) (k:κ):(ks.any fun kv=>decide (kv.1=k))=kvs.any fun kv=>decide (kv.1=k):=by
 unfold KR at h
 induction h with
 |nil=>rfl
 |cons r _ ih=>rw[P2,P2,ih,r.1]
theorem KR.length{kvs:List (κ×D)}{ks:List (κ×V)}(h:KR K M H kvs ks):kvs.length=ks.length:=X3 h
theorem KR.put{kvs:List (κ×D)}{ks:List (κ×V)}(h:KR K M H kvs ks) (k:κ) {d:D}{v:V}(r:Rep K M H d v):KR K M H (j3 kvs k d) (eY ks k v):=by
 unfold j3 eY;rw[h.any k]
 by_cases e:(kvs.any fun kv=>decide (kv.1=k))=true
 ·rw[if_pos e,if_pos e];clear e;unfold KR at h ⊢
  induction h with
  |nil=>exact .nil
  |@cons p q ps qs r1 t ih =>
   rw[N9,N9];refine .cons ?_ ih
   by_cases e:p.1=k
   ·rw[if_pos e,if_pos (r1.1.symm.trans e)];exact⟨r1.1,r⟩
   ·rw[if_neg e,if_neg (fun z=>e (r1.1.trans z))];exact r1
 ·rw[if_neg e,if_neg e];exact P8.snoc h ⟨rfl,r⟩
end
def kD:Key->D
 |.inl i=>.int i
 |.inr x=>.str x
theorem B0{K:o0}{M:DH}{H:Hp}{k:Key}{v:V}(h:Rep K M H (kD k) v):v=kV k:=by
 cases k<;>simpa[kD,Rep,kV]using h
theorem iu{K:o0}{M:DH}{H:Hp}:∀{ks:List Key}{vs:List V},ar K M H (ks.map kD) vs->vs=ks.map kV
 |[],_,h=>by simpa[ar]using h
 |k::ks,_,h=>by
  simp only[N9,ar]at h;obtain⟨v,ws,rfl,h1,h2⟩:=h;rw[B0 h1,iu h2];rfl
section
variable{X:Cx}{a b c e o i:J5}{es:List J5}{te to ti ta tb:TEd}{t:TAd}{pos:Pos}
def Ar(to:TEd) (t:TAd):TEd:=fun Δ M Q=>to Δ M fun x M1=>t Δ M1 fun ds M2=>∃a kvs ks d,x=.ref a/\M2 a=some (.dT kvs)/\ds=ks.map kD/\ds.length<=F2/\df kvs ks=some d/\Q d M2
def Aq(to:TEd) (t:TAd) (te:TEd):TSd:=fun E Δ M=>te Δ M fun d M1=>to Δ M1 fun x M2=>t Δ M2 fun ds M3=>ds.length<=F2/\∃a kvs ks,x=.ref a/\M3 a=some (.dT kvs)/\ds=ks.map kD/\kvs.length<F2/\E.nx Δ (av M3 a (.dT (j3 kvs ks d)))
def xJ(to:TEd) (t:TAd) (te:TEd):TEd:=fun Δ M Q=>to Δ M fun x M1=>∃a kvs0,x=.ref a/\M1 a=some (.dT kvs0)/\t Δ M1 fun ds M2=>ds.length<=F2/\te Δ M2 fun z M3=>∃kvs ks,M3 a=some (.dT kvs)/\ds=ks.map kD/\Q ((df kvs ks).getD z) M3
end
section
variable{X:Cx}{a b c e o:J5}{es:List J5}{te to:TEd}{t:TAd}{pos:Pos}{tg:J5}
noncomputable def E9:List D->Option D
 |[.int i,.int j]=>some (.int (if j<i then j else i))
 |_=>none
noncomputable def fu:List D->Option (List Int)
 |[]=>some []
 |.int i::ds=>(fu ds).map (i::·)
 |_=>none
theorem lu:∀{ns:List Int},fu (ns.map D.int)=some ns
 |[]=>rfl
 |n::ns=>by simp[fu,lu (ns:=ns)]
def vG:D->Option D
 |.lst ds=>(fu ds).map fun ns=>.int ns.sum
 |_=>none
theorem u0{ns:List Int}:vG (.lst (ns.map D.int))=some (.int ns.sum):=by simp[vG,lu]
theorem m5{K:o0}{M:DH}{H:Hp}:∀{ds:List D}{ns:List Int}{vs:List V}{us:List u8},fu ds=some ns->ar K M H ds vs->ay vs us->∃xs:Array (Int×Tok),us.toArray=intItems xs/\xs.toList.map (·.1)=ns
 |[],_,_,_,e,h,r=>by
  simp only[fu,K9.injEq]at e;subst e;simp only[ar]at h;subst h;cases r;exact⟨#[],by simp[intItems],rfl⟩
 |.int i::ds,ns,vs,us,e,h,r=>by
  simp only[fu]at e;cases q:fu ds with
  |none=>rw[q]at e;cases e
  |some ms =>
   rw[q]at e;cases e;simp only[ar]at h;obtain⟨v,ws,rfl,h1,h2⟩:=h;simp only[Rep]at h1;subst h1;cases r with
   |@cons x u xs' us' r1 r2 =>
    obtain⟨t,rfl⟩:=r1;obtain⟨ys,e1,e2⟩:=m5 q h2 r2;refine⟨(((i,t)::ys.toList)).toArray,?_,by simp[e2]⟩;have:us'=(intItems ys).toList:=by rw[<-e1]
    rw[this];simp[intItems]
 |.non::_,_,_,_,e,_,_=>by cases e
 |.bl _::_,_,_,_,e,_,_=>by cases e
 |.str _::_,_,_,_,e,_,_=>by cases e
 |.tup _::_,_,_,_,e,_,_=>by cases e
 |.lst _::_,_,_,_,e,_,_=>by cases e
 |.scr _::_,_,_,_,e,_,_=>by cases e
 |.emp::_,_,_,_,e,_,_=>by cases e
 |.box _ _::_,_,_,_,e,_,_=>by cases e
 |.ref _::_,_,_,_,e,_,_=>by cases e
theorem zZ(hc:X.calm=true):bZ X (.builtin "sum") (uP vG):=by
 intro ag s σ H M xs us ds dz Q I hr rv rp e k;obtain⟨d,rfl,e0⟩:=gH e;clear e;have e:=e0;clear e0;obtain⟨v,rfl,r⟩:=tJ rp;obtain⟨u,rfl,ru⟩:=ay.one rv;cases d with
 |lst ds =>
  simp only[vG]at e;cases q:fu ds with
  |none=>rw[q]at e;cases e
  |some ns =>
   rw[q]at e;cases e;obtain⟨l,vs,rfl,sq,rl⟩:=r;cases ru;obtain⟨its,rv,pl,hz⟩:=I.list (SqL.of sq);obtain⟨ys,e1,e2⟩:=m5 q rl rv;refine sum_intListG (xs:=ys) (I.ok.hd hc) (by rw[<-e1];exact pl.isList) fun h' tk t' kk=>?_;have I1:Inv X ag σ H { s with heap:=h',toks:=tk }:=I.kept (t':=tk) kk;refine⟨.int _,H,I1,⟨_,rfl⟩,k _ H (Ext.refl _ _) hr ?_⟩;have e3:preSum (numAt ys) ys.size=ns.sum:=by
    rw[preSum_eq,List.take_of_length_le (by simp),e2]
   rw[e3];simp[Rep]
 |_=>cases e
def C1(to:TEd):TEd:=fun Δ M Q=>to Δ M fun o M1=>∃a ds d,o=.ref a/\M1 a=some (.lst (ds++[d]))/\Q d (av M1 a (.lst ds))
def C0(to te:TEd):TEd:=fun Δ M Q=>to Δ M fun o M1=>∃a l,o=.ref a/\M1 a=some (.lst l)/\te Δ M1 fun d M2=>∃ds ys,d=.lst ys/\M2 a=some (.lst ds)/\ds.length+ys.length<=F2/\Q .non (av M2 a (.lst (ds++ys)))
def AY(lo c:Int) (n:Nat):It:=⟨fun i _=>i<n,fun i H x H'=>H'=H/\x=.int (lo+i*c),fun i _=>n<=i⟩
theorem pZ{P:L4}{w:P7}{K:o0}{tg:J5}(it:F9) (lo c:Int) (n:Nat):iP P w K tg (AY lo c n) [it] it (fun i h=>ac4 h it (lo+(i:Nat)*c) ((n:Int)-(i:Nat)) c) where
 mem:=by simp
 obj:=fun i h st b hb=>by
  have e:b=it:=by simpa using hb
  subst e;exact⟨_,st,fun v z=>by
   have z':Data.fields _=Data.cell v:=z;cases z'⟩
 keep:=fun i h h' st k=>k it (by simp) _ st
 item:=by
  intro X hP hw hK hc i ag s σ H E I hf st hg;subst hP hw hK;obtain⟨f0,f1,f2,f3,f4,f5⟩:=hf it (by simp);have W:=Walks.range (prog:=X.prog) (w:=X.w) (I.ok.hd hc) it lo c n;refine W.item i s _ _ hg st fun v h' tk hv st' kk=>?_;obtain⟨t,rfl⟩:=hv;have I1:Inv X ag σ H { s with heap:=h',toks:=tk }:=I.turned (fun b o hb e=>kk b o (by simpa using hb) e) f0 f1 f3 f4 f5;exact⟨_,rfl,nu (s:={ s with heap:=h',toks:=tk }) (n:="range_iterator") st' rfl rfl (by decide) ⟨.int (lo+i*c),H,I1,⟨t,rfl⟩,⟨rfl,rfl⟩,st',fun b hb=>(hf b hb).1⟩⟩
 done:=by
  intro X hP hw hK hc i ag s σ H E I hf st hg;subst hP hw hK;obtain⟨f0,f1,f2,f3,f4,f5⟩:=hf it (by simp);exact wpAny_pyNext_range_end (I.ok.hd hc) st (by have:n<=i:=hg;omega) fun h' eb=>⟨rfl,I.turned (t':=s.toks) (fun b o hb e=>eb b o hb e) f0 f1 f3 f4 f5⟩
 self:=fun _ _ _ _ _ st h=>wpAny_pyIter_rangeiter st h
def szR(a b c:Int):Nat:=(O5 a b c).toNat
def DQ(ta:TA):TI:=fun σ H R=>ta σ H fun vs H1=>∃i j c:Int,vs=[.int i,.int j,.int c]/\c≠0/\(-(2 ^ 20)<=i/\i<2 ^ 20/\-(2 ^ 20)<=j/\j<2 ^ 20/\-(2 ^ 20)<=c/\c<2 ^ 20)/\J1.Range.small i j c=true/\R (AY i c (szR i j c)) H1
theorem zd{a b c:Int}(hc:c≠0):0<=O5 a b c:=by
 unfold O5
 split
 ·split
  ·have:=Int.ediv_nonneg (a:=b-a-1) (b:=c) (by omega) (by omega);omega
  ·omega
 ·split
  ·have:=Int.ediv_nonneg (a:=a-b-1) (b:=-c) (by omega) (by omega);omega
  ·omega
theorem ue{ta:TA}{p:Pos}(hg:Gl X "range") (hm:X.mg "range"=none) (ha:PA X [a,b,c] ta) (hs:J7 [a,b,c] X.env=[(false,V1 a X.env),(false,V1 b X.env),(false,V1 c X.env)]:=by rfl)
  (hs2:J7 [b,c] X.env=[(false,V1 b X.env),(false,V1 c X.env)]:=by rfl):PI X tg (.Call (.Name "range" p) [a,b,c] [] pos) (DQ ta):=by
 intro ag s σ H R I h;refine Call_ (e8 I hg hm boot_range (O6 (thn (ha pos ag s σ H _ I h) fun us s1 hup=>hup.el fun vs H1 I1 r1 q1=>?_) (by rw[hs,hs2]) (by rw[hs2];rfl)));obtain⟨i,j,st,e,hc,⟨b1,b2,b3,b4,b5,b6⟩,hsm,q⟩:=q1;subst e;cases r1 with
 |cons r rr =>
  cases rr with
  |cons r' rr =>
   cases rr with
   |cons r'' rr =>
    cases rr;obtain⟨t,rfl⟩:=r;obtain⟨t',rfl⟩:=r';obtain⟨t'',rfl⟩:=r'';refine call_range_3 hc ?_ (Or.inl (PyProof.noPylong_small (by omega)));refine wpAny_pyIter_range (IsRange.new ..) hsm ?_;have I2:Inv X ag σ H1 { s1 with heap:=s1.heap.push { cls:=.type "range",data:=.fields #[.int i t,.int j t',.int st t''] },toks:=s1.toks }:=I1.kept fun b o e=>F1 _ e;refine⟨(s1.heap.push { cls:=.type "range",data:=.fields #[.int i t,.int j t',.int st t''] }).objs.size,[(s1.heap.push { cls:=.type "range",data:=.fields #[.int i t,.int j t',.int st t''] }).objs.size],_,_,H1,rfl,
     I2.kept (t':=s1.toks) fun b o e=>F1 _ e,pZ _ i st (szR i j st),?_,fun b hb=>?_,q⟩
    ·have e1:i+((0:Nat):Int)*st=i:=by simp
     have e2:((szR i j st:Nat):Int)-((0:Nat):Int)=O5 i j st:=by
      unfold szR;have:=zd (a:=i) (b:=j) hc;omega
     show ac4 _ _ (i+((0:Nat):Int)*st) (((szR i j st:Nat):Int)-((0:Nat):Int)) st;rw[e1,e2];exact F6 _ rfl
    ·have e:b=(s1.heap.push { cls:=.type "range",data:=.fields #[.int i t,.int j t',.int st t''] }).objs.size:=by simpa using hb
     subst e;exact I2.fpOk (F7 _) (I2.hok.fresh (F7 _))
def nU(lo c:Int) (n:Nat):List D:=(T6 n).map fun(k:Nat)=>.int (lo+(k:Int)*c)
theorem oX{lo c:Int}{n i:Nat}{d:D}(h:(nU lo c n)[i]?=some d):i<n/\d=.int (lo+i*c):=by
 unfold nU at h;rw[P9]at h
 by_cases hi:i<n
 ·rw[List.getElem?_range hi]at h;cases h;exact⟨hi,rfl⟩
 ·rw[List.getElem?_eq_none (by simp;omega)]at h;cases h
theorem zh{K:o0}{lo c:Int}{n:Nat}{M1:DH}{H1:Hp}:ItD K (AY lo c n) (nU lo c n) M1 H1:=fun M2 H2 e2 hr2 i=>⟨fun d hd=>by
  obtain⟨h1,rfl⟩:=oX hd;refine⟨h1,fun x H' ⟨eH,y⟩=>?_⟩;subst eH;subst y;exact⟨Ext.refl _ _,hr2,by simp[Rep]⟩,fun hl=>by
  show n<=i;simpa[nU]using hl⟩
def xy(ta:TAd):TId:=fun Δ M R=>ta Δ M fun ds M1=>∃i j c:Int,ds=[.int i,.int j,.int c]/\(c=2∨c=-1)/\(-(2 ^ 20)<=i/\i<2 ^ 20/\-(2 ^ 20)<=j/\j<2 ^ 20)/\R (nU i c (szR i j c)) M1
theorem uj{a b c:Int}(hc:c=2∨c=-1) (ha:-(2 ^ 20)<=a) (ha':a<2 ^ 20) (hb:-(2 ^ 20)<=b) (hb':b<2 ^ 20):J1.Range.small a b c=true:=by
 unfold J1.Range.small O5;rcases hc with rfl|rfl
 ·simp only[J1.Range.rangeFitsLong,K1,Bool.or_eq_true,decide_eq_true_eq,beq_iff_eq,show(2:Int) > 0 by decide,if_true]
  split<;>omega
 ·simp only[J1.Range.rangeFitsLong,K1,Bool.or_eq_true,decide_eq_true_eq,beq_iff_eq,show ¬ (-1:Int) > 0 by decide,if_false,show(- (-1:Int))=1 from rfl,Int.ediv_one]
  split<;>omega
theorem ar.three{K:o0}{M:DH}{H:Hp}{d e f:D}{vs:List V}(h:ar K M H [d,e,f] vs):∃v w z,vs=[v,w,z]/\Rep K M H d v/\Rep K M H e w/\Rep K M H f z:=by
 simp only[ar]at h;obtain⟨v,us,rfl,h1,w,ws,rfl,h2,z,zs,rfl,h3,rfl⟩:=h;exact⟨v,w,z,rfl,h1,h2,h3⟩
end
theorem fb{x:Str}{c:F9}:∀{names:List (Str×J9)}{n:Nat}{acc:List (Str×F9)},(P0 n names acc).lookup x=some c->acc.lookup x=some c∨((x,P3)∈names/\n<=c)
 |[],_,_,h=>.inl h
 |(y,k)::r,n,acc,h=>by
  unfold P0 at h
  split at h
  ·rename_i hk;rcases fb h with z|z
   ·rw[J8]at z;cases q:x==y with
    |true =>
     rw[q]at z;have e1:n=c:=J4 z;have e2:x=y:=by simpa using q
     have e3:k=.cell:=by simpa using hk
     subst e1;subst e2;subst e3;exact .inr ⟨L9,F7 _⟩
    |false=>rw[q]at z;exact .inl z
   ·exact .inr ⟨K8 _ z.1,W4 z.2⟩
  ·rcases fb h with z|z
   ·exact .inl z
   ·exact .inr ⟨K8 _ z.1,z.2⟩
theorem rh:∀{names:List (Str×J9)}{n:Nat}{acc:List (Str×F9)},(∀x y c,acc.lookup x=some c->acc.lookup y=some c->x=y)->(∀x c,acc.lookup x=some c->c<n) ->
  ∀x y c,(P0 n names acc).lookup x=some c->(P0 n names acc).lookup y=some c->x=y
 |[],_,_,hi,_=>hi
 |(z,k)::r,n,acc,hi,hl=>by
  unfold P0
  split
  ·refine rh (fun x y c hx hy=>?_) (fun x c hx=>?_)
   ·rw[J8]at hx hy;cases q1:x==z with
    |true =>
     rw[q1]at hx;have e1:n=c:=J4 hx;subst e1;cases q2:y==z with
     |true=>exact(beq_iff_eq.mp q1).trans (beq_iff_eq.mp q2).symm
     |false=>rw[q2]at hy;exact absurd (hl y _ hy) (O2 _)
    |false =>
     rw[q1]at hx;cases q2:y==z with
     |true =>
      rw[q2]at hy;have e1:n=c:=J4 hy;subst e1;exact absurd (hl x _ hx) (O2 _)
     |false=>rw[q2]at hy;exact hi x y c hx hy
   ·rw[J8]at hx;cases q1:x==z with
    |true=>rw[q1]at hx;have e1:n=c:=J4 hx;exact e1▸P6 _
    |false=>rw[q1]at hx;exact K4 (hl x c hx)
  ·exact rh hi hl
theorem oq{x:Str}{c:F9}:∀{names:List (Str×J9)}{h:K5}{acc:List (Str×F9)},(P0 h.objs.size names acc).lookup x=some c->acc.lookup x=some c∨(pushCells h names).IsCell c none
 |[],_,_,e=>.inl e
 |(y,k)::r,h,acc,e=>by
  unfold P0 at e;unfold pushCells
  split at e
  ·rename_i hk;rw[if_pos hk];have e':(P0 (h.push { cls:=.type "cell",data:=.cell none }).objs.size r ((y,h.objs.size)::acc)).lookup x=some c:=by rw[R6];exact e
   rcases oq e' with z|z
   ·rw[J8]at z;cases q:x==y with
    |true =>
     rw[q]at z;have e1:h.objs.size=c:=J4 z;subst e1;exact .inr ⟨_,pushCells_keeps _ _ _ _ (F6 _ rfl),rfl⟩
    |false=>rw[q]at z;exact .inl z
   ·exact .inr z
  ·rename_i hk;rw[if_neg hk];exact oq e
theorem oQ{M:Model}{A:N5}{E:u8->F0->Prop}{s:F0}{scope:R0}{globals:F9}{cl:List (Str×F9)}{qual:Str}{outer:Env}{builtins:F9}{Q:Env->F0->Prop}
  (hQ:∀ h',(∀ b o,s.heap.get? b = some o → h'.get? b = some o) → h'.Ns s.heap.objs.size (fun _ => none) →
   (∀x c,(P0 (s.heap.objs.size+1) scope.names cl).lookup x=some c->cl.lookup x=some c∨h'.IsCell c none) ->
   Q (newEnv scope s.heap.objs.size globals (P0 (s.heap.objs.size+1) scope.names cl) qual none .none (some outer) builtins) { s with heap:=h' }) :
  J3 M A (W6 scope globals cl [] qual none .none (some outer) builtins) Q E s:=by
 simp only[W6,Option.isSome_some,if_true];refine s0 (wpAny_alloc ?_);refine s0 (wpAny_layCells _ (fun name kind cells=>by cases hkc:kind==P3<;>simp[hkc]) _ _ _ _ ?_);have hsz:({ s with heap:=s.heap.push { cls:=.type "dict",data:=.dict #[] } }:F0).heap.objs.size=s.heap.objs.size+1:=R6 ..;rw[hsz];refine s0 ?_;rw[List.forIn_nil];refine F4 (F4 ?_);refine hQ _ (fun b o e=>pushCells_keeps _ _ b o (F1 _ e)) ((K5.Ns.new s.heap (.type "dict")).keeps (pushCells_keeps _ _)) fun x c e=>?_;refine oq (h:=s.heap.push { cls:=.type "dict",data:=.dict #[] }) ?_;rw[R6];exact e
def cxC(X:Cx) (scope:R0) (cl:List (Str×F9)) (N:List Str) (C:F9) (s:F0) (H:Hp) (ex:List F9):Cx :=
 { aB X scope (P0 (C+1) scope.names cl) N C s H ex with fn:=fun x=>scope.names.lookup x==some .cell }
theorem dW{env:Env}{x:Str}:∀{names:List (Str×J9)},(names.map fun(n,k)=>if(k==K7&&env.scope.kind==.function&&env.kindOf n==some .cell)then(n,P3)else(n,k)).lookup x =
  (names.lookup x).map fun k=>if(k==K7&&env.scope.kind==.function&&env.kindOf x==some .cell)=true then P3 else k
 |[]=>rfl
 |(n,k0)::r=>by
  have ih:=@dW env x r;show ac8 x ((if(k0==K7&&env.scope.kind==.function&&env.kindOf n==some .cell)=true then(n,P3)else(n,k0))::_)=_;cases hx:x==n with
  |true =>
   have e:x=n:=by simpa using hx
   subst e
   by_cases hq:(k0==K7&&env.scope.kind==.function&&env.kindOf x==some .cell)=true
   ·rw[if_pos hq];simp only[J8,hx,R8,hq,if_true]
   ·rw[if_neg hq];simp only[J8,hx,R8,hq,if_false,N4]
  |false =>
   by_cases hq:(k0==K7&&env.scope.kind==.function&&env.kindOf n==some .cell)=true
   ·rw[if_pos hq];simp only[J8,hx];exact ih
   ·rw[if_neg hq];simp only[J8,hx];exact ih
structure cp(X:Cx) (scope:R0) (cl:List (Str×F9)) (ms:List Bool) (aj:List Str):Prop where
 kind:scope.kind=.function
 names:∀y∈scope.names,y.2=.local->scope.names.lookup y.1=some .local
 cellN:∀y∈scope.names,y.2=.cell->scope.names.lookup y.1=some .cell
 clos:closureFor scope X.env=V9 cl
 sub:∀x c,cl.lookup x=some c->X.env.cells.lookup x=some c
 fre:∀x c,cl.lookup x=some c->scope.names.lookup x=some .free
 has:∀x,scope.names.lookup x=some .free->∃c,cl.lookup x=some c
 fr:∀x,scope.names.lookup x=some .free->X.env.scope.names.lookup x=some .cell∨X.env.scope.names.lookup x=some .free
 mask:∀(i:Nat) (x:Str),ms[i]?=some true->X.N[i]?=some x->scope.names.lookup x=some .free
 mlen:ms.length<=X.N.length
theorem yN{X:Cx}{scope:R0}{cl:List (Str×F9)}{ms:List Bool}{aj:List Str}(S:cp X scope cl ms aj) {n:Nat}{x:Str}{c:F9}(hf:scope.names.lookup x=some .free) (hc:cl.lookup x=some c):(P0 n scope.names cl).lookup x=some c:=by
 have h:=O1 (x:=x) scope.names n cl (.inr (by rw[hc];rfl));obtain⟨c',e⟩:=O4.mp h;rcases fb e with z|z
 ·rw[hc]at z;cases z;exact e
 ·have:=S.cellN _ z.1 rfl;rw[hf]at this;cases this
section
variable{X:Cx}{ag:List (F9×Obj)}{σ:St}{H H2:Hp}{s s2:F0}{scope:R0}{cl:List (Str×F9)}{ms:List Bool}{aj:List Str}
theorem nZ(I:Inv X ag σ H s) (S:cp X scope cl ms aj) {fp:List F9}(hfp:∀b∈fp,cz X ag H b) (hlt:∀b∈fp,b<s.heap.objs.size) {C:F9}(hC:s.heap.objs.size<=C) :
  (cxC X scope cl (X.N++aj) C s H fp).Ok where
 mod:=I.ok.mod
 kind:=S.kind
 glob:=I.ok.glob
 blt:=I.ok.blt
 above:=hC
 inj:=rh (fun x y c h1 h2=>I.ok.inj x y c (S.sub x c h1) (S.sub y c h2)) fun x c h=>by
  obtain⟨v,o,ho,_⟩:=I.cell x c (S.sub x c h);exact K4 (F8 (F5 ho) hC)
 has:=fun x hx=>by
  have hx':(Z6 scope X.env).names.lookup x=some .cell∨(Z6 scope X.env).names.lookup x=some .free:=hx;have e:(Z6 scope X.env).names.lookup x=_:=dW (env:=X.env) (x:=x) (names:=scope.names);rw[e]at hx';refine O4.mp (O1 _ _ _ ?_);cases q:scope.names.lookup x with
  |none=>rw[q]at hx';simp at hx'
  |some k =>
   rw[q]at hx';cases k with
   |cell=>exact .inl rfl
   |free=>obtain⟨c,hc⟩:=S.has x q;exact .inr (by rw[hc];rfl)
   |_=>simp at hx'
 cab:=fun x c h e=>by
  have hq:scope.names.lookup x=some .cell:=by simpa[cxC]using h
  rcases fb e with z|z
  ·rw[S.fre x c z]at hq;cases hq
  ·exact L5 hC (W4 z.2)
 hd:=I.ok.hd
 frames:=I.ok.frames
 stk:=.inl rfl
 exf:=fun b hb=>⟨I0 (F8 (hlt b hb) hC),fun x c e=>by
  rcases fb e with z|z
  ·exact(hfp b hb).2.2.2.2.1 x c (S.sub x c z)
  ·exact T8 (F8 (F8 (hlt b hb) hC) (W4 z.2))⟩
 bs:=I.bs
 bsz:=L5 I.ok.bsz I.sz
 noex:=fun b o e hb=>by
  rcases(hfp b hb).2.2.2.1 with z|z
  ·exact I.ok.noex b o e z
  ·exact absurd (F8 (F5 e) (L5 I.ok.bsz z)) (O2 _)
 exfs:=fun b hb z=>by
  rcases N7.mp (I.stkSub b z)with e|e
  ·exact(hfp b hb).2.1 e
  ·exact(hfp b hb).2.2.1 e
 funs:=I.stack
 frf:=I.stkFree
theorem uZ(I:Inv X ag σ H s) (S:cp X scope cl ms aj) {fp:List F9}(hfp:∀b∈fp,cz X ag H b) (hlt:∀b∈fp,b<s.heap.objs.size) {C:F9}(hC:s.heap.objs.size<=C)
  (os:s2.os=s.os) (bare:ab1 s2.gens) (keep:∀b o,s.heap.get? b=some o->s2.heap.get? b=some o) {m:Str->Option u8} (hn:s2.heap.Ns C m)
  (hce:∀x c,(P0 (C+1) scope.names cl).lookup x=some c->cl.lookup x=some c∨s2.heap.IsCell c none) :
  Inv (cxC X scope cl (X.N++aj) C s H fp) [] (cZ ms aj.length σ) H s2 where
 ok:=nZ I S hfp hlt hC
 os:=os
 bare:=bare
 base:=Un.kept keep
 loc:=⟨m,hn,fun i x v h1 h2 h3=>by
  obtain⟨hi,hm,hv⟩:=nB h2;have hiN:i<X.N.length:=by rw[<-I.len];exact hi
  have hx:X.N[i]?=some x:=by
   have h1':(X.N++aj)[i]?=some x:=h1
   rwa [L8 hiN]at h1'
  have hf:=S.mask i x hm hx;obtain⟨m0,hn0,hl⟩:=I.loc;obtain⟨u,r,l⟩:=hl i x v hx hv (by rcases S.fr x hf with z|z<;>simp[Vis,z]);refine⟨u,r,.inr ⟨?_,?_⟩⟩
  ·exact fA (env:=X.env) hf
  ·obtain⟨c,hc⟩:=S.has x hf;have hc':=S.sub x c hc;rcases l with⟨k,_⟩|⟨_,c',e,z⟩
   ·rcases S.fr x hf with z|z<;>(have k':X.env.scope.names.lookup x=some .local:=k;rw[z]at k';cases k')
   ·rw[hc']at e;cases e;obtain⟨o,ho,hd⟩:=z;exact⟨c,yN S hf hc,o,keep _ _ ho,hd⟩⟩
 cell:=fun x c e=>by
  rcases hce x c e with z|z
  ·obtain⟨v,o,ho,hd⟩:=I.cell x c (S.sub x c z);exact⟨v,o,keep _ _ ho,hd⟩
  ·exact⟨none,z⟩
 free:=I.hok.fresh hC
 freeC:=fun x c e=>by
  rcases fb e with z|z
  ·exact I.freeC x c (S.sub x c z)
  ·exact I.hok.fresh (L5 hC (W4 z.2))
 pin:=fun p hp=>absurd (show p∈([]:List (F9×Obj))from hp) (by simp)
 hok:=I.hok.kept keep
 len:=by
  unfold cZ;rw[L6,bw,List.length_replicate,I.len];show _=(X.N++aj).length;rw[L6]
end
section
variable{X:Cx}{ag:List (F9×Obj)}{σ σ':St}{H2 H':Hp}{s2 s':F0}{scope:R0}{cl:List (Str×F9)}{ms:List Bool}{aj:List Str}{tg iter elt:J5}{ifs:List J5}{g:TG}{tc:TT}{te:TE}{pos:Pos}
theorem rW(S:cp X scope cl ms aj) (bA:X.calm=true)
  (hg:∀C s H ex,PG (cxC X scope cl (X.N++aj) C s H ex) tg g) (hif:∀C s H ex,PIf (cxC X scope cl (X.N++aj) C s H ex) ifs tc) (he:∀C s H ex,PE (cxC X scope cl (X.N++aj) C s H ex) elt te)
  (I2:Inv X ag σ H2 s2) {it:F9} {fp:List F9} {tn:Nat->K5->Prop} {J:It} (T:iP X.prog X.w X.K tg J fp it tn) (st2:tn 0 s2.heap) (f2:∀b∈fp,cz X ag H2 b)
  {W:Nat->Nat->List V->St->Hp->Prop} {Z:List V->St->Hp->Prop} {m0:Nat} (w0:W 0 m0 [] (cZ ms aj.length σ) H2) (turn:lR J g tc (m9 te) W Z)
  {RR:u8->F9->ae0->F0->Prop} {E:u8->F0->Prop}
  (hRR:∀ (s':F0) (ys:List V) (its:List u8) (n:Nat) (σ':St) (H':Hp),Inv (cxC X scope cl (X.N ++ aj) (s2.heap.objs.size + 1) s2 H2 fp) [(s2.heap.objs.size,dg its n)] σ' H' s' → ay ys its → ys.length ≤ F2 → Z ys σ' H' →
   RR (.ref s2.heap.objs.size) (s2.heap.objs.size+1) (.ok .next) s') :
  J3 (K6 X.prog X.w) X.A (newList []) (fun acc s₃=>J3 (K6 X.prog X.w) X.A (W6 scope X.env.globals cl [] X.env.qual none .none (some X.env)) (fun cenv s₄ =>
   Z9 (K6 X.prog X.w) X.A (.compStart (.ListComp elt [⟨tg,iter,ifs,0⟩] scope pos) 0 (.ref it) acc { cenv with scope:=Z6 scope X.env }) (RR acc cenv.locals) s₄) E s₃) E s2:=by
 refine K0 (oQ fun h₁ kp₁ hns₁ hce₁=>?_);dsimp only at hns₁ kp₁ hce₁ ⊢;have hsz:(s2.heap.push { cls:=.type "list",dict:=none,data:=.seq ([]:List u8).toArray }).objs.size=s2.heap.objs.size+1:=by rw[R6]
 rw[hsz]at hns₁ hce₁ ⊢;have hlt:∀b∈fp,b<s2.heap.objs.size:=fun b hb=>by
  obtain⟨o,e,_⟩:=T.obj _ _ st2 b hb;exact F5 e
 have old:∀b o,s2.heap.get? b=some o->h₁.get? b=some o:=fun b o e=>kp₁ b o (F1 _ e);have hacc:h₁.get? s2.heap.objs.size=some (dg [] 0):=kp₁ _ _ (F6 _ rfl);have hDn:H2 s2.heap.objs.size=none:=I2.hok.fresh (F7 _);have hDfs:∀b,s2.heap.objs.size<=b->b∉(cxC X scope cl (X.N++aj) (s2.heap.objs.size+1) s2 H2 fp).fs:=fun b hb z=>by
  rcases N7.mp (I2.stkSub b z)with e|e
  ·subst e;exact absurd (F8 I2.lt hb) (O2 _)
  ·exact I2.nofs hb e
 have loop:∀s₃:F0,s₃={ s2 with heap:=h₁ } ->
   Z9 (K6 X.prog X.w) X.A (.compLoop (.ListComp elt [⟨tg,iter,ifs,0⟩] scope pos) 0 (.ref it) (.ref s2.heap.objs.size) (ad7 scope (P0 (s2.heap.objs.size+1+1) scope.names cl) (s2.heap.objs.size+1) X.env)) (RR (.ref s2.heap.objs.size) (s2.heap.objs.size+1)) s₃:=by
  rintro s₃ rfl;have I3:Inv (cxC X scope cl (X.N++aj) (s2.heap.objs.size+1) s2 H2 fp) [] (cZ ms aj.length σ) H2 { s2 with heap:=h₁ } :=
   uZ I2 S f2 hlt (aa8 _) rfl I2.bare old hns₁ hce₁
  have hne:∀x c,(cxC X scope cl (X.N++aj) (s2.heap.objs.size+1) s2 H2 fp).env.cells.lookup x=some c->c≠s2.heap.objs.size:=fun x c e=>by
   rcases fb e with z|z
   ·obtain⟨v,o,ho,_⟩:=I2.cell x c (S.sub x c z);exact I0 (F5 ho)
   ·exact T8 (F8 (K4 (P6 _)) z.2)
  have c:ly (cxC X scope cl (X.N++aj) (s2.heap.objs.size+1) s2 H2 fp) s2.heap.objs.size:=⟨rfl,bA,rfl,.inr (F7 _),hne⟩;refine nr c (sY c (he _ _ _ _) fun _ _ _=>rfl) (hg _ _ _ _) (hif _ _ _ _) (P:=[]) (p:=iter.pos) (fun p hp=>nomatch hp) (its0:=[]) (nn0:=0) (I3.pins_of fun p hp=>?_) .nil T (T.keep _ _ _ st2 fun b _ o e=>old b o e) (fun b hb=>?_) w0 turn ?_
  ·have e:p=(s2.heap.objs.size,dg [] 0):=N3.mp hp;subst e;exact⟨hacc,hDn,I0 (P6 _),hDfs _ (F7 _),fun v z=>by cases z⟩
  ·exact⟨(f2 b hb).1,I0 (K4 (hlt b hb)),(nZ I2 S f2 hlt (aa8 _)).exfs b hb,.inl hb,fun x c e=>(nZ I2 S f2 hlt (aa8 _)).exf b hb |>.2 x c e,fun p hp=>by
    have:p=(s2.heap.objs.size,_):=N3.mp (show p∈[(s2.heap.objs.size,_)]from hp);subst this;exact T8 (hlt b hb)⟩
  ·exact fun s' ys its n σ' H' I' rv hz hZ=>hRR s' ys its n σ' H' I' rv hz hZ
 exact codeAny_compStart_list (loop _ rfl) (T.self _ 0 _ _ _ (T.keep _ _ _ st2 fun b _ o e=>old b o e) (loop _ rfl))
theorem rZ(I2:Inv X ag σ H2 s2) {fp:List F9}(f2:∀b∈fp,cz X ag H2 b) {its:List u8}{n:Nat}{ys:List V}
  (I':Inv (cxC X scope cl (X.N++aj) (s2.heap.objs.size+1) s2 H2 fp) [(s2.heap.objs.size,dg its n)] σ' H' s') (rv:ay ys its) (hz:ys.length<=F2) {h':K5} (hs:O0 (s2.heap.objs.size+1) s'.heap h') :
  Inv X ag σ (upd H' s2.heap.objs.size (.lst ys)) { s' with heap:=h' }/\H' s2.heap.objs.size=none:=by
 have pacc:=I'.pin (s2.heap.objs.size,dg its n) (H0 _ L9);have hC:H' (s2.heap.objs.size+1)=none:=I'.free;have hD:H' s2.heap.objs.size=none:=pacc.2.1;have up:∀b o,b≠s2.heap.objs.size+1->s'.heap.get? b=some o->h'.get? b=some o:=fun b o hb e=>(hs.2 b hb).trans e;have nD:∀b u,H' b=some u->b≠s2.heap.objs.size:=fun b u e z=>by rw[z,hD]at e;cases e
 have nC:∀b u,H' b=some u->b≠s2.heap.objs.size+1:=fun b u e z=>by rw[z,hC]at e;cases e
 have hacc:h'.get? s2.heap.objs.size=some (dg its n):=up _ _ (I0 (P6 _)) pacc.1;have hok:HOk X.prog X.w (upd H' s2.heap.objs.size (.lst ys)) h':=fun b u e=>by
  by_cases hb:b=s2.heap.objs.size
  ·subst hb;rw[aF]at e;cases e;exact⟨hz,its,n,rv,hacc⟩
  ·rw[ax hb]at e;refine(I'.hok b u e).stay (fun c v hc q=>up c v ?_ q) (fun c q=>by rw[ax (nD c _ q)];exact q) fun c xs q=>by rw[ax (nD c _ q)];exact q
   rcases hc with rfl|hc
   ·exact nC _ _ e
   ·exact nC _ _ hc
 have un:Un (frs X.stack) fp H2 (upd H' s2.heap.objs.size (.lst ys)) s2.heap h':=by
  have U:=I'.base;have ltD:∀b o,s2.heap.get? b=some o->b≠s2.heap.objs.size:=fun b o e=>I0 (F5 e);have ltC:∀b o,s2.heap.get? b=some o->b≠s2.heap.objs.size+1:=fun b o e=>I0 (K4 (F5 e));refine⟨fun b o e nb hb hx=>up b o (ltC b o e) (U.keep b o e nb hb hx),fun b o e nb hb hx=>?_,fun b o e nb hx=>by rw[ax (ltD b o e)];exact U.free b o e nb hx,fun b o e hx=>?_,
   fun b xs e=>by have q:=U.tups b xs e;rw[ax (nD b _ q)];exact q,fun b o u e=>by have q:=U.frzs b o u e;rw[ax (nD b _ q)];exact q,fun b ps e=>?_⟩
  ·obtain⟨sl,q⟩:=U.slot b o e nb hb hx;exact⟨sl,up b _ (ltC b o e) q⟩
  ·obtain⟨o',q⟩:=U.there b o e hx;exact⟨o',up b _ (ltC b o e) q⟩
  ·obtain⟨more,q⟩:=U.tbls b ps e;exact⟨more,by rw[ax (nD b _ q)];exact q⟩
 exact⟨I2.call' (s':={ s' with heap:=h' }) (ch:=fp) I'.os un hok I'.bare fun b hb=>⟨(f2 b hb).2.2.2.1,(f2 b hb).2.1,(f2 b hb).2.2.2.2.1,(f2 b hb).2.2.2.2.2⟩,hD⟩
theorem BC(S:cp X scope cl ms aj) (bA:X.calm=true) {wi:TI}(hi:PI X tg iter wi)
  (hg:∀C s H ex,PG (cxC X scope cl (X.N++aj) C s H ex) tg g) (hif:∀C s H ex,PIf (cxC X scope cl (X.N++aj) C s H ex) ifs tc) (he:∀C s H ex,PE (cxC X scope cl (X.N++aj) C s H ex) elt te)
  (hs:∀x,O3 iter X.env x=V9 x:=by intro _;rfl):PE X (.ListComp elt [⟨tg,iter,ifs,0⟩] scope pos) (tLc ms aj.length wi g tc te):=by
 intro ag s σ H Q I h;rw[eval_ListComp];refine S6 (use:=none) rfl hs S.clos S.kind S.names (thn (hi ag s σ H _ I h) fun v s1 h1=>thn h1 fun itv s2 h2=>?_);obtain⟨it,fp,tn,J,H2,e,I2,T,st2,f2,W,Z,⟨m0,w0⟩,turn,q⟩:=h2;subst e;refine rW S bA hg hif he I2 T st2 f2 w0 turn (RR:=fun acc C=>compPost (K6 X.prog X.w) X.A X.xe none (EP X ag σ Q) acc C) ?_;intro s' ys its n σ' H' I' rv hz hZ;obtain⟨m,hm,_⟩:=I'.loc;refine⟨m,hm,fun h' hs'=>?_⟩;obtain⟨I3,hD⟩:=rZ I2 f2 I' rv hz hs';exact⟨.ref s2.heap.objs.size,_,I3,rfl,q ys _ H' _ hZ hD⟩
end
section
variable{X:Cx}{tg iter elt:J5}{pos:Pos}{scope:R0}{cl:List (Str×F9)}{ms:List Bool}{aj:List Str}{ifs:List J5}
def DG(X:Cx) (scope:R0) (cl:List (Str×F9)) (aj:List Str) (tg:J5) (g:GD):Prop:=∃gv:TG,(∀C s H ex,PG (cxC X scope cl (X.N++aj) C s H ex) tg gv)/\∀(d:D) (v:V) (σ:St) (Δ Δ':DE) (M:DH) (H:Hp) (Q:St->Hp->Prop),SR X.K M H σ Δ->HR X.K M H->Rep X.K M H d v->g d Δ=some Δ'->(∀ σ',SR X.K M H σ' Δ'->Q σ' H)->gv v σ H Q
theorem w6{i:Nat}{x:Str}{pos:Pos}(hN:(X.N++aj).Nodup) (hi:(X.N++aj)[i]?=some x) (hx:(Z6 scope X.env).names.lookup x=some .cell) (hf:(scope.names.lookup x==some .cell)=true):DG X scope cl aj (.Name x pos) (bL i) :=
 ⟨lS i,fun C s H ex=>j8 hN hi (.inr hx) (.inl hf),fun d v σ Δ Δ' M H Q sr hr rv e k=>by cases e;exact k _ (sr.set i rv)⟩
def ku(scope fs:R0):R0:={ scope with names:=scope.names.map fun(n,k)=>if(k==.free&&fs.kind==.function&&fs.names.lookup n==some .cell)then(n,.cell)else(n,k) }
theorem uk{env:Env}:Z6 scope env=ku scope env.scope:=rfl
noncomputable def gk(fs:R0) (N:List Str) (scope:R0) (ms:List Bool):Bool :=
 scope.kind==.function&&scope.names.all (fun y=>y.2 != .cell || scope.names.lookup y.1==some .cell)&&scope.names.all (fun y=>y.2 != .local || scope.names.lookup y.1==some .local) &&
 scope.names.all (fun y=>y.2 != .free || fs.names.lookup y.1==some .cell)&&(ms.zip N).all (fun y=>!y.1 || scope.names.lookup y.2==some .free)&&decide (ms.length<=N.length)&&scope.names.all (fun y=>y.2 != .free || scope.names.lookup y.1==some .free)
theorem vo{cells:List (Str×F9)}{names:List (Str×J9)}{x:Str}{c:F9}(h:(bH names cells).lookup x=some c):(x,K7)∈names:=by
 have hm:=K3 h;unfold bH at hm;rw[List.mem_reverse,P4]at hm;obtain⟨y,hy,e⟩:=hm
 split at e
 ·rename_i hk;cases q:cells.lookup y.1 with
  |none=>rw[q]at e;cases e
  |some c' =>
   rw[q]at e;have e1:y.1=x:=(Prod.mk.inj (J4 e)).1;have e2:y.2=.free:=by simpa using hk
   obtain⟨a,b⟩:=y;simp only at e1 e2;subst e1;subst e2;exact hy
 ·cases e
theorem qz(cs:∀x,(x,K7)∈scope.names->(X.env.cells.lookup x).isSome=true) (c:gk X.env.scope X.N scope ms=true):cp X scope (bH scope.names X.env.cells) ms aj:=by
 unfold gk at c;simp only[K1,X1,decide_eq_true_eq]at c;obtain⟨⟨⟨⟨⟨⟨c1,c2⟩,c3⟩,c4⟩,c5⟩,c6⟩,c7⟩:=c;have fr:∀x,(x,K7)∈scope.names->X.env.scope.names.lookup x=some .cell:=fun x hx=>by
  have:=c4 _ hx;simpa using this
 refine⟨by simpa using c1,fun y hy e=>?_,fun y hy e=>?_,oE fun y hy e=>?_,fun x c h=>lZ h,fun x c h=>?_,fun x h=>kh h (cs x (K3 h)),fun x h=>.inl (fr x (K3 h)),fun i x h1 h2=>?_,c6⟩
 ·have:=c3 y hy;simpa[e]using this
 ·have:=c2 y hy;simpa[e]using this
 ·obtain⟨a,b⟩:=y;cases e;exact cs a hy
 ·have:=c7 _ (vo h);simpa using this
 ·have:=c5 (true,x) (by
   rw[List.mem_iff_getElem?];exact⟨i,by rw[List.getElem?_zip_eq_some];exact⟨h1,h2⟩⟩)
  simpa using this
theorem qA{n0:Nat}(hX:X.env.cells=P0 n0 X.env.scope.names []) (c:gk X.env.scope X.N scope ms=true):cp X scope (bH scope.names X.env.cells) ms aj:=by
 refine qz (fun x hx=>?_) c;unfold gk at c;simp only[K1,X1]at c;have:=c.1.1.1.2 _ hx;rw[hX];exact O1 _ _ _ (.inl (by simpa using this))
theorem ud{C:F9}{s:F0}{H:Hp}{ex:List F9}{N:List Str}(S:cp X scope cl ms aj) {x:Str}(h:(Z6 scope X.env).names.lookup x=some .cell):((cxC X scope cl N C s H ex).env.cells.lookup x).isSome=true:=by
 have e:(Z6 scope X.env).names.lookup x=_:=dW (env:=X.env) (x:=x) (names:=scope.names);rw[e]at h;refine O1 _ _ _ ?_;cases q:scope.names.lookup x with
 |none=>rw[q]at h;simp at h
 |some k =>
  rw[q]at h;cases k with
  |cell=>exact .inl rfl
  |free=>obtain⟨c,hc⟩:=S.has x q;exact .inr (by rw[hc];rfl)
  |_=>simp at h
theorem uu{C:F9}{s:F0}{H:Hp}{ex:List F9}{N:List Str}{scope2:R0}{ms2:List Bool}{extra2:List Str}(S:cp X scope cl ms aj) (c:aQ (ku scope X.env.scope) N scope2 ms2=true) :
  cQ (cxC X scope cl N C s H ex) scope2 (bH scope2.names (cxC X scope cl N C s H ex).env.cells) ms2 extra2:=by
 unfold aQ at c;simp only[K1,X1,decide_eq_true_eq]at c;obtain⟨⟨⟨⟨⟨c1,c2⟩,c3⟩,c4⟩,c5⟩,c6⟩:=c;have fr:∀x,(x,K7)∈scope2.names->(Z6 scope X.env).names.lookup x=some .cell:=fun x hx=>by
  have:=c4 _ hx;rw[uk];simpa using this
 have cs:∀x,(x,K7)∈scope2.names->((cxC X scope cl N C s H ex).env.cells.lookup x).isSome=true:=fun x hx=>ud S (fr x hx);refine⟨by simpa using c1,fun y hy e=>?_,fun y hy e=>?_,oE fun y hy e=>?_,fun x c h=>lZ h,fun x h=>kh h (cs x (K3 h)),fun x h=>.inl (fr x (K3 h)),fun i x h1 h2=>?_,c6⟩
 ·have:=c2 y hy;rw[e]at this;simp at this
 ·have:=c3 y hy;simpa[e]using this
 ·obtain⟨a,b⟩:=y;cases e;exact cs a hy
 ·have:=c5 (true,x) (by
   rw[List.mem_iff_getElem?];exact⟨i,by rw[List.getElem?_zip_eq_some];exact⟨h1,h2⟩⟩)
  simpa using this
end
section
variable{X:Cx}{tg l:J5}{tl:TE}{te:TEd}
theorem rG{K:o0}{M:DH}{H:Hp}{k:Key}:Rep K M H (kD k) (kV k):=by cases k<;>simp[kD,kV,Rep]
end
theorem fO{prog:L4}{w:P7}{A:N5}{R:ae0->F0->Prop}{s:F0}{kx vx target iter:J5}{scope:R0}{pos:Pos}{it:u8}{D:F9}{env:Env}(I:Nat->F0->Prop)
  (turn:∀ n s,I n s → J3 (K6 prog w) A (ad5 it) (fun r s₁ => match r with
   |none=>R (.ok .next) s₁
   | some v => J3 (K6 prog w) A (T9 target it v) (fun _ s₁ => J3 (K6 prog w) A (U6 target env v) (fun _ s₂ =>
     J3 (K6 prog w) A (V1 kx env) (fun kv s₄=>J3 (K6 prog w) A (V1 vx env) (fun vv s₅ =>
       J3 (K6 prog w) A (dictSet D kv vv) (fun _ s₆=>∃m,m<n/\I m s₆) (fun _ _=>False) s₅) (fun _ _=>False) s₄) (fun _ _=>False) s₂) (fun _ _=>False) s₁) (fun _ _=>False) s₁) (fun _ _=>False) s)
  (n:Nat) (h:I n s) :
  Z9 (K6 prog w) A (.compLoop (.DictComp kx vx [⟨target,iter,[],0⟩] scope pos) 0 it (.ref D) env) R s:=by
 refine codeAny_loop rfl I (fun n s hI=>?_) n h;show J3 _ A ((compTurn (.DictComp kx vx [⟨target,iter,[],0⟩] scope pos) 0 it (.ref D) env).onRaise (fun x=>do noteFrame x env;theTreesLotGoes x)) _ _ s;refine wpAny_noted ?_;rw[compTurn_dict];refine s0 (V3 (s0 (M0 (turn n s hI) (fun r s₁ h₁=>?_) fun _ _ h'=>h'.elim)));cases r with
 |none=>exact F4 h₁
 |some v =>
  refine s0 (M0 h₁ (fun _ s1 h₁=>?_) fun _ _ h'=>h'.elim);refine s0 (M0 h₁ (fun _ s₂ h₂=>s0 (wpAny_tests_nil ?_)) fun _ _ h'=>h'.elim);exact s0 (s0 (M0 h₂ (fun kv s₄ h₄=>s0 (S7 (M0 h₄ (fun vv s₅ h₅=>s0 (V3 (S7 (M0 h₅ (fun _ s₆ h₆=>F4 ⟨rfl,h₆⟩) fun _ _ h'=>h'.elim)))) fun _ _ h'=>h'.elim))) fun _ _ h'=>h'.elim))
section
variable{X:Cx}{ag:List (F9×Obj)}{σ σ':St}{H2 H':Hp}{s2 s':F0}{scope:R0}{cl:List (Str×F9)}{ms:List Bool}{aj:List Str}{tg iter kx vx:J5}{g:TG}{tk tv:TE}{pos:Pos}
def oW(D:F9) (J:It) (g:TG) (tk tv:TE) (W:Nat->Nat->St->Hp->Prop) (Z:Hp->Prop):Prop :=
 ∀i m σ H,W i m σ H->(J.stop i H/\Z H) ∨
  (J.go i H/\∀x H',J.yld i H x H'->g x σ H' fun σ2 H2=>tk σ2 H2 fun y H3=>tv σ2 H3 fun v H4=>∃H5,(∃kvs k b,H4 D=some (.dT kvs)/\y=.ref b/\H4 b=some (.tup (k.map kV))/\kvs.length<F2/\H5=upd H4 D (.dT (eY kvs k v)))/\∃m',m'<m/\W (i+1) m' σ2 H5)
theorem u7{E:u8->F0->Prop}{X:Cx}{A:N5}{ag:List (F9×Obj)}{σ:St}{H:Hp}{s:F0}{D b:F9}{kvs:List (List Key×V)}{k:List Key}{v:V}{r:u8}{Q:Unit->F0->Prop}(hu:A.units<aa9) (I:Inv X ag σ H s) (e:H D=some (.dT kvs)) (eb:H b=some (.tup (k.map kV))) (l:kvs.length<F2)
  (rv:aE v r) (h:∀s',Inv X ag σ (upd H D (.dT (eY kvs k v))) s'->Q () s'):J3 (K6 X.prog X.w) A (dictSet D (.ref b) r) Q E s:=by
 obtain⟨z,hd,xs,rel,dd⟩:=Ae I.hok e;have hz:xs.length<=F2:=by rw[<-X3 rel];exact z
 have hl:(eY kvs k v).length<=F2:=by have:=fY kvs k v;lia
 refine wpAny_dictSet_heap (hsz:=hz) hu (kL I.hok eb) dd fun h' dd' hs=>h _ ?_;obtain⟨q,es,ep,hq,h2,h3,h4,_,h5⟩:=dd';refine kR I (by rw[e];exact ab9) hs ⟨q,hq⟩ ⟨hl,hd,_,(rel.put k eb rv).keeps fun c ys ec=>?_,q,es,ep,hq,h2,h3,h4,h5⟩;rw[ax (zQ ec e (fun z=>nomatch z))];exact ec
theorem rn(hu:X.A.units<aa9) (S:cQ X scope cl ms aj) (bA:X.calm=true)
  (hg:∀C s H ex,PG (aB X scope cl (X.N++aj) C s H ex) tg g) (hk:∀C s H ex,PE (aB X scope cl (X.N++aj) C s H ex) kx tk) (hv:∀C s H ex,PE (aB X scope cl (X.N++aj) C s H ex) vx tv)
  (I2:Inv X ag σ H2 s2) {it:F9} {fp:List F9} {tn:Nat->K5->Prop} {J:It} (T:iP X.prog X.w X.K tg J fp it tn) (st2:tn 0 s2.heap) (f2:∀b∈fp,cz X ag H2 b)
  {D:F9} {W:Nat->Nat->St->Hp->Prop} {Z:Hp->Prop} {m0:Nat} (w0:W 0 m0 (cZ ms aj.length σ) H2) (turn:oW D J g tk tv W Z)
  {RR:F9->ae0->F0->Prop} {E:u8->F0->Prop}
  (hRR:∀(s':F0) (σ':St) (H':Hp),Inv (aB X scope cl (X.N++aj) s2.heap.objs.size s2 H2 fp) [] σ' H' s'->Z H'->RR s2.heap.objs.size (.ok .next) s') :
  J3 (K6 X.prog X.w) X.A (W6 scope X.env.globals cl [] X.env.qual none .none (some X.env)) (fun cenv s₄ =>
   Z9 (K6 X.prog X.w) X.A (.compStart (.DictComp kx vx [⟨tg,iter,[],0⟩] scope pos) 0 (.ref it) (.ref D) { cenv with scope:=Z6 scope X.env }) (RR cenv.locals) s₄) E s2:=by
 refine wpAny_newFunctionEnv S.ncell (by intro y hy;simp at hy) (fun h₁ hns₁ hsb₁=>?_) S.kind
 try dsimp only at hns₁ hsb₁ ⊢
 have hlt:∀b∈fp,b<s2.heap.objs.size:=fun b hb=>by
  obtain⟨o,e,_⟩:=T.obj _ _ st2 b hb;exact F5 e
 have old:∀b o,s2.heap.get? b=some o->h₁.get? b=some o:=fun b o e=>hsb₁.extBut b o (I0 (F5 e)) (F1 _ e);have loop:∀s₃:F0,s₃={ s2 with heap:=h₁,toks:=s2.toks+([]:List (Str×u8)).length } ->
   Z9 (K6 X.prog X.w) X.A (.compLoop (.DictComp kx vx [⟨tg,iter,[],0⟩] scope pos) 0 (.ref it) (.ref D) (ad7 scope cl s2.heap.objs.size X.env)) (RR s2.heap.objs.size) s₃:=by
  rintro s₃ rfl;have I3:Inv (aB X scope cl (X.N++aj) s2.heap.objs.size s2 H2 fp) [] (cZ ms aj.length σ) H2 { s2 with heap:=h₁,toks:=s2.toks+([]:List (Str×u8)).length } :=
   sP I2 S f2 hlt (F7 _) rfl I2.bare old hns₁
  have fpc:∀{H:Hp},(∀b∈fp,H b=none)->∀b∈fp,cz (aB X scope cl (X.N++aj) s2.heap.objs.size s2 H2 fp) [] H b:=fun hn b hb =>
   ⟨hn b hb,I0 (hlt b hb),(rO I2 S f2 hlt (F7 _)).exfs b hb,.inl hb,fun x c e=>(f2 b hb).2.2.2.2.1 x c (S.sub x c e),fun p hp=>absurd (show p∈([]:List (F9×Obj))from hp) (by simp)⟩
  refine fO (env:=ad7 scope cl s2.heap.objs.size X.env)
   (fun n s'=>∃i σ' H',Inv (aB X scope cl (X.N++aj) s2.heap.objs.size s2 H2 fp) [] σ' H' s'/\tn i s'.heap/\(∀b∈fp,H' b=none)/\W i n σ' H') ?_ m0
   ⟨0,_,H2,I3,T.keep _ _ _ st2 fun b _ o e=>old b o e,fun b hb=>(f2 b hb).1,w0⟩
  rintro n s' ⟨i,σ',H',I4,st4,fr4,w4⟩;rcases turn i n σ' H' w4 with⟨stop,hZ⟩|⟨go,step⟩
  ·refine thn (T.done (aB X scope cl (X.N++aj) s2.heap.objs.size s2 H2 fp) rfl rfl rfl bA i _ s' _ H' (fun _ _=>False) I4 (fpc fr4) st4 stop) fun r s4 ⟨hr,I5⟩=>?_;subst hr;exact hRR s4 σ' H' I5 hZ
  ·refine thn (T.item (aB X scope cl (X.N++aj) s2.heap.objs.size s2 H2 fp) rfl rfl rfl bA i _ s' _ H' (fun _ _=>False) I4 (fpc fr4) st4 go) fun r s5 ⟨u,hr,h5⟩=>?_;subst hr;refine thn h5 fun _ s6 ⟨x,H6,I6,r6,y6,st6,fr6⟩=>?_;have I6':=I6.pinned (fpc fr6) (T.obj _ _ st6);refine thn (hg _ _ _ _ _ s6 _ H6 x u _ I6' r6 (step x H6 y6)) fun _ s7 ⟨σ7,H7,I7,q7⟩=>?_;refine thn (hk _ _ _ _ _ s7 σ7 H7 _ I7 q7) fun kv s8 hup=>hup.el fun y H8 I8 r8 q8=>?_;refine thn (hv _ _ _ _ _ s8 σ7 H8 _ I8 q8) fun vv s9 hup=>hup.el fun v H9 I9 r9 q9=>?_;obtain⟨H10,⟨kvs,k,b,eD,ey,eb,hl,eH⟩,m',hm,w9⟩:=q9;subst ey;cases(show kv=Q0 b from r8);refine u7 (A:=X.A) (X:=aB X scope cl (X.N++aj) s2.heap.objs.size s2 H2 fp) hu I9 eD eb hl r9 fun s10 I10=>?_;rw[<-eH]at I10;have keepfp:tn (i+1) s10.heap/\∀b∈fp,H10 b=none :=
    ⟨T.keep _ _ _ st6 fun b hb o e=>(I10.pin (b,o) (H0 _ (H0 _ (cS hb e)))).1,fun b hb=>by
     obtain⟨o,e,d⟩:=T.obj _ _ st6 b hb;exact(I10.pin (b,o) (H0 _ (H0 _ (cS hb e)))).2.1⟩
   exact⟨m',hm,i+1,σ7,H10,I10.unpinned,keepfp.1,keepfp.2,w9⟩
 exact codeAny_compStart_dict (loop _ rfl) (T.self _ 0 _ _ _ (T.keep _ _ _ st2 fun b _ o e=>old b o e) (loop _ rfl))
theorem qB(I2:Inv X ag σ H2 s2) {fp:List F9}(f2:∀b∈fp,cz X ag H2 b)
  (I':Inv (aB X scope cl (X.N++aj) s2.heap.objs.size s2 H2 fp) [] σ' H' s') {h':K5} (hs:O0 s2.heap.objs.size s'.heap h') :
  Inv X ag σ H' { s' with heap:=h' }:=by
 have hC:H' s2.heap.objs.size=none:=I'.free;have up:∀b o,b≠s2.heap.objs.size->s'.heap.get? b=some o->h'.get? b=some o:=fun b o hb e=>(hs.2 b hb).trans e;have nC:∀b u,H' b=some u->b≠s2.heap.objs.size:=fun b u e z=>by rw[z,hC]at e;cases e
 have hok:HOk X.prog X.w H' h':=fun b u e=>(I'.hok b u e).stay (fun c v hc q=>up c v (by
   rcases hc with rfl|hc
   ·exact nC _ _ e
   ·exact nC _ _ hc) q) (fun c q=>q) fun c xs q=>q
 have un:Un (frs X.stack) fp H2 H' s2.heap h':=by
  have U:=I'.base;have ltC:∀b o,s2.heap.get? b=some o->b≠s2.heap.objs.size:=fun b o e=>I0 (F5 e);refine⟨fun b o e nb hb hx=>up b o (ltC b o e) (U.keep b o e nb hb hx),fun b o e nb hb hx=>?_,U.free,fun b o e hx=>?_,U.tups,U.frzs,U.tbls⟩
  ·obtain⟨sl,q⟩:=U.slot b o e nb hb hx;exact⟨sl,up b _ (ltC b o e) q⟩
  ·obtain⟨o',q⟩:=U.there b o e hx;exact⟨o',up b _ (ltC b o e) q⟩
 exact I2.call' (s':={ s' with heap:=h' }) (ch:=fp) I'.os un hok I'.bare fun b hb=>⟨(f2 b hb).2.2.2.1,(f2 b hb).2.1,(f2 b hb).2.2.2.2.1,(f2 b hb).2.2.2.2.2⟩
def tDc(ms:List Bool) (k:Nat) (wi:TI) (g:TG) (tk tv:TE):TE:=fun σ H Q=>wi σ H fun J H1=>∀p,H1 p=none->∃(W:Nat->Nat->St->Hp->Prop) (Z:Hp->Prop),(∃m,W 0 m (cZ ms k σ) (upd H1 p (.dT [])))/\oW p J g tk tv W Z/\∀H,Z H->Q (.ref p) H
theorem vi{i:Nat}{x:Str}{spos pos':Pos}(hu:X.A.units<aa9) (hN:X.N.Nodup) (hix:X.N[i]?=some x) (hx:X.env.scope.names.lookup x=some .local)
  (hsw:W9 (.DictComp kx vx [⟨tg,iter,[],0⟩] scope pos) (some (.Name x pos')) spos.line X.env=V9 true)
  (S:cQ X scope cl ms aj) (bA:X.calm=true) {wi:TI} (hi:PI X tg iter wi)
  (hg:∀C s H ex,PG (aB X scope cl (X.N++aj) C s H ex) tg g) (hk:∀C s H ex,PE (aB X scope cl (X.N++aj) C s H ex) kx tk) (hv:∀C s H ex,PE (aB X scope cl (X.N++aj) C s H ex) vx tv)
  (hs:∀x,O3 iter X.env x=V9 x:=by intro _;rfl):PS X (.Assign [.Name x pos'] (.DictComp kx vx [⟨tg,iter,[],0⟩] scope pos) spos) (zF (tDc ms aj.length wi g tk tv) (lS i)):=by
 intro ag s σ H D I h;rw[exec_Assign_Name_used _ _ _ _ hsw];refine s0 (V3 (s0 ?_));show J3 _ _ (do let _ <-comprehension (.DictComp kx vx [⟨tg,iter,[],0⟩] scope pos) scope X.env _ newDict false (V1 iter X.env) (some (U6 (.Name x pos') X.env))) _ _ s;refine s0 (M0 (S6 (use:=some (U6 (.Name x pos') X.env)) (Q:=fun _ s'=>SP X ag D .next s') rfl hs S.clos S.kind S.names
  (thn (hi ag s σ H _ I h) fun v s1 h1=>thn h1 fun itv s2 h2=>?_)) (fun _ s' hq=>F4 (F4 hq)) fun _ _ e=>e)
 obtain⟨it,fp,tn,J,H2,e,I2,T,st2,f2,q⟩:=h2;subst e;have hp:=I2.hok.fresh (F7 s2.heap.objs.size);obtain⟨W,Z,⟨m0,w0⟩,turn,q⟩:=q _ hp;refine K0 ?_;have I3:=I2.laid (a:=s2.heap.objs.size) (o:=.dT []) (h':=s2.heap.push { cls:=.type "dict",data:=.dict #[] }) (t':=s2.toks) (fun _ _ q=>F1 _ q) (F7 _) (vn s2.heap I2.big);have f3:∀b∈fp,cz X ag (upd H2 s2.heap.objs.size (.dT [])) b:=fun b hb=>by
  obtain⟨o,e,_⟩:=T.obj _ _ st2 b hb;have hne:b≠s2.heap.objs.size:=I0 (F5 e);obtain⟨a1,a2⟩:=f2 b hb;exact⟨by rw[ax hne];exact a1,a2⟩
 refine rn (s2:={ s2 with heap:=s2.heap.push { cls:=.type "dict",data:=.dict #[] } }) hu S bA hg hk hv I3 T (T.keep _ _ _ st2 fun b _ o e=>F1 _ e) f3 w0 turn
  (RR:=fun C=>compPost (K6 X.prog X.w) X.A X.xe (some (U6 (.Name x pos') X.env)) (fun _ s'=>SP X ag D .next s') (.ref s2.heap.objs.size) C) ?_
 intro s' σ' H' I' hZ;obtain⟨m,hm,_⟩:=I'.loc;have I4:=qB I3 f3 I' (O0.refl _ s'.heap);have hq:=q H' hZ;show J3 _ _ (U6 (.Name x pos') X.env (.ref s2.heap.objs.size)) _ _ _;refine wpAny_assign_Name (i8 I4 hN hix (.inl hx) (v:=.ref s2.heap.objs.size) rfl (fun s4 I5 hsame=>?_) (.inr hx));obtain⟨a,hsb,ha⟩:=hsame;have hsz:(s2.heap.push { cls:=.type "dict",data:=.dict #[] }).objs.size=s2.heap.objs.size+1:=R6 ..;have hLC:(s2.heap.push { cls:=.type "dict",data:=.dict #[] }).objs.size≠X.env.locals:=by rw[hsz];exact T8 (K4 I2.lt)
 have haC:(s2.heap.push { cls:=.type "dict",data:=.dict #[] }).objs.size≠a:=by
  rcases ha with rfl|ha
  ·exact hLC
  ·intro z;obtain⟨v,o,ho,_⟩:=I2.cell x a ha;rw[hsz]at z;exact absurd (K4 (F5 ho)) (by rw[<-z];exact O2 _)
 refine⟨m,hm.sameBut hsb haC,fun h' hs'=>?_⟩;refine⟨_,_,?_,hq⟩;exact Inv.turned (t':=s4.toks) (h':=h') (it:=(s2.heap.push { cls:=.type "dict",data:=.dict #[] }).objs.size) I5 (fun b o hb e=>(hs'.2 b hb).trans e) I'.free hLC (.inr (by rw[hsz];exact Nat.le_succ_of_le I2.sz)) (fun y c e=>by
  obtain⟨v,o,ho,_⟩:=I2.cell y c e;rw[hsz];exact I0 (K4 (F5 ho))) (fun p hp=>by
  rw[hsz];exact I0 (K4 (F5 (I2.pin p hp).1)))
end
section
variable{X:Cx}{tg iter vx:J5}{es:List J5}{pos:Pos}{scope:R0}{cl:List (Str×F9)}{ms:List Bool}{aj:List Str}
def kJ(g:GD) (ta:TAd) (tv:TEd) (p:F9):List D->DE->DH->(DH->Prop)->Prop
 |[],_,M,Q=>Q M
 |d::ds,Δ,M,Q=>∃ Δ',g d Δ=some Δ'/\ta Δ' M fun kds M1=>kds.length<=F2/\tv Δ' M1 fun v M2=>∃kvs ks,M2 p=some (.dT kvs)/\kds=ks.map kD/\kvs.length<F2/\kJ g ta tv p ds Δ' (av M2 p (.dT (j3 kvs ks v))) Q
def dDc(ms:List Bool) (k:Nat) (wi:TId) (g:GD) (ta:TAd) (tv:TEd):TEd:=fun Δ M Q=>wi Δ M fun ds M1=>∀p,M1 p=none->kJ g ta tv p ds (mJ ms k Δ) (av M1 p (.dT [])) fun M2=>Q (.ref p) M2
theorem yr{K:o0}{wi:TId}{g:GD}{ta:TAd}{tv:TEd}{gv:TG}{ms:List Bool}{kk:Nat}
  (kg:∀(d:D) (v:V) (σ:St) (Δ Δ':DE) (M:DH) (H:Hp) (Q:St->Hp->Prop),SR K M H σ Δ->HR K M H->Rep K M H d v->g d Δ=some Δ'->(∀ σ',SR K M H σ' Δ'->Q σ' H)->gv v σ H Q) :
  ∀ σ H Q,up K (dDc ms kk wi g ta tv) σ H Q->tDc ms kk (upI K wi) gv (B2 (upA K ta)) (up K tv) σ H Q:=by
 rintro σ H Q ⟨Δ,M,R,sr,hr,q,k⟩;refine⟨Δ,M,_,sr,hr,q,fun ds M1 J H1 q1 e1 hr1 it=>fun p hp=>?_⟩;have e0:Ext M1 H1 (av M1 p (.dT [])) (upd H1 p (.dT [])):=Ext.own hp;refine⟨fun i m σ' H'=>∃ Δ' M',m=ds.length-i/\i<=ds.length/\Ext M1 H1 M' H'/\HR K M' H'/\SR K M' H' σ' Δ'/\kJ g ta tv p (ds.drop i) Δ' M' fun M2=>R (.ref p) M2,
  fun H'=>∃M',Ext M1 H1 M' H'/\HR K M' H'/\R (.ref p) M',⟨ds.length,_,_,by simp,R5 _,e0,hr1.put e0 ⟨[],aF,.nil⟩,((sr.ext e1).ext e0).comp ms kk,q1 p (hr1.fresh hp)⟩,?_,?_⟩
 ·rintro i m σ2 H2 ⟨Δ2,M2,rfl,hi2,e2,hr2,sr2,f2⟩;obtain⟨go,stop⟩:=it M2 H2 e2 hr2 i
  by_cases hlt:i<ds.length
  ·have hd:ds[i]?=some ds[i]:=by simp[hlt]
   obtain⟨g1,y1⟩:=go _ hd;rw[List.drop_eq_getElem_cons hlt]at f2;simp only[kJ]at f2;obtain⟨Δ3,eg,f3⟩:=f2;refine .inr ⟨g1,fun x H' hy=>?_⟩;obtain⟨e3,hr3,rx⟩:=y1 x H' hy;refine kg _ x σ2 Δ2 Δ3 M2 H' _ (sr2.ext e3) hr3 rx eg fun σ3 sr3=>?_;refine⟨Δ3,M2,_,sr3,hr3,f3,fun kds M4 kvs' H4 ⟨hz,q4⟩ e4 hr4 rk=>⟨by rw[<-rk.length];exact hz,fun b hb=>?_⟩⟩;have e5:Ext M4 H4 M4 (upd H4 b (.tup kvs')):=Ext.new hr4 hb;refine⟨Δ3,M4,_,(sr3.ext e4).ext e5,hr4.new hb,q4,fun v M6 v6 H6 ⟨kvs,ks,em,ek,hl,q6⟩ e6 hr6 rv6=>?_⟩;subst ek;obtain⟨vs,h6,kr⟩:=hr6 p _ em;have eb:=(e6 b _ aF (hr4.fresh hb)).1;rw[iu rk]at eb;have ew:Ext M6 H6 (av M6 p (.dT (j3 kvs ks v))) (upd H6 p (.dT (eY vs ks v6))):=Ext.write em;exact⟨_,⟨vs,ks,b,h6,rfl,eb,by rw[<-kr.length];exact hl,rfl⟩,ds.length-(i+1),by omega,Δ3,_,rfl,hlt,((((e2.trans e3).trans e4).trans e5).trans e6).trans ew,hr6.put ew ⟨_,aF,(kr.put ks rv6).ext ew⟩,(((sr3.ext e4).ext e5).ext e6).ext ew,q6⟩
  ·rw[List.drop_eq_nil_of_le (by omega)]at f2;exact .inl ⟨stop (by omega),M2,e2,hr2,f2⟩
 ·rintro H' ⟨M',e',hr',q'⟩;exact k _ M' _ _ q' (e1.trans e') hr' (by simp only[Rep])
end
end L2
namespace L2
open PySem PySem.W PyProof.Rows
section
variable{α β:Type}
variable{O:KeyOrd}{key:Nat->O.α}{n:Nat}
noncomputable def kp(O:KeyOrd) (key:Nat->O.α) (p:Array Nat) (i:Nat):O.α:=key (p.getD i 0)
end
end L2
namespace L2
open PySem PySem.W PySem.Calls PyProof.Rows
section
variable{prog:Program}{w:World}{A:Around}{E:Value->Shared->Prop}{O:KeyOrd}
def tN(x:Addr) (s t:Shared):Prop:=∀b o,b≠x->s.heap.get? b=some o->t.heap.get? b=some o
end
def pD(p:Int×Int):D:=.tup [.int p.1,.int p.2]
end L2
namespace L2
open PySem PySem.Spec PyProof.Rows
theorem sM{X:Cx}{o:Expr}{es:List Expr}{to:TEd}{t:TAd}{pos:Pos}{x1}{p:Pos}(hu:X.A.units+1<cLine) (ho:QEd X o to) (ht:QAd X es t) (hs:A7 (.Tuple es x1 p)):QEd X (.Subscript o (.Tuple es x1 p) pos) (Ar to t):=by
 simp only[QEd.eq,QAd.eq]at *
 exact PE.conv (yP hu ho (lL ht) hs) fun σ H Q hup=>hup.el fun Δ M R sr hr q k=>⟨Δ,M,_,sr,hr,q,fun x M1 v H1 q1 e1 hr1 rv=>⟨Δ,M1,_,sr.ext e1,hr1,q1,fun ds M2 us H2 ⟨a,kvs,ky,d,ex,em,ey,ez,ed,q2⟩ e2 hr2 ru=>by
   subst ex;subst ey;simp only[Rep]at rv;subst rv;refine⟨by rw[<-ru.length];exact ez,fun p hp=>?_⟩;obtain⟨ks,h2,kr⟩:=hr2 a _ em;obtain⟨w,hw,rw_⟩:=(kr.val ky).1 d ed;have hap:a≠p:=aX h2 hp;refine⟨a,w,rfl,?_,k d M2 w _ q2 ((e1.trans e2).trans (Ext.new hr2 hp)) (hr2.new hp) (rw_.ext (Ext.new hr2 hp))⟩;rw[<-hw];refine lD.t (by rw[ax hap];exact h2) ?_;rw[aF,iu ru]⟩⟩
theorem BU{X:Cx}{e:Expr}{o:Expr}{es:List Expr}{te:TEd}{to:TEd}{t:TAd}{pos:Pos}{x1}{p p2:Pos}(hu:X.A.units+1<cLine) (ho:QEd X o to) (ht:QAd X es t) (he:QEd X e te) (hs:swapsWith e (some (.Subscript o (.Tuple es x1 p2) p)) pos.line X.env=pure false:=by rfl):QSd X (.Assign [.Subscript o (.Tuple es x1 p2) p] e pos) (Aq to t te):=by
 simp only[QEd.eq,QAd.eq,QSd.eq]at *
 exact PS.conv (yg hu ho (lL ht) he hs) fun D σ H hup=>hup.el fun Δ M E sr hr q k=>⟨Δ,M,_,sr,hr,q,fun d M1 v H1 q1 e1 hr1 rv=>⟨Δ,M1,_,sr.ext e1,hr1,q1,fun x M2 u H2 q2 e2 hr2 ru=>⟨Δ,M2,_,(sr.ext e1).ext e2,hr2,q2,fun ds M3 ws H3 ⟨hl,a,kvs,ky,ex,em,ey,hz,q3⟩ e3 hr3 rw_=>by
   subst ex;subst ey;simp only[Rep]at ru;subst ru;refine⟨by rw[<-rw_.length];exact hl,fun p hp=>?_⟩;obtain⟨ks,h3,kr⟩:=hr3 a _ em;have hap:a≠p:=aX h3 hp;have e4:Ext M3 H3 M3 (upd H3 p (.tup ws)):=Ext.new hr3 hp;have hr4:=hr3.new (o:=.tup ws) hp;have ew:Ext M3 (upd H3 p (.tup ws)) (av M3 a (.dT (j3 kvs ky d))) (upd (upd H3 p (.tup ws)) a (.dT (eY ks ky v))):=Ext.write em;have h4:upd H3 p (.tup ws) a=some (.dT ks):=by rw[ax hap];exact h3
   refine⟨a,_,rfl,qE.t h4 (by rw[aF,iu rw_]) (by rw[<-kr.length];exact hz),?_⟩;exact k.nx Δ _ σ _ q3 ((((e1.trans e2).trans e3).trans e4).trans ew) (hr4.put ew ⟨_,aF,((kr.ext e4).put ky (((rv.ext e2).ext e3).ext e4)).ext ew⟩) (((((sr.ext e1).ext e2).ext e3).ext e4).ext ew)⟩⟩⟩
theorem zk{X:Cx}{e:Expr}{o:Expr}{es:List Expr}{te:TEd}{to:TEd}{t:TAd}{x1}{p cb bf:Pos}(hu:X.A.units+1<cLine) (ho:QEd X o to) (ht:QAd X es t) (he:QEd X e te) (m:M2 X o "get" cb (.Tuple es x1 p) e bf):QEd X (.Call (.Attribute o "get" cb) [.Tuple es x1 p,e] [] bf) (xJ to t te):=by
 simp only[QEd.eq,QAd.eq]at *
 exact PE.conv (vp hu ho (lL ht) he m) fun σ H Q hup=>hup.el fun Δ M R sr hr q k=>⟨Δ,M,_,sr,hr,q,fun x M1 v H1 ⟨a,kvs0,ex,em,q1⟩ e1 hr1 rv=>by
   subst ex;simp only[Rep]at rv;subst rv;obtain⟨ks0,h1,kr0⟩:=hr1 a _ em;refine⟨a,rfl,.inr ⟨ks0,.inl h1⟩,Δ,M1,_,sr.ext e1,hr1,q1,fun ds M2 us H2 ⟨hl,q2⟩ e2 hr2 ru=>⟨by rw[<-ru.length];exact hl,fun p hp=>?_⟩⟩;have e3:Ext M2 H2 M2 (upd H2 p (.tup us)):=Ext.new hr2 hp;refine⟨Δ,M2,_,((sr.ext e1).ext e2).ext e3,hr2.new hp,q2,fun z M3 w H3 ⟨kvs,ky,em3,ey,q3⟩ e4 hr4 rw_=>?_⟩;subst ey;obtain⟨ks,h3,kr⟩:=hr4 a _ em3;have eb:=(e4 p _ aF (hr2.fresh hp)).1;rw[iu ru]at eb;refine⟨gK ks ky,lD.t h3 eb,?_⟩;cases ed:df kvs ky with
   |some d =>
    obtain⟨w',hw,rw'⟩:=(kr.val ky).1 d ed;rw[hw];rw[ed]at q3;exact k _ M3 _ H3 q3 (((e1.trans e2).trans e3).trans e4) hr4 rw'
   |none =>
    have:=(kr.val ky).2;rw[ed]at this q3;have hn:gK ks ky=none:=by simpa using this
    rw[hn];exact k _ M3 _ H3 q3 (((e1.trans e2).trans e3).trans e4) hr4 rw_⟩
theorem C8{X:Cx}{o:Expr}{to:TEd}{cb bf:Pos}(ho:QEd X o to) (dU:attributeBase o "pop" X.env (eval o X.env)=eval o X.env:=by rfl) (dN:(cb.endLine==bf.line)=true:=by rfl):QEd X (.Call (.Attribute o "pop" cb) [] [] bf) (C1 to):=by
 simp only[QEd.eq]at *
 exact(Cu PySem.F.plainAttrs_list PySem.F.slot_list_pop PySem.F.type_list_pop (show MtR X "list.pop" C4 from Bg) ho dU dN).conv fun σ H Q hup=>hup.el fun Δ M R sr hr q k=>⟨Δ,M,_,sr,hr,q,fun o M1 ov H1 ⟨a,ds,d,eo,em,q1⟩ e1 hr1 ro=>by
   subst eo;simp only[Rep]at ro;subst ro;obtain⟨vs,hv,rl⟩:=hr1 a _ em;have hl:=rl.length;rw[List.length_append,List.length_cons,List.length_nil]at hl;obtain⟨v,gv,rv⟩:=rl.get (i:=ds.length) (d:=d) (by simp);have hl2:vs.length-1=ds.length:=by lia
   refine⟨.inl ⟨rfl,vs,SqL.of hv⟩,a,vs,v,rfl,rfl,hv,by rw[hl2];exact gv,?_⟩;have ew:Ext M1 H1 (av M1 a (.lst ds)) (upd H1 a (.lst vs.dropLast)):=Ext.write em;refine k _ _ _ _ q1 (e1.trans ew) (hr1.write em ?_) (rv.ext ew);have:=ar.take ds.length rl;rw[List.take_left]at this;rw[List.dropLast_eq_take,hl2];exact this⟩
theorem Aa{X:Cx}{e:Expr}{o:Expr}{te:TEd}{to:TEd}{cb bf:Pos}(ho:QEd X o to) (he:QEd X e te) (dU:attributeBase o "extend" X.env (eval o X.env)=eval o X.env:=by rfl)
  (hse:starEach [e] X.env=(false,eval e X.env)::starEach [] X.env:=by rfl)
  (oM:((backTo bf (starEach [e] X.env)).all (fun x => !x.1) && (backToKw bf (keywordEach [] X.env)).all (fun x => x.1.isSome)
  &&decide ([e].length+([]:List Keyword).length+(if([]:List Keyword).isEmpty then 0 else 1)<30))=true:=by rfl)
  (dN:(cb.endLine==bf.line)=true:=by rfl) (g7:(backTo bf (starEach [] X.env)).any (·.1)=false:=by rfl):QEd X (.Call (.Attribute o "extend" cb) [e] [] bf) (C0 to te):=by
 simp only[QEd.eq]at *
 exact(wb PySem.F.plainAttrs_list PySem.F.slot_list_extend PySem.F.type_list_extend (show MtR X "list.extend" sT from uL) ho (j5 he nN hse) dU oM dN hse g7).conv fun σ H Q hup=>hup.el fun Δ M R sr hr q k=>⟨Δ,M,_,sr,hr,q,fun o M1 ov H1 ⟨a,l,eo,em,q1⟩ e1 hr1 ro=>by
   subst eo;simp only[Rep]at ro;subst ro;obtain⟨vs,hv,rl⟩:=hr1 a _ em;refine⟨.inl ⟨rfl,vs,SqL.of hv⟩,Δ,M1,_,sr.ext e1,hr1,q1,fun d M2 v H2 ⟨ds,ys,ed,em2,hz,q2⟩ e2 hr2 rv=>?_⟩;subst ed;simp only[Rep]at rv;obtain⟨b,zs,rfl,hb,rz⟩:=rv;obtain⟨ws,hw,rl2⟩:=hr2 a _ em2;refine⟨a,b,ws,zs,rfl,rfl,hw,hb.1,by rw[<-rl2.length,<-rz.length];exact hz,k _ _ _ _ q2 ((e1.trans e2).trans (Ext.write em2)) (hr2.write em2 (rl2.append rz)) (by simp[Rep])⟩⟩
theorem tq{X:Cx}{a:Expr}{b:Expr}{c:Expr}{pos:Pos}{tg:Expr}{ta:TAd}{p:Pos}(hg:Gl X "range") (hm:X.mg "range"=none) (ha:QAd X [a,b,c] ta) (hs:starEach [a,b,c] X.env=[(false,eval a X.env),(false,eval b X.env),(false,eval c X.env)]:=by rfl)
  (hs2:starEach [b,c] X.env=[(false,eval b X.env),(false,eval c X.env)]:=by rfl):QId X tg (.Call (.Name "range" p) [a,b,c] [] pos) (xy ta):=by
 simp only[QAd.eq,QId.eq]at *
 exact(ue hg hm ha hs hs2).conv fun σ H R hup=>hup.el fun Δ M R' sr hr q k=>⟨Δ,M,_,sr,hr,q,fun ds M1 vs H1 ⟨i,j,st,ed,h1,h2,q1⟩ e1 hr1 rv=>by
   subst ed;obtain⟨v,w,z,ev,rv1,rv2,rv3⟩:=rv.three;have ev1:v=.int i:=by simpa only[Rep]using rv1
   have ev2:w=.int j:=by simpa only[Rep]using rv2
   have ev3:z=.int st:=by simpa only[Rep]using rv3
   subst ev1;subst ev2;subst ev3;subst ev;exact⟨i,j,st,rfl,by lia,⟨h2.1,h2.2.1,h2.2.2.1,h2.2.2.2,by lia,by lia⟩,uj h1 h2.1 h2.2.1 h2.2.2.1 h2.2.2.2,k _ M1 _ H1 q1 e1 hr1 zh⟩⟩
theorem CB{X:Cx}{tg:Expr}{iter:Expr}{elt:Expr}{pos:Pos}{scope:Scope}{cl:List (Str×Addr)}{ms:List Bool}{aj:List Str}{ifs:List Expr}{wi:TId}{g:GD}{tc:TTd}{te:TEd}(S:cp X scope cl ms aj) (bA:X.calm=true) (hi:QId X tg iter wi) (hg:DG X scope cl aj tg g)
  (hif:cp X scope cl ms aj->∀C s H ex,QIf (cxC X scope cl (X.N++aj) C s H ex) ifs tc) (he:cp X scope cl ms aj->∀C s H ex,QEd (cxC X scope cl (X.N++aj) C s H ex) elt te)
  (hs:∀x,foldedSetIterable iter X.env x=pure x:=by intro _;rfl):QEd X (.ListComp elt [⟨tg,iter,ifs,0⟩] scope pos) (dLc ms aj.length wi g tc te):=by
 simp only[QEd.eq,QId.eq,QIf.eq]at *
 obtain⟨gv,pg,kg⟩:=hg;exact(BC (tc:=upT X.K tc) (te:=up X.K te) S bA hi pg (hif S) (he S) hs).conv (oo kg)
theorem yU{X:Cx}{tg:Expr}{iter:Expr}{vx:Expr}{es:List Expr}{pos:Pos}{scope:Scope}{cl:List (Str×Addr)}{ms:List Bool}{aj:List Str}{i:Nat}{x:Str}{spos pos' p2:Pos}{x1}{wi:TId}{g:GD}{ta:TAd}{tv:TEd}(hu:X.A.units<cLine) (hN:X.N.Nodup) (hix:X.N[i]?=some x) (hx:X.env.scope.names.lookup x=some .local)
  (hsw:swapsWith (.DictComp (.Tuple es x1 p2) vx [⟨tg,iter,[],0⟩] scope pos) (some (.Name x pos')) spos.line X.env=pure true) (S:cQ X scope cl ms aj) (bA:X.calm=true) (hi:QId X tg iter wi) (hg:PGa X scope cl aj tg g)
  (hk:∀C s H ex,QAd (aB X scope cl (X.N++aj) C s H ex) es ta) (hv:∀C s H ex,QEd (aB X scope cl (X.N++aj) C s H ex) vx tv)
  (hs:∀x,foldedSetIterable iter X.env x=pure x:=by intro _;rfl):QSd X (.Assign [.Name x pos'] (.DictComp (.Tuple es x1 p2) vx [⟨tg,iter,[],0⟩] scope pos) spos) (v7 i (dDc ms aj.length wi g ta tv)):=by
 simp only[QEd.eq,QAd.eq,QSd.eq,QId.eq]at *
 obtain⟨gv,pg,kg⟩:=hg;refine(vi (tk:=B2 (upA X.K ta)) (tv:=up X.K tv) hu hN hix hx hsw S bA hi pg (fun C s H ex=>lL (hk C s H ex)) hv hs).conv fun D σ H hh=>?_;obtain⟨Δ,M,E,sr,hr,q,k⟩:=hh;exact yr kg σ H _ ⟨Δ,M,_,sr,hr,q,fun d M1 v H1 q1 e1 hr1 rv=>k.nx _ M1 _ H1 q1 e1 hr1 ((sr.ext e1).set i rv)⟩
theorem cw.units1{k:Nat}{A:Around}(r:cw k A):A.units+1<cLine:=by have:=r.un;lia
theorem C3{i:Int}{P:Key->Prop}:(∃k,D.int i=kD k/\P k)↔P (.inl i) :=
 ⟨fun⟨k,e,h⟩=>match k,e with|.inl _,rfl=>h,fun h=>⟨_,rfl,h⟩⟩
theorem Ej{x:Str}{P:Key->Prop}:(∃k,D.str x=kD k/\P k)↔P (.inr x) :=
 ⟨fun⟨k,e,h⟩=>match k,e with|.inr _,rfl=>h,fun h=>⟨_,rfl,h⟩⟩
theorem A0:∀{a b:Key},kD a=kD b->a=b
 |.inl _,.inl _,h=>by cases h;rfl
 |.inr _,.inr _,h=>by cases h;rfl
 |.inl _,.inr _,h=>by cases h
 |.inr _,.inl _,h=>by cases h
theorem tF:∀{a b:List Key},a.map kD=b.map kD->a=b
 |[],[],_=>rfl
 |[],_::_,h=>by cases h
 |_::_,[],h=>by cases h
 |x::xs,y::ys,h=>by
  simp only[List.map_cons,List.cons.injEq]at h;rw[A0 h.1,tF h.2]
theorem z5{a b:Key}{P:List Key->Prop}:(∃ks:List Key,[kD a,kD b]=ks.map kD/\P ks)↔P [a,b] :=
 ⟨fun⟨ks,e,h⟩=>by rw[tF (a:=[a,b]) (b:=ks) (by simpa using e)];exact h,fun h=>⟨_,rfl,h⟩⟩
theorem A3{i j:Int}{P:List Key->Prop}:(∃ks:List Key,[D.int i,D.int j]=ks.map kD/\P ks)↔P [.inl i,.inl j]:=z5 (a:=.inl i) (b:=.inl j)
theorem B5{i j:Str}{P:List Key->Prop}:(∃ks:List Key,[D.str i,D.str j]=ks.map kD/\P ks)↔P [.inr i,.inr j]:=z5 (a:=.inr i) (b:=.inr j)
theorem yD{i j:Int}:E9 [.int i,.int j]=some (.int (if j<i then j else i)):=rfl
section
variable{X:Cx}{a b:Expr}{ta tb:TEd}{pos:Pos}
def Ak(ta tb:TEd):TEd:=fun Δ M Q=>ta Δ M fun x M1=>tb Δ M1 fun y M2=>∃xs ys,rdM M2 x=.lst xs/\rdM M2 y=.lst ys/\xs.length+ys.length<=sizeLine/\∀p,M2 p=none->Q (.ref p) (av M2 p (.lst (xs++ys)))
theorem Ce(ha:QEd X a ta) (hb:QEd X b tb):QEd X (.BinOp a .Add b pos) (Ak ta tb):=by
 simp only[QEd.eq]at *
 exact(Ap wq ha hb).conv fun σ H Q hup=>hup.el fun Δ M R sr hr q k=>⟨Δ,M,_,sr,hr,q,fun x M1 v H1 q1 e1 hr1 rv=>⟨Δ,M1,_,sr.ext e1,hr1,q1,fun y M2 u H2 ⟨xs,ys,ex,ey,hz,q2⟩ e2 hr2 ru=>by
   have r1:=(rv.ext e2).rd hr2;have r2:=ru.rd hr2;rw[ex]at r1;rw[ey]at r2;obtain⟨l1,vs,rfl,h1,l1r⟩:=r1;obtain⟨l2,ws,rfl,h2,l2r⟩:=r2;exact⟨l1,l2,vs,ws,rfl,rfl,h1,h2,by rw[<-l1r.length,<-l2r.length];exact hz,fun p hp=>k _ _ _ _ (q2 p (hr2.fresh hp)) ((e1.trans e2).trans (Ext.own hp)) (hr2.own hp (l1r.append l2r)) (by simp only[Rep])⟩⟩⟩
end
@[irreducible] def zm(t:TSd):TSd:=t
theorem se{t:TSd}:zm t=t:=by unfold zm;rfl
theorem aG{t:TSd}{E:fF}{Δ:DE}{M:DH}(h:t E Δ M):zm t E Δ M:=by rw[se];exact h
theorem bt{X:Cx}{st:List Stmt}{t:TSd}(h:QSs X st t):QSs X st (zm t):=by rw[se];exact h
theorem xI{K:Params->PySem.W.Frag}{as:List Addr}{n t:Nat}{q:Program}{loose:List Str}{XP:(Str->Option Value)->Heap->Prop}{r:PySem.W.RowW}{d:DefRec}{kwd:List (Str×Expr)}{run:Value->List Value->Sem Value}(hk:∀P,as=(K P).map (·.1))
  (h:PySem.W.WalkO q loose XP (fun w h=>(K w.params).In h) r d kwd run):PySem.W.WalkX q loose XP (PySem.W.X.obsZ as) (PySem.W.X.valZ K n t) r d kwd run:=by
 intro w s₀ s₁ mg mb G y a o pm cd doc dV kV ho hd hcd hD hmg hg args vals as' L hpre hlay hrd hwl hlo;refine h w s₀ s₁ mg mb G (fun b u hu=>L.keeps b u ?_) a o pm cd doc dV kV ho hd hcd hD hmg hg args vals as' hpre hlay hrd hwl hlo;have y1:as.map s₀.heap.get?=(K w.params).map fun p=>some p.2:=congrArg (·.1) y;rw[hk w.params,List.map_map]at y1;have key:∀(l:PySem.W.Frag),(l.map fun p=>s₀.heap.get? p.1)=l.map (fun p=>some p.2)->List.lookup b l=some u->s₀.heap.get? b=some u:=by
  intro l
  induction l with
  |nil=>intro _ z;cases z
  |cons p l ih =>
   intro e z;rw[List.map_cons,List.map_cons,List.cons.injEq]at e;rw[List.lookup_cons]at z
   by_cases c:b=p.1
   ·subst c;rw[beq_self_eq_true]at z;cases z;exact e.1
   ·rw[beq_eq_false_iff_ne.mpr c]at z;exact ih e.2 z
 exact key _ y1 hu
end L2
namespace L2
open PySem PySem.W PySem.Calls PyProof.Rows
end L2
namespace L2
open PySem PySem.Spec PyProof.Rows
def tLR(ta:TA):TE:=fun σ H Q=>ta σ H fun vs H1=>∃j:Int,vs=[.int j]/\0<=j/\j<=1000000/\∀l,H1 l=none->Q (.ref l) (upd H1 l (.lst ((List.range j.toNat).map fun(k:Nat)=>V.int (0+(k:Int)))))
theorem lJ:∀{n m:Nat}{us:List Value},us.length=n->(∀(j:Nat) (v:Value),us[j]?=some v->∃t,v=.int (((m+j:Nat):Int)) t)->ay ((List.range' m n).map fun(k:Nat)=>V.int (0+(k:Int))) us
 |0,m,us,h,_=>by
  have:us=[]:=List.eq_nil_of_length_eq_zero h;subst this;exact .nil
 |n+1,m,[],h,_=>by cases h
 |n+1,m,u::us,h,hh=>by
  rw[List.range'_succ,List.map_cons];obtain⟨t,e⟩:=hh 0 u rfl;subst e;refine .cons ⟨t,by rw[Int.zero_add];rfl⟩ (lJ (by simpa using h) fun j v hv=>?_);obtain⟨t,e⟩:=hh (j+1) v (by simpa using hv);exact⟨t,by rw[e,show m+(j+1)=m+1+j by lia]⟩
section
variable{X:Cx}{a:Expr}{ta:TA}{p p2 pos pos2:Pos}
theorem oO(bA:X.calm=true) (hg:Gl X "list") (hm:X.mg "list"=none) (hg2:Gl X "range") (hm2:X.mg "range"=none) (ha:PA X [a] ta) (hs:starEach [a] X.env=[(false,eval a X.env)]:=by rfl)
  (hs2:starEach [.Call (.Name "range" p2) [a] [] pos2] X.env=[(false,eval (.Call (.Name "range" p2) [a] [] pos2) X.env)]:=by rfl):PE X (.Call (.Name "list" p) [.Call (.Name "range" p2) [a] [] pos2] [] pos) (tLR ta):=by
 intro ag s σ H Q I h;refine wpAny_Call_Name_kw (e8 I hg hm boot_list ?_);refine PyProof.Rows.callWith_type1 ?_ hs2 rfl;rw[hs2];show wpAny _ _ (spliced [(false,eval (.Call (.Name "range" p2) [a] [] pos2) X.env)]) _ _ s;refine Calls.spliced_cons (Call_ (e8 I hg2 hm2 boot_range (PyProof.Rows.callWith_type1 (thn (ha pos2 ag s σ H _ I h) fun us s1 hup=>hup.el fun vs H1 I1 r1 q1=>?_) hs rfl)));obtain⟨j,e,q1,q2,q⟩:=q1;subst e;cases r1 with
 |cons r rr =>
  cases rr;obtain⟨t,rfl⟩:=r;refine call_range_1 (Calls.spliced_nil ?_);refine call_list_range (I.ok.hd bA) (IsRange.new ..) (small_one (by lia) (by lia) (by lia) (by lia)) (n:=j.toNat) (by rw[rangeSize_one];split<;>lia) (by lia) fun h' tk acc' c' kp e items=>?_;have I2:Inv X ag σ H1 { s1 with heap:=s1.heap.push { cls:=.type "range",data:=.fields #[.int 0 s1.toks,.int j t,.int 1 (s1.toks+1)] },toks:=s1.toks+1+1 }:=I1.kept fun b o e=>Heap.get?_push_of_some _ e;have hv:ay ((List.range j.toNat).map fun(k:Nat)=>V.int (0+(k:Int))) acc'.toList:=by
   rw[List.range_eq_range'];refine lJ (by simpa using items.1) fun i v hv=>?_;obtain⟨t,e⟩:=items.2 i v (by simpa using hv);exact⟨t,by rw[e];congr 1;lia⟩
  refine⟨.ref _,_,I2.laid (t':=tk) kp (Nat.le_refl _) (show bB X.prog X.w _ h' _ (.lst _)from⟨?_,acc'.toList,c',hv,e⟩),rfl,q _ (I2.hok.fresh (Nat.le_refl _))⟩;rw[List.length_map,List.length_range,sizeLine_eq];lia
theorem pP{K:PySem.W.Frag}{M:DH}{H:Hp}:∀(l:List Nat),ar K M H (l.map fun(k:Nat)=>D.int (0+(k:Int))) (l.map fun(k:Nat)=>V.int (0+(k:Int)))
 |[]=>rfl
 |k::l=>by simp only[List.map_cons,ar];exact⟨_,_,rfl,by simp[Rep],pP l⟩
end
section
variable{X:Cx}
end
theorem qD{prog:Program}{w:World}{A:Around}{E:Value->Shared->Prop}{s:Shared}{it d:Addr}{i ep:Nat}{es:Array DictEntry}{od:Obj}{ok ov:Value}{Q:Option Value->Shared->Prop}
  (hit:IsItemIter s.heap it d i es.size ep ok ov) (hod:s.heap.get? d=some od) (hdd:od.data=.dict es ep) (hlt:i<es.size)
  (hQ:∀ h':Heap,IsItemIterOut h' it d (i + 1) es.size ep es[i].key es[i].val s.heap.objs.size → h'.get? s.heap.objs.size = some { cls:=Value.type "tuple",data:=Data.seq #[es[i].key,es[i].val] } → h'.objs.size = s.heap.objs.size + 1 →
   (∀b o,b≠it->s.heap.get? b=some o->h'.get? b=some o)->Q (some (Value.ref s.heap.objs.size)) { s with heap:=h' }):wpAny (model prog w) A (pyNext (Value.ref it)) Q E s:=by
 obtain⟨hp,g,dr,tk,os⟩:=s;dsimp only at hit hod hQ;have hT:Shared.TypeIs { heap:=hp,gens:=g,drawn:=dr,toks:=tk,os:=os } (Value.ref it) "dict_itemiterator":=⟨_,hit,rfl⟩;refine wpAny_bind (wpAny_attempt (wpAny_callSpecial?_slot hT F.slot_dict_itemiterator_next (wpAny_call_entry F.slot_dict_itemiterator_next hT F.entry_dict_itemiterator_next ?_)));refine wpAny_bind (wpAny_pure (wpAny_bind (wpAny_bind (wpAny_bind (wpAny_typeNameOfWhole_itemiter hT (wpAny_pure (wpAny_bind (wpAny_fieldsOf hit rfl ?_))))))));have hown:Builtin.Dict_items.ownsTuple "dict_itemiterator"=true:=by decide
 simp only[hown,if_true,List.drop_succ_cons,List.drop_zero,List.take_succ_cons,List.take_zero];refine wpAny_ite_false (Eq.refl (decide ((Value.ref d==Value.none)=true))) ?_;refine wpAny_bind (wpAny_pure (wpAny_bind (wpAny_dictEntries hod hdd ?_)));refine wpAny_ite_false (by simp) ?_;refine wpAny_bind (wpAny_pure (wpAny_bind (wpAny_dictEpoch hod hdd ?_)));refine wpAny_ite_false (by simp) (wpAny_pure ?_);have e1:(if((i:Nat):Int)<0 then none else es[((i:Nat):Int).toNat]?)=some es[i]:=by
  rw[if_neg (by lia),Int.toNat_natCast,Array.getElem?_eq_getElem hlt]
 simp only[e1];refine wpAny_bind (wpAny_bind (wpAny_typeNameOfWhole_itemiter hT (wpAny_pure (wpAny_bind (wpAny_isOneOf_itemiter hT ?_)))));refine wpAny_bind ?_;refine wpAny_setField_rec (k:=3) (x:=Value.int ((i:Int)+1) 0) hit (by simp) fun h₁ he₁ hs₁=>?_;have he₁:IsItemIter h₁ it d (i+1) es.size ep ok ov:=by
  show h₁.get? it=_;rw[he₁];simp
 have hT₁:Shared.TypeIs { heap:=h₁,gens:=g,drawn:=dr,toks:=tk,os:=os } (Value.ref it) "dict_itemiterator":=⟨_,he₁,rfl⟩;refine wpAny_bind (wpAny_holding ?_);refine wpAny_bind (wpAny_isOneOf_itemiter hT₁ ?_);refine wpAny_bind (wpAny_isOneOf_itemiter hT₁ ?_);refine wpAny_bind (wpAny_newTuple ?_);dsimp only;have hz₁:h₁.objs.size=hp.objs.size:=hs₁.1;have kp₁:∀b o,b≠it->hp.get? b=some o->h₁.get? b=some o:=fun b o hb e=>hs₁.extBut b o hb e;have he₂:IsItemIter (h₁.push { cls:=Value.type "tuple",data:=Data.seq #[es[i].key,es[i].val] }) it d (i+1) es.size ep ok ov:=Heap.get?_push_of_some _ he₁;have ht₂:(h₁.push { cls:=Value.type "tuple",data:=Data.seq #[es[i].key,es[i].val] }).get? h₁.objs.size=some { cls:=Value.type "tuple",data:=Data.seq #[es[i].key,es[i].val] }:=Heap.get?_push_size _ rfl;have kp₂:∀b o,b≠it->hp.get? b=some o->(h₁.push { cls:=Value.type "tuple",data:=Data.seq #[es[i].key,es[i].val] }).get? b=some o:=fun b o hb e=>Heap.get?_push_of_some _ (kp₁ b o hb e);have hz₂:(h₁.push { cls:=Value.type "tuple",data:=Data.seq #[es[i].key,es[i].val] }).objs.size=hp.objs.size+1:=by rw[Heap.size_push,hz₁]
 rw[hz₁]at ht₂ ⊢;generalize h₁.push { cls:=Value.type "tuple",data:=Data.seq #[es[i].key,es[i].val] }=h₂ at *
 have hne:hp.objs.size≠it:=fun z=>by
  have h0:it<hp.objs.size:=Heap.lt_size hit;rw[z]at h0;exact Nat.lt_irrefl _ h0
 refine wpAny_bind ?_;refine wpAny_bind (wpAny_field he₂ rfl rfl (wpAny_pure ?_));refine wpAny_ite_true (Eq.refl (decide (true=true))) ?_;refine wpAny_bind (wpAny_field he₂ rfl rfl (wpAny_bind (wpAny_field he₂ rfl rfl ?_)));refine wpAny_bind (wpAny_setField_rec he₂ (by simp) fun h₃ he₃ hs₃=>?_);refine wpAny_bind (wpAny_setField_rec he₃ (by simp) fun h₄ he₄ hs₄=>?_);refine wpAny_bind (wpAny_setField_rec he₄ (by simp) fun h₅ he₅ hs₅=>?_);refine wpAny_bind (wpAny_setField_rec he₅ (by simp) fun h₆ he₆ hs₆=>?_);refine wpAny_bind (wpAny_letGo (wpAny_pure (wpAny_pure ⟨_,rfl,wpAny_pure ?_⟩)));refine hQ h₆ ?_ ?_ ?_ fun b o hb e=>?_
 ·show h₆.get? it=_;rw[he₆];simp
 ·exact hs₆.extBut _ _ hne (hs₅.extBut _ _ hne (hs₄.extBut _ _ hne (hs₃.extBut _ _ hne ht₂)))
 ·have e1:=hs₃.1;have e2:=hs₄.1;have e3:=hs₅.1;have e4:=hs₆.1;dsimp only at e1 e2 e3 e4
  lia
 ·exact hs₆.extBut _ _ hb (hs₅.extBut _ _ hb (hs₄.extBut _ _ hb (hs₃.extBut _ _ hb (kp₂ b o hb e))))
theorem lM{prog:Program}{w:World}{A:Around}{E:Value->Shared->Prop}{s:Shared}{it d:Addr}{i ep:Nat}{es:Array DictEntry}{od:Obj}{ok ov:Value}{Q:Option Value->Shared->Prop}
  (hA:A.handled=none) (hit:IsItemIter s.heap it d i es.size ep ok ov) (hod:s.heap.get? d=some od) (hdd:od.data=.dict es ep) (hlt:es.size<=i)
  (hQ:∀h':Heap,Heap.ExtBut it s.heap h'->Q none { s with heap:=h' }):wpAny (model prog w) A (pyNext (Value.ref it)) Q E s:=by
 obtain⟨hp,g,dr,tk,os⟩:=s;dsimp only at hit hod hQ;have hT:Shared.TypeIs { heap:=hp,gens:=g,drawn:=dr,toks:=tk,os:=os } (Value.ref it) "dict_itemiterator":=⟨_,hit,rfl⟩;refine wpAny_bind (wpAny_attempt (wpAny_callSpecial?_slot hT F.slot_dict_itemiterator_next (wpAny_call_entry F.slot_dict_itemiterator_next hT F.entry_dict_itemiterator_next ?_)));refine wpAny_bind (wpAny_pure (wpAny_bind (wpAny_bind (wpAny_bind (wpAny_typeNameOfWhole_itemiter hT (wpAny_pure (wpAny_bind (wpAny_fieldsOf hit rfl ?_))))))));have hown:Builtin.Dict_items.ownsTuple "dict_itemiterator"=true:=by decide
 simp only[hown,if_true,List.drop_succ_cons,List.drop_zero,List.take_succ_cons,List.take_zero];refine wpAny_ite_false (Eq.refl (decide ((Value.ref d==Value.none)=true))) ?_;refine wpAny_bind (wpAny_pure (wpAny_bind (wpAny_dictEntries hod hdd ?_)));refine wpAny_ite_false (by simp) ?_;refine wpAny_bind (wpAny_pure (wpAny_bind (wpAny_dictEpoch hod hdd ?_)));refine wpAny_ite_false (by simp) (wpAny_pure ?_);have e1:(if((i:Nat):Int)<0 then none else es[((i:Nat):Int).toNat]?)=none:=by
  rw[if_neg (by lia),Int.toNat_natCast,Array.getElem?_eq_none hlt]
 simp only[e1];refine wpAny_bind (wpAny_bind (wpAny_typeNameOfWhole_itemiter hT (wpAny_pure ?_)));refine wpAny_bind (wpAny_setField hit rfl (by simp[hown]) ?_);dsimp only;have kp:Heap.ExtBut it hp (hp.update it (Obj.mapFields fun x=>x.setIfInBounds (if Builtin.Dict_items.ownsTuple "dict_itemiterator"=true then 2 else 0) Value.none)):=(Heap.SameBut.update hp it _).extBut;generalize hp.update it (Obj.mapFields fun x=>x.setIfInBounds (if Builtin.Dict_items.ownsTuple "dict_itemiterator"=true then 2 else 0) Value.none)=h1 at kp;refine wpAny_bind ?_;unfold newExc;refine wpAny_bind (wpAny_newObj_type ?_ (show(#[]:Array Value).size<=_ by simp));refine wpAny_bind (wpAny_of_eq (Eq.refl (firstArgMember (Value.type "StopIteration") [])) ?_);refine wpAny_newObj_type ?_ (sizeOk_excFields _ _ _ _ _ _ _ _);refine wpAny_raiseNew_none hA ?_;refine wpAny_bind (wpAny_isInstance (T:="StopIteration") (b:=true) ⟨_,Heap.get?_push_size _ rfl,rfl⟩ rfl ?_);refine wpAny_ite_true (Eq.refl (decide (true=true))) (wpAny_pure ?_);exact hQ _ ((kp.push _).push _)
theorem qH{prog:Program}{w:World}{A:Around}{E:Value->Shared->Prop}{s:Shared}{d:Addr}{od:Obj}{es:Array DictEntry}{ep:Nat}{Q:Value->Shared->Prop}
  (hs:(d==sysModules)=false) (hod:s.heap.get? d=some od) (hx:od.ExactDict) (hdd:od.data=.dict es ep) 
  (hQ:Q (.ref s.heap.objs.size) { s with heap:=s.heap.push { cls:=.type "dict_items",data:=.fields #[.ref d] } }):wpAny (model prog w) A (call (.builtin "dict.items") [.ref d]) Q E s:=by
 have hT:s.TypeIs (.ref d) "dict":=⟨_,hod,hx.1⟩;refine wpAny_call_entry F.slot_dict_items hT F.entry_dict_items ?_ (F.args_dict_items_1 _);refine wpAny_bind ?_;show wpAny _ _ (Bind.bind _ _) _ _ _;refine wpAny_bind (wpAny_notOrdered_dict hT ?_);refine wpAny_pure ?_;show wpAny _ _ (do Builtin.Dict.showsAll d;let __do_lift <-newFields "dict_items" [Value.ref d];ret __do_lift) _ _ _;refine wpAny_bind (wpAny_ite_false (by simp[hs]) (wpAny_pure ?_));exact wpAny_bind (wpAny_newObj_type (wpAny_pure ⟨_,rfl,hQ⟩) (show(#[Value.ref d]:Array Value).size<=_ by simp))
theorem qP{prog:Program}{w:World}{A:Around}{E:Value->Shared->Prop}{s:Shared}{v d:Addr}{od:Obj}{es:Array DictEntry}{ep:Nat}{Q:Value->Shared->Prop}
  (hv:s.heap.IsItemsView v d) (hod:s.heap.get? d=some od) (hdd:od.data=.dict es ep)
  (hQ:∀h',IsItemIter h' s.heap.objs.size d 0 es.size ep .none .none->(∀b o,s.heap.get? b=some o->h'.get? b=some o)->Q (.ref s.heap.objs.size) { s with heap:=h' }):wpAny (model prog w) A (pyIter (.ref v)) Q E s:=by
 obtain⟨ov,hov,hcv,hdv⟩:=id hv;refine wpAny_pyIter_slot hv.typeIs F.slot_dict_items_iter (wpAny_call_entry F.slot_dict_items_iter hv.typeIs F.entry_dict_items_iter ?_ (F.args_dict_items_iter_1 _));refine wpAny_bind (wpAny_pure (wpAny_bind ?_));show wpAny _ _ (Bind.bind _ _) _ _ _;refine wpAny_bind (wpAny_field hov hdv rfl (wpAny_pure (wpAny_bind ?_)));show wpAny _ _ (Bind.bind _ _) _ _ _;refine wpAny_bind (wpAny_dictEntries hod hdd (wpAny_bind (wpAny_dictEpoch hod hdd ?_)));have hown:Builtin.Dict_items.ownsTuple "dict_itemiterator"=true:=by decide
 simp only[hown,if_true];refine wpAny_newObj_type (wpAny_pure ⟨_,rfl,"dict_itemiterator",_,⟨_,Heap.get?_push_size _ rfl,rfl⟩,F.slot_dict_itemiterator_next.lookup,?_⟩) (show Array.size _<=_ by simp[Builtin.Dict_items.ownedTupleFields];exact Nat.le_of_lt (uh (by decide)));exact hQ _ (Heap.get?_push_size _ rfl) fun b o e=>Heap.get?_push_of_some _ e
def Dq(a:Addr) (o:Obj) (ks:List (List Key×V)):It :=
 ⟨fun i H=>H a=some (.frz o (.dT ks))/\i<ks.length,fun i H x H'=>∃T q k v,x=.ref T/\H T=none/\ks[i]?=some (k,v)/\H q=some (.tup (k.map kV))/\H'=upd H T (.tup [.ref q,v]),fun i H=>H a=some (.frz o (.dT ks))/\ks.length<=i⟩
section
variable{X:Cx}{ag:List (Addr×Obj)}{σ:St}{H:Hp}{s:Shared}{a:Addr}{o:Obj}{ks:List (List Key×V)}
theorem Inv.freezeT(I:Inv X ag σ H s) (e:H a=some (.dT ks)):∃o,s.heap.get? a=some o/\Inv X ag σ (upd H a (.frz o (.dT ks))) s:=by
 have q:=I.hok a _ e;obtain⟨_,_,_,_,o,_,_,he,_⟩:=id q;refine⟨o,he,?_⟩;have ne:∀{b},H b≠some (.dT ks)->b≠a:=fun {b} z w=>z (by rw[w];exact e);have:=I.write (x:=a) (e:=a) (o:=.frz o (.dT ks)) (h':=s.heap) (t':=s.toks) (by rw[e];exact True.intro) (.inl rfl) (fun b u _ q=>q) ⟨o,he⟩ ⟨he,q.stay (fun c v _ r=>r) (fun c r=>by rw[ax (ne (by rw[r];intro z;cases z))];exact r) fun c xs r=>by rw[ax (ne (by rw[r];intro z;cases z))];exact r⟩;exact this
theorem o4{ep:Nat}{es:Array DictEntry}(I:Inv X ag σ H s) (e:H a=some (.frz o (.dT ks))) (hd:o.data=.dict es ep):s.heap.get? a=some o/\∃xs:List (List Key×Addr×Value),Paired (fun(p:List Key×V) (q:List Key×Addr×Value)=>p.1=q.1/\H q.2.1=some (.tup (p.1.map kV))/\aE p.2 q.2.2) ks xs/\es.toList=xs.map (entryOfKey (tupleKind (bv X.prog X.w))):=by
 obtain⟨q,hz,hs,xs,rel,o',es',ep',q',c,d',r,_⟩:=I.hok a _ e;rw[q]at q';cases q';rw[hd]at d';cases d';exact⟨q,xs,rel,r⟩
theorem jb{α β:Type}{F:α->β->Prop}:∀{l₁:List α}{l₂:List β},Paired F l₁ l₂->∀(i:Nat) (x:α),l₁[i]?=some x->∃y,l₂[i]?=some y/\F x y
 |_,_,.cons r _,0,x,h=>by cases h;exact⟨_,rfl,r⟩
 |_,_,.cons _ t,i+1,x,h=>jb t i x h
theorem kO:entryFor table "dict_itemiterator.__iter__"=some Builtin.«dict_keyiterator.__iter__»:=by kernel_rfl
theorem uF{prog:Program}{w:World}{A:Around}{E:Value->Shared->Prop}{s:Shared}{it d:Addr}{i n ep:Nat}{ok ov:Value}{Q:Value->Shared->Prop}(q:IsItemIter s.heap it d i n ep ok ov) (h:Q (.ref it) s):wpAny (model prog w) A (pyIter (.ref it)) Q E s :=
 wpAny_pyIter_slot (T:="dict_itemiterator") ⟨_,q,rfl⟩ PySem.F.slot_dict_itemiterator_iter (wpAny_call_entry PySem.F.slot_dict_itemiterator_iter ⟨_,q,rfl⟩ kO (show wpAny _ _ (pure _) _ _ _ from wpAny_pure ⟨_,rfl,"dict_itemiterator",_,⟨_,q,rfl⟩,PySem.F.slot_dict_itemiterator_next.lookup,h⟩) (PySem.F.args_dict_itemiterator_iter_1 _))
theorem qL{P:Program}{w:World}{K:PySem.W.Frag}{elts:List Expr}{x1:Nat}{pt:Pos}(it:Addr) {ep:Nat}{es:Array DictEntry}(hd:o.data=.dict es ep) (hl:es.size=ks.length):iP P w K (.Tuple elts x1 pt) (Dq a o ks) [it] it (fun i h=>∃ok ov,IsItemIter h it a i es.size ep ok ov) where
 mem:=by simp
 obj:=fun i h st b hb=>by
  have e:b=it:=by simpa using hb
  subst e;obtain⟨ok,ov,q⟩:=st;exact⟨_,q,fun v z=>by cases z⟩
 keep:=fun i h h' ⟨ok,ov,q⟩ k=>⟨ok,ov,k it (by simp) _ q⟩
 item:=by
  intro X hP hw hK hc i ag s σ H E I hf st hg;subst hP hw hK;obtain⟨e,hi⟩:=hg;obtain⟨hget,xs,rel,hes⟩:=o4 I e hd;obtain⟨ok,ov,hit⟩:=st;obtain⟨⟨k,v⟩,hkv⟩:∃p,ks[i]?=some p:=⟨ks[i],by simp[hi]⟩;obtain⟨⟨k',q,u⟩,hx,rk,hq,ru⟩:=jb rel i _ hkv;have hlt:i<es.size:=by lia
  have hei:es[i]=entryOfKey (tupleKind (bv X.prog X.w)) (k',q,u):=by
   have h1:es.toList[i]?=some es[i]:=by simp[hlt]
   rw[hes,List.getElem?_map,hx]at h1;exact(Option.some.inj h1).symm
  have hek:es[i].key=.ref q:=by rw[hei];rfl
  have hev:es[i].val=u:=by rw[hei];rfl
  refine qD hit hget hd hlt fun h1 hout hT hsz keep=>⟨_,rfl,?_⟩;rw[hek,hev]at hout hT;have fe:=hf it (by simp);have In:H s.heap.objs.size=none:=I.hok.fresh (Nat.le_refl _);have eT:it<s.heap.objs.size:=Heap.lt_size hit;have I1:Inv X ag σ (upd H s.heap.objs.size (.tup [.ref q,v])) { s with heap:=s.heap.push { cls:=.type "tuple",data:=.seq #[.ref q,u] } } :=
   I.laid (t':=s.toks) (fun b o q=>Heap.get?_push_of_some _ q) (Nat.le_refl _) ⟨by simp only[List.length_cons,List.length_nil];rw[sizeLine_eq];decide,[.ref q,u],.cons rfl (.cons ru .nil),⟨_,Heap.get?_push_size s.heap rfl,rfl,⟨0,rfl⟩,rfl⟩⟩
  have fe1:cz X ag (upd H s.heap.objs.size (.tup [.ref q,v])) it:=fe.upd (Nat.ne_of_lt eT);obtain⟨g0,g1,g2,g3,g4,g5⟩:=fe1;have I2:=I1.turned (t':=s.toks) (h':=h1) (it:=it) (fun b o hb q=>by
   rcases Heap.get?_push_cases q with z|z
   ·rw[z.1,z.2];exact hT
   ·exact keep b o hb z) g0 g1 g3 g4 g5
  refine wpAny_letOwnedTupleGo_items hout fun h2 he2 hs2=>?_;have I3:=I2.turned (t':=s.toks) (h':=h2) (it:=it) (fun b o hb q=>(hs2.2 b hb).trans q) g0 g1 g3 g4 g5;refine⟨.ref s.heap.objs.size,_,I3,rfl,⟨_,q,k,v,rfl,In,hkv,hq,rfl⟩,⟨_,_,he2⟩,fun b hb=>?_⟩;rw[show b=it by simpa using hb];exact g0
 done:=by
  intro X hP hw hK hc i ag s σ H E I hf st hg;subst hP hw hK;obtain⟨e,hi⟩:=hg;obtain⟨hget,xs,rel,hes⟩:=o4 I e hd;obtain⟨ok,ov,hit⟩:=st;obtain⟨f0,f1,f2,f3,f4,f5⟩:=hf it (by simp);exact lM (I.ok.hd hc) hit hget hd (by lia) fun h' eb=>⟨rfl,I.turned (t':=s.toks) (fun b o hb q=>eb b o hb q) f0 f1 f3 f4 f5⟩
 self:=fun A i s Q E ⟨ok,ov,q⟩ h=>uF q h
end
section
variable{X:Cx}{l:Expr}{tl:TE}{te:TEd}{elts:List Expr}{x1:Nat}{pt cb bf:Pos}
def iDi(tl:TE):TI:=fun σ H R=>tl σ H fun x H1=>∃a ks,x=.ref a/\H1 a=some (.dT ks)/\∀o,R (Dq a o ks) (upd H1 a (.frz o (.dT ks)))
theorem wL(hl:PE X l tl) (dU:attributeBase l "items" X.env (eval l X.env)=eval l X.env:=by rfl) (dN:(cb.endLine==bf.line)=true:=by rfl):PI X (.Tuple elts x1 pt) (.Call (.Attribute l "items" cb) [] [] bf) (iDi tl):=by
 intro ag s σ H R I h;refine wpAny_Call_method0_late dU dN (thn (hl ag s σ H _ I h) fun v s1 hup=>hup.el fun x H1 I1 r1 q1=>?_);obtain⟨a,ks,e,ea,q⟩:=q1;subst e;cases r1;obtain⟨t1,t2,_⟩:=xG I1 (.inr ⟨ks,.inl ea⟩);obtain⟨o,ho,I2⟩:=I1.freezeT ea;have hk:=I1.hok a _ ea;obtain⟨_,hs,xs,rel,o',es,ep,q',c,hd,r,_⟩:=hk;rw[ho]at q';cases q';refine⟨"dict","dict.items",PySem.F.plainAttrs_dict,PySem.F.slot_dict_items,PySem.F.type_dict_items,t1,t2,Calls.callWith_builtin rfl (PySem.evalArgs_none ?_)⟩;refine qH hs ho c hd ?_;have I3:=I2.kept (t':=s1.toks) (h':=s1.heap.push { cls:=.type "dict_items",data:=.fields #[.ref a] }) fun b o e=>Heap.get?_push_of_some _ e;refine qP (d:=a) (od:=o) (es:=es) (ep:=ep) ⟨_,Heap.get?_push_size _ rfl,rfl,rfl⟩ (Heap.get?_push_of_some _ ho) hd fun h' hit keep=>?_;have I4:=I3.kept (t':=s1.toks) (h':=h') keep;have bP:es.size=ks.length:=by
  have h1:=congrArg List.length r;rw[Array.length_toList,List.length_map]at h1;rw[h1];exact(Paired.length rel).symm
 refine⟨_,[_],_,_,_,rfl,I4,qL _ hd bP,⟨_,_,hit⟩,fun b hb=>?_,q o⟩;have e:=List.mem_singleton.mp hb;rw[e];exact I3.fpOk (Nat.le_refl _) (I3.hok.fresh (Nat.le_refl _))
def DY(te:TEd):TId:=fun Δ M R=>te Δ M fun d M1=>∃a kvs,d=.ref a/\M1 a=some (.dT kvs)/\R (kvs.map fun p=>.tup [.tup (p.1.map kD),p.2]) (iC M1 a)
theorem sH{K:PySem.W.Frag}{M:DH}{H:Hp}:∀ks:List Key,ar K M H (ks.map kD) (ks.map kV)
 |[]=>ar.nil
 |k::ks=>ar.cons rG (sH ks)
theorem vH(he:QEd X l te) (dU:attributeBase l "items" X.env (eval l X.env)=eval l X.env:=by rfl) (dN:(cb.endLine==bf.line)=true:=by rfl):QId X (.Tuple elts x1 pt) (.Call (.Attribute l "items" cb) [] [] bf) (DY te):=by
 simp only[QEd.eq,QId.eq]at *
 exact fun ag s σ H R I h =>
  PI.conv (wL he dU dN) (fun σ H R hup=>hup.el fun Δ M R' sr hr q k=>⟨Δ,M,_,sr,hr,q,fun d M1 v H1 ⟨a,kvs,ed,em,q1⟩ e1 hr1 rv=>by
   subst ed;simp only[Rep]at rv;subst rv;obtain⟨ks,h1,kr⟩:=hr1 a _ em;refine⟨a,ks,rfl,h1,fun o=>?_⟩;have e2:Ext M1 H1 (iC M1 a) (upd H1 a (.frz o (.dT ks))):=fun b u z n=>by
    have hb:b≠a:=fun w=>by rw[w,em]at n;cases n
    rw[ax hb,ie hb];exact⟨z,n⟩
   have hr2:HR X.K (iC M1 a) (upd H1 a (.frz o (.dT ks))):=fun b u z=>by
    have hb:b≠a:=fun w=>by rw[w,gB]at z;cases z
    rw[ie hb]at z;exact(hr1 b u z).keep e2 (ax hb)
   refine k _ _ _ _ q1 (e1.trans e2) hr2 ?_
   ·intro M2 H2 e3 hr3 i;have ea:=(e3 a _ aF gB).1;refine⟨fun d hd=>?_,fun hl=>⟨ea,?_⟩⟩
    ·rw[List.getElem?_map]at hd;cases q:kvs[i]? with
     |none=>rw[q]at hd;cases hd
     |some p =>
      rw[q]at hd;cases hd;have hi:i<kvs.length:=(List.getElem?_eq_some_iff.mp q).1;refine⟨⟨ea,by rw[<-kr.length];exact hi⟩,fun x H' hy=>?_⟩;obtain⟨T,q',k',v',ex,hT,hk,hq,eH⟩:=hy;subst eH;subst ex;obtain⟨y,hy,ek,rv⟩:=jb ((kr.ext e2).ext e3) i p q;rw[hk]at hy;cases hy;have en:Ext M2 H2 M2 (upd H2 T (.tup [.ref q',v'])):=Ext.new hr3 hT;have hn:=hr3.new (o:=.tup [.ref q',v']) hT;refine⟨en,hn,?_⟩;have mq:M2 q'=none:=by
       cases hm:M2 q' with
       |none=>rfl
       |some u =>
        obtain⟨w,z,nw⟩:=(hr3 q' u hm).some;rw[hq]at z;cases z;exact absurd rfl (nw _).1
      have rk:Rep X.K M2 H2 (.tup (p.1.map kD)) (.ref q'):=by
       simp only[Rep];refine⟨q',_,rfl,.inl ⟨.inl hq,mq⟩,?_⟩;have:p.1=k':=ek;rw[this];exact sH _
      have rT:Rep X.K M2 (upd H2 T (.tup [.ref q',v'])) (.tup [.tup (p.1.map kD),p.2]) (.ref T):=by
       rw[Rep];exact⟨T,_,rfl,.inl ⟨.inl aF,hr3.fresh hT⟩,ar.cons (rk.ext en) (ar.cons (Rep.ext rv en) ar.nil)⟩
      exact rT
    ·rw[<-kr.length];simpa using hl⟩) ag s σ H R I h
end
section
variable{X:Cx}
def inF(x y:D):Option D:=match y with
 |.lst ds=>if dLe x 59=true/\cM ds 59=true then some (.bl (ds.any fun d=>eqD d x))else none
 |_=>none
theorem D4{x:D}{ds:List D}:inF x (.lst ds)=if dLe x 59=true/\cM ds 59=true then some (.bl (ds.any fun d=>eqD d x))else none:=rfl
end
section
variable{X:Cx}{a b e:Expr}{ta tb te:TEd}{pos:Pos}
def rF(ds:List D) (x:D):Option Nat:=if dLe x 59=true/\cM ds 59=true/\ds.length<2 ^ 62 then ds.findIdx? (fun d=>eqD d x)else none
theorem vC{ds:List D}{x:D}{j:Nat}(h:rF ds x=some j):dLe x 59=true/\cM ds 59=true/\ds.length<2 ^ 62/\∃hj:j<ds.length,eqD ds[j] x=true/\∀m (hm:m<ds.length),m<j->eqD ds[m] x=false:=by
 unfold rF at h
 by_cases hc:dLe x 59=true/\cM ds 59=true/\ds.length<2 ^ 62
 ·rw[if_pos hc]at h;obtain⟨hj,h1,h2⟩:=List.findIdx?_eq_some_iff_getElem.mp h;exact⟨hc.1,hc.2.1,hc.2.2,hj,h1,fun m hm hl=>by have:=h2 m hl;simpa using this⟩
 ·rw[if_neg hc]at h;cases h
section
open PySem.SeqAt PySem.MeetsSeq AutoSeq1
theorem ph(l:Addr) (xs:Array Value) (n:Nat) (od:Option Addr) (os:Array (Option Value)) (y:Value) (hit:Nat->Bool) (top:Int) (j:Nat) (lj:j<xs.size) (ltop:(j:Int)<top) (yes:hit j=true) :
  ∀(k i:Nat),j-i=k->i<=j->(∀m,i<=m->m<j->hit m=false)->Meets (Builtin.«list.index.loop» ⟨[.ref l,y,rawInt i,rawInt top],[]⟩)
   (fun B R t=>t.heap.get? l=some { cls:=.type "list",dict:=od,data:=.seq xs n,slots:=os }/\(∀m (h:m<xs.size),EqAt B.in1 t xs[m] y (hit m))/\R (.ok (.ret (.int j t.toks))) { t with toks:=t.toks+1 })
 |0,i,ek,hi,no,prog,w,B,R,t,q=>by
  obtain⟨th,tg,td,tt,to⟩:=t;obtain⟨ql,qe,qr⟩:=q;obtain rfl:i=j:=by lia
  wp_walk using wpAny_loadPart' ql
  rw[show(if(i:Int)<top then xs[((i:Nat):Int).toNat]? else none)=some xs[i]by simp[ltop,lj]];refine wpAny_bind (qe i lj prog w _ _ ?_);rw[yes]
  wp_walk
  exact qr
 |k+1,i,ek,hi,no,prog,w,B,R,t,q=>by
  obtain⟨th,tg,td,tt,to⟩:=t;obtain⟨ql,qe,qr⟩:=q;have li:i<xs.size:=by lia
  have lt:(i:Int)<top:=by lia
  wp_walk using wpAny_loadPart' ql
  rw[show(if(i:Int)<top then xs[((i:Nat):Int).toNat]? else none)=some xs[i]by simp[lt,li]];refine wpAny_bind (qe i li prog w _ _ ?_);rw[no i (Nat.le_refl _) (by lia)]
  wp_walk
  rw[show((i:Int)+1)=((i+1:Nat):Int)by lia];refine⟨plainId_quiet plain_index_loop _,codeAny_builtin entry_index_loop ?_⟩;rw[Around.under_plainId plain_index_loop _];exact ph l xs n od os y hit top j lj ltop yes k (i+1) (by lia) (by lia) (fun m a b=>no m (by lia) b) prog w B R _ ⟨ql,qe,qr⟩
theorem xj(l:Addr) (xs:Array Value) (n:Nat) (od:Option Addr) (os:Array (Option Value)) (y:Value) (hit:Nat->Bool) (j:Nat) (lj:j<xs.size) (ls:(j:Int)<2 ^ 63-1) (yes:hit j=true) (no:∀m,m<j->hit m=false) :
  Meets (Builtin.«list.index» ⟨[.ref l,y],[]⟩)
   (fun B R t=>t.heap.get? l=some { cls:=.type "list",dict:=od,data:=.seq xs n,slots:=os }/\(∀m (h:m<xs.size),EqAt B.in1 t xs[m] y (hit m))/\R (.ok (.ret (.int j t.toks))) { t with toks:=t.toks+1 }):=by
 intro prog w B R t q;obtain⟨th,tg,td,tt,to⟩:=t;obtain⟨ql,qe,qr⟩:=q
 wp_walk using wpAny_loadPart' ql
 rw[show((fun i:Int=>if i<0 then max 0 (i+(xs.size:Int))else i) ((none:Option Int).getD 0))=((0:Nat):Int)by simp,show((fun i:Int=>if i<0 then max 0 (i+(xs.size:Int))else i) ((none:Option Int).getD (2 ^ 63-1)))=2 ^ 63-1 by simp];refine⟨plainId_quiet plain_index_loop _,codeAny_builtin entry_index_loop ?_⟩;rw[Around.under_plainId plain_index_loop _];exact ph l xs n od os y hit (2 ^ 63-1) j lj ls yes _ 0 rfl (Nat.zero_le _) (fun m _ b=>no m b) prog w B R _ ⟨ql,qe,qr⟩
end
end
section
variable{X:Cx}{o e:Expr}{to te:TEd}{cb bf:Pos}
def qg(ds:List D) (d:D) (m:Nat):Bool:=match ds[m]? with|some x=>eqD x d|none=>false
theorem xS{ag:List (Addr×Obj)}{σ:St}{H:Hp}{s:Shared}{M:DH}{ds:List D}{d:D}{vs:List V}{its:List Value}{y:V}{u:Value}(I:Inv X ag σ H s) (hu:X.A.units+64<cLine) (rl:ar X.K M H ds vs) (r:ay vs its) (r1:aR X.K M H d y) (ry:aE y u) (h1:dLe d 59=true) (h2:cM ds 59=true) :
  ∀m (h:m<its.toArray.size),PySem.SeqAt.EqAt X.A.in1 s its.toArray[m] u (qg ds d m):=fun m h=>by
 have hl:ds.length=its.length:=rl.length.trans r.length;have h':m<its.length:=by simpa using h
 have h3:m<ds.length:=by lia
 obtain⟨v1,g1,p1⟩:=rl.get (i:=m) (d:=ds[m]) (by simp[h3]);obtain⟨u1,k1,m1⟩:=r.get g1;have e1:its.toArray[m]=u1:=by simpa[List.getElem?_eq_getElem h']using k1
 rw[e1,show qg ds d m=eqD ds[m] d by simp[qg,h3]];exact(qU I 59 (by show X.A.units+1+59<cLine;lia) (iG h2 (i:=m) (by simp[h3])) h1 p1.r r1 m1 ry).1
theorem ve{ds:List D}{x:D}{j:Nat}(h:rF ds x=some j):dLe x 59=true/\cM ds 59=true/\(j:Int)<2 ^ 63-1/\j<ds.length/\qg ds x j=true/\∀m,m<j->qg ds x m=false:=by
 obtain⟨h1,h2,h3,lj,yes,no⟩:=vC h;refine⟨h1,h2,by lia,lj,by simp[qg,lj,yes],fun m hm=>?_⟩;have hm':m<ds.length:=by lia
 simp[qg,hm',no m hm' hm]
theorem yH(hu:X.A.units+64<cLine):MtR X "list.index" (fun x xs H Q=>∃M ds d y j,xs=[y]/\aR X.K M H (.lst ds) x/\aR X.K M H d y/\rF ds d=some j/\Q (.int j) H):=by
 intro ag s σ H x xs v us Q I rx rv h;obtain⟨M,ds,d,y,j,rfl,r2,r1,hj,q⟩:=h;obtain⟨u,rfl,ry⟩:=ay.one rv;obtain⟨l,vs,rfl,sq,rl⟩:=r2;cases rx;obtain⟨its,r,pl,hz⟩:=I.list (SqL.of sq);obtain⟨h1,h2,h3,lj,yes,no⟩:=ve hj;have hl:ds.length=its.length:=rl.length.trans r.length;obtain⟨⟨c,dd,dt,sl⟩,n,ho,hc,hdd,hdt⟩:=pl;obtain rfl:c=.type "list":=hc;obtain rfl:dt=.seq its.toArray n:=hdt;exact call_meets F.slot_list_index ⟨_,ho,rfl⟩ F.entry_list_index (F.args_list_index_2 _ _) (xj l its.toArray n dd sl u (qg ds d) j (by simp;lia) h3 yes no) ⟨ho,xS I hu rl r r1 ry h1 h2,⟨.int _,H,I.tok _,⟨_,rfl⟩,q⟩⟩
def zW(to te:TEd):TEd:=fun Δ M Q=>to Δ M fun o M1=>(∃ds,rdM M1 o=.lst ds)/\te Δ M1 fun x M2=>∃ds j,rdM M2 o=.lst ds/\rF ds (rdM M2 x)=some j/\Q (.int j) M2
theorem Bv(hu:X.A.units+64<cLine) (ho:QEd X o to) (he:QEd X e te) (dU:attributeBase o "index" X.env (eval o X.env)=eval o X.env:=by rfl)
  (hse:starEach [e] X.env=(false,eval e X.env)::starEach [] X.env:=by rfl)
  (oM:((backTo bf (starEach [e] X.env)).all (fun x => !x.1) && (backToKw bf (keywordEach [] X.env)).all (fun x => x.1.isSome)
  &&decide ([e].length+([]:List Keyword).length+(if([]:List Keyword).isEmpty then 0 else 1)<30))=true:=by rfl)
  (dN:(cb.endLine==bf.line)=true:=by rfl) (g7:(backTo bf (starEach [] X.env)).any (·.1)=false:=by rfl):QEd X (.Call (.Attribute o "index" cb) [e] [] bf) (zW to te):=by
 rw[QEd.eq]at *
 refine(wb PySem.F.plainAttrs_list PySem.F.slot_list_index PySem.F.type_list_index (yH hu) ho (j5 he nN hse) dU oM dN hse g7).conv fun σ H Q hh=>?_;obtain⟨Δ,M,R,sr,hr,q,k⟩:=hh;refine⟨Δ,M,_,sr,hr,q,fun o M1 ov H1 ⟨⟨ds0,e0⟩,q1⟩ e1 hr1 ro=>?_⟩;have r0:=ro.rd hr1;rw[e0]at r0;obtain⟨l0,vs0,rfl,hl0,_⟩:=r0;refine⟨.inl ⟨rfl,vs0,SqL.of hl0⟩,Δ,M1,_,sr.ext e1,hr1,q1,fun d M2 v H2 ⟨ds,j,ed,hj,q2⟩ e2 hr2 rv=>?_⟩;have r2:=(ro.ext e2).rd hr2;rw[ed]at r2;exact⟨M2,ds,_,v,j,rfl,r2,rv.rd hr2,hj,k _ M2 _ H2 q2 (e1.trans e2) hr2 (by simp[Rep])⟩
end
section
variable{X:Cx}{scope:Scope}{cl:List (Str×Addr)}{aj:List Str}{tg:Expr}{pos:Pos}
end
section
variable{X:Cx}{e:Expr}{te:TEd}
def Eo(kvs:List (Key×D)):D:=.box (.dk (kvs.map (·.1))) (kvs.map (·.2))
end
section
variable{X:Cx}{a b c e o i:Expr}{es:List Expr}{te ta tb to ti:TEd}{t:TAd}{pos:Pos}{tg iter:Expr}
end
def Dk:D->Option D
 |.box (.dk ks) _=>some (.lst (ks.map kD))
 |_=>none
theorem xX{kvs:List (Key×D)}:Dk (Eo kvs)=some (.lst (kvs.map fun p=>kD p.1)):=by
 show some (D.lst ((kvs.map (·.1)).map kD))=_;rw[List.map_map];rfl
noncomputable def E7:D->Option D
 |.int i=>some (.int i)
 |.bl k=>some (.int (if k then 1 else 0))
 |_=>none
theorem AF{k:Bool}:E7 (.bl k)=some (.int (if k then 1 else 0)):=rfl
noncomputable def ltS(a b:Str):Bool:=decide (a.cps.toList<b.cps.toList)
theorem xM{a b:Str}(h:a.cps.toList=b.cps.toList):a=b:=by
 cases a;cases b;simp only[Str.mk.injEq];exact Array.toList_inj.mp h
theorem yQ(a:Str):ltS a a=false:=decide_eq_false (List.lt_irrefl _)
theorem ug{a b c:Str}(h1:ltS a b=true) (h2:ltS b c=true):ltS a c=true:=decide_eq_true (List.lt_trans (of_decide_eq_true h1) (of_decide_eq_true h2))
theorem ye{a b:Str}(h1:ltS a b=false) (h2:ltS b a=false):a=b :=
 xM (List.le_antisymm (List.not_lt.mp (of_decide_eq_false h2)) (List.not_lt.mp (of_decide_eq_false h1)))
section
variable{X:Cx}
end
section
variable{X:Cx}{e:Expr}{t:TEd}
def zR(t:TEd):TEd:=fun Δ M Q=>t (Δ.map (Option.map (rdM M))) noM fun d M2=>noL d=true/\M2=noM/\Q d M
theorem SR.lend{K:PySem.W.Frag}{M:DH}{H:Hp}{σ:St}{Δ:DE}(sr:SR K M H σ Δ) (hr:HR K M H):SR K noM H σ (Δ.map (Option.map (rdM M))):=by
 refine⟨by rw[List.length_map];exact sr.1,fun i d hd=>?_⟩;rw[List.getElem?_map]at hd;cases hx:Δ[i]? with
 |none=>rw[hx]at hd;cases hd
 |some o =>
  rw[hx]at hd;cases o with
  |none=>cases hd
  |some d0 =>
   have e0:rdM M d0=d:=by simpa using hd
   subst e0;obtain⟨v,ev,rv⟩:=sr.2 i d0 hx;refine⟨v,ev,?_⟩;have:=pV hr LeM.no (qq (ds:=[d0])) (ar.cons rv ar.nil);simp only[List.map_cons,List.map_nil,ar]at this;obtain⟨w,ws,q,h1,_⟩:=this;cases q;exact h1
theorem Cp(h:QEd X e t):QEd X e (zR t):=by
 simp only[QEd.eq]at *
 exact PE.conv h fun σ H Q hup=>hup.el fun Δ M R sr hr q k=>⟨_,noM,_,sr.lend hr,HR.nil,q,fun d M2 v H' ⟨hn,hM,q'⟩ e' hr' rv'=>by
  subst hM;have:=k d (gN M noM noM) v H' (by rw[wZ];exact q') (Ext.back LeM.no e') (hr.back LeM.no e' hr' (fun a l z=>nomatch z)) (Rep.hard hn rv' (cu hr LeM.no e' hr'));exact this⟩
end
section
variable{P:Program}{w:World}{K:PySem.W.Frag}{h base:Heap}{mg:Str->Option Value}{x qual:Str}{st:Stmt}{f:Addr}{fd:FuncData}{k:Nat}{S:SpD}
structure bC(K:PySem.W.Frag) (x:Str) (st:Stmt) (f:Addr) (fd:FuncData):Prop where
 a:PySem.W.nsIn K mainGlobals x=some (some (.ref f))
 F:Fun K x x st f fd
theorem Dt{oc:Value}{od an:Option Addr}{osl:Array (Option Value)}{kV doc pm cdv ct:Value}(a:PySem.W.nsIn K mainGlobals x=some (some (.ref f))) (l:K.lookup f=some ⟨oc,od,.func (PySem.W.fnOf x x (fB st) (cK st) (am st) .none kV doc pm an cdv ct),osl⟩)
  (c:PySem.W.codeIn K cdv x=true) (k:PySem.W.keepIn K (.ref f)=true):bC K x st f (PySem.W.fnOf x x (fB st) (cK st) (am st) .none kV doc pm an cdv ct):=⟨a,vO l c k⟩
theorem usS{p:List Value->Prop}{n:Nat}(h:∀a us,us.length=n->p (a::us)):∀us:List Value,us.length=n+1->p us:=by
 intro us e;cases us with
 |nil=>cases e
 |cons a us=>exact h a us (Nat.succ.inj e)
theorem us0{p:List Value->Prop}(h:p []):∀us:List Value,us.length=0->p us:=by
 intro us e;cases us with
 |nil=>exact h
 |cons a us=>cases e
def Bd(x qual:Str) (st:Stmt) (ps:List Str) (us:List Value):Prop:=∀(kV doc pm:Value) (an:Option Addr) (cdv ct:Value),bindArgs (PySem.W.fnOf x qual (fB st) (cK st) (am st) .none kV doc pm an cdv ct) ⟨us,[]⟩=pure (ps.zip us)
theorem mR{ps:List Str}(F:Fun K x qual st f fd) (b:∀us:List Value,us.length=ps.length->Bd x qual st ps us):dO K fd ps []:=F.binds fun kV doc pm an cdv ct us hl=>b us hl kV doc pm an cdv ct
variable{p1 p2 p3 p4 p5:Str}
theorem bd1(F:Fun K x qual st f fd) (b:∀a,Bd x qual st [p1] [a]):dO K fd [p1] []:=mR F (usS fun a=>us0 (b a))
theorem bd2(F:Fun K x qual st f fd) (b:∀a c,Bd x qual st [p1,p2] [a,c]):dO K fd [p1,p2] []:=mR F (usS fun a=>usS fun c=>us0 (b a c))
theorem bd3(F:Fun K x qual st f fd) (b:∀a c d,Bd x qual st [p1,p2,p3] [a,c,d]):dO K fd [p1,p2,p3] []:=mR F (usS fun a=>usS fun c=>usS fun d=>us0 (b a c d))
theorem bd4(F:Fun K x qual st f fd) (b:∀a c d e,Bd x qual st [p1,p2,p3,p4] [a,c,d,e]):dO K fd [p1,p2,p3,p4] []:=mR F (usS fun a=>usS fun c=>usS fun d=>usS fun e=>us0 (b a c d e))
theorem bd5(F:Fun K x qual st f fd) (b:∀a c d e g,Bd x qual st [p1,p2,p3,p4,p5] [a,c,d,e,g]):dO K fd [p1,p2,p3,p4,p5] []:=mR F (usS fun a=>usS fun c=>usS fun d=>usS fun e=>usS fun g=>us0 (b a c d e g))
theorem fg{ps:List Str}{n:Nat}(X:K.In h) (G:h.Ns mainGlobals mg) (i:bC K x st f fd) (o:bg P w K mg base CX0 k f fd ps (spD K n S)) (b:dO K fd ps []):FnD P w K mg base x k n S:=⟨_,_,_,o,PySem.W.mg_of X G i.a,i.F.kp,b⟩
end
theorem nbh{op:CmpOp}{b:Expr}(h:op≠.In:=by decide) (h2:op≠.NotIn:=by decide):behindInMarks op b=false:=vc b h h2
theorem fsc{N P:List Str}{sc:Scope}(a:sc.kind=.function:=by exact rfl) (b:sc.isCoroutine=false:=by exact rfl) (c:sc.isGenerator=false:=by exact rfl) (d:N.Nodup:=by decide +kernel) (e:N.take P.length=P:=by exact rfl)
  (f:∀x∈P,sc.names.lookup x=some .local∨sc.names.lookup x=some .cell:=by decide +kernel) (g:∀y∈sc.names,y.2≠.free:=by decide +kernel):az N P sc:=⟨a,b,c,d,e,f,g⟩
section
variable{X:Cx}{e:Expr}{es:List Expr}{t:TAd}{pos p:Pos}{x:Str}{j k n:Nat}{S:SpD}
theorem qd(F:FnD X.prog X.w X.K X.mg X.base x j n S) (hr:cw k X.A) (ha:QAd X (e::es) t) (h:j<=k:=by decide) (hg:Gl X x:=by exact rfl) (hdb:(x==("__debug__":Str))=false:=by decide) (he:starEach (e::es) X.env=(false,eval e X.env)::starEach es X.env:=by rfl) (hpl:(backTo pos (starEach es X.env)).any (·.1)=false:=by rfl) :
  QEd X (.Call (.Name x p) (e::es) [] pos) (kW n S t):=qc F (hr.mono h) hg ha hdb he hpl
end
end L2
namespace L2
open PySem
end L2
namespace L2
open PySem PySem.SetTable
def rs(mask:Nat) (h:Int):Nat->Nat×Nat
 |0=>(bits h % (mask+1),bits h)
 |n+1=>leap mask (rs mask h n).1 (rs mask h n).2
variable{mask:Nat}{h:Int}
end L2
namespace L2
open PySem PySem.Spec PyProof.Rows
section
variable{X:Cx}{o i:Expr}{to ti:TEd}{pos:Pos}
end
section
variable{P:Program}{w:World}{K:PySem.W.Frag}{mg:Str->Option Value}{base:Heap}{f:Addr}{fd:FuncData}
theorem Fun.okR{x qual:Str}{st:Stmt}{f:Addr}{fd:FuncData}{N ps:List Str}{k n:Nat}{S:SpD}(F:Fun K x qual st f fd) (hn:ps.length=n) (Sc:az N ps (am st))
  (hbody:∀ (cdv:Value) (A:Around) (outer:List Env) (s:Shared) (H:Hp) (E:XK),cw k (A.deeper (envOfC qual (am st) s.heap.objs.size f cdv)) →
   ∃t:TSd,QSs (n4 CX0 P w K mg base N qual (am st) f cdv A outer s H E).nox (cK st) t/\∀ds M R (G:Prop),S ds M R->(t { nx:=fun _ M'=>R .non M',rt:=R } (e9 N ds) M->G)->G):bg P w K mg base CX0 (k+1) f fd ps (spD K n S):=by
 refine F.okD hn Sc fun cdv A outer s H E hr=>?_;obtain⟨t,h1,h2⟩:=hbody cdv A outer s H E hr;exact⟨t,tI h1,fun ds M R _ hS=>h2 ds M R _ hS id⟩
theorem shr{p:Prop}(h:∀q:Prop,(p->q)->q):p:=h p id
theorem nn{M:DH}{p q:Addr}{u:HD}(h1:M q=none) (h2:M p=some u):q≠p:=fun e=>by rw[e,h2]at h1;cases h1
end
end L2
namespace L2
open PySem PyProof.Rows
theorem bJ{σ:Type}{M:Model}{A:Around}{E:Value->Shared->Prop}{s:Shared}{α:Type}{c:Prop} [Decidable c] {x y:StateT σ Sem α}{Q:α->σ->Prop}{st:σ}(h:c) (k:wpS M A E s x Q st):wpS M A E s (if c then x else y) Q st:=by rw[if_pos h];exact k
theorem bK{σ:Type}{M:Model}{A:Around}{E:Value->Shared->Prop}{s:Shared}{α:Type}{c:Prop} [Decidable c] {x y:StateT σ Sem α}{Q:α->σ->Prop}{st:σ}(h:¬ c) (k:wpS M A E s y Q st):wpS M A E s (if c then x else y) Q st:=by rw[if_neg h];exact k
theorem bO{p:Prop}(h:∀q:Prop,(p->q)->q):p:=h p id
abbrev SM(α:Type):=StateT SortSt Sem α
def gA(xs:Array Keyed) (i:Nat):Keyed:=xs[i]?.getD (.none,.none)
theorem o7{xs ys:Array Keyed}{i j:Nat}(h:xs[i]?=ys[j]?):gA xs i=gA ys j:=by unfold gA;rw[h]
theorem wM{xs:Array Keyed}{i:Nat}(h:i<xs.size):xs[i]?=some (gA xs i):=by unfold gA;rw[Array.getElem?_eq_getElem h];rfl
section
variable{prog:Program}{w:World}{A:Around}{E:Value->Shared->Prop}{s:Shared}{O:KeyOrd}{key:Keyed->O.α}{a0:List Keyed}{κ:SortKind}
def gI(prog:Program) (w:World) (A:Around) (s:Shared) (κ:SortKind) (key:Keyed->O.α) (a0:List Keyed):Prop :=
 ∀x∈a0,∀y∈a0,∀(Q:Bool->Shared->Prop),Q (O.blt (key x) (key y)) s->wpAny (model prog w) A (keyLt' κ x.1 y.1) Q (fun _ _=>False) s
structure SB(a0:List Keyed) (κ:SortKind) (st:SortSt):Prop where
 perm:(arrOf st).toList.Perm a0
 kind:kindOf st=κ
 fail:failedOf st=none
theorem SB.size{st:SortSt}(h:SB a0 κ st):(arrOf st).size=a0.length:=by rw[<-Array.length_toList];exact h.perm.length_eq
theorem SB.arr{st:SortSt}(h:SB a0 κ st) {xs:Array Keyed}(hp:xs.toList.Perm (arrOf st).toList):SB a0 κ (setArr st xs):=⟨hp.trans h.perm,h.kind,h.fail⟩
theorem SB.mem{st:SortSt}(h:SB a0 κ st) {i:Nat}(hi:i<a0.length):gA (arrOf st) i∈a0:=by
 have hi':i<(arrOf st).size:=by rw[h.size];exact hi
 have:gA (arrOf st) i=(arrOf st)[i]:=by unfold gA;rw[Array.getElem?_eq_getElem hi'];rfl
 rw[this];exact h.perm.mem_iff.mp (by simp)
def kA(key:Keyed->O.α) (xs:Array Keyed) (i:Nat):O.α:=key (gA xs i)
def Up(key:Keyed->O.α) (xs:Array Keyed) (lo hi:Nat):Prop:=∀i j,lo<=i->i<=j->j<hi->O.kle (kA key xs i) (kA key xs j)
def Dn(key:Keyed->O.α) (xs:Array Keyed) (lo hi:Nat):Prop:=∀i j,lo<=i->i<=j->j<hi->O.kle (kA key xs j) (kA key xs i)
def Out(lo hi:Nat) (xs ys:Array Keyed):Prop:=∀i,i<lo∨hi<=i->ys[i]?=xs[i]?
theorem Out.refl{lo hi:Nat}{xs:Array Keyed}:Out lo hi xs xs:=fun _ _=>rfl
theorem Out.trans{lo hi lo' hi':Nat}{xs ys zs:Array Keyed}(h1:Out lo hi xs ys) (h2:Out lo' hi' ys zs) (a:lo<=lo') (b:hi'<=hi):Out lo hi xs zs:=fun i hi=>(h2 i (by lia)).trans (h1 i hi)
theorem bD{xs ys:Array Keyed}{i j:Nat}(h:xs[i]?=ys[j]?):kA key xs i=kA key ys j:=by unfold kA;rw[o7 h]
theorem Up.one{xs:Array Keyed}{lo hi:Nat}(h:hi<=lo+1):Up key xs lo hi:=fun i j h1 h2 h3=>by
 obtain rfl:i=j:=by lia
 exact KeyOrd.kle_refl _
theorem Up.more{xs:Array Keyed}{lo x:Nat}(h:Up key xs lo x) (le:lo<x->O.kle (kA key xs (x-1)) (kA key xs x)):Up key xs lo (x+1):=fun i j h0 hij hj=>by
 rcases Nat.lt_or_ge j x with h1|h1
 ·exact h i j h0 hij h1
 ·obtain rfl:j=x:=by lia
  rcases Nat.lt_or_ge i j with h2|h2
  ·exact KeyOrd.kle_trans (h i (j-1) h0 (by lia) (by lia)) (le (by lia))
  ·obtain rfl:i=j:=by lia
   exact KeyOrd.kle_refl _
theorem Dn.more{xs:Array Keyed}{lo x:Nat}(h:Dn key xs lo x) (le:lo<x->O.kle (kA key xs x) (kA key xs (x-1))):Dn key xs lo (x+1):=fun i j h0 hij hj=>by
 rcases Nat.lt_or_ge j x with h1|h1
 ·exact h i j h0 hij h1
 ·obtain rfl:j=x:=by lia
  rcases Nat.lt_or_ge i j with h2|h2
  ·exact KeyOrd.kle_trans (le (by lia)) (h i (j-1) h0 (by lia) (by lia))
  ·obtain rfl:i=j:=by lia
   exact KeyOrd.kle_refl _
theorem Up.out{xs ys:Array Keyed}{lo hi a b:Nat}(h:Up key xs lo hi) (o:Out a b xs ys) (d:hi<=a∨b<=lo):Up key ys lo hi:=fun i j h1 h2 h3=>by
 rw[bD (o i (by lia)),bD (o j (by lia))];exact h i j h1 h2 h3
theorem bq{st:SortSt}{xs:Array Keyed}{i:Nat}{Q:Keyed->SortSt->Prop}(hi:i<xs.size) (h:Q (gA xs i) st):wpS (model prog w) A E s (elem' xs i) Q st:=by
 rw[elem'_eq,wM hi];exact wpS_pure h
theorem xk{st:SortSt}{x y:Keyed}{Q:Option Bool->SortSt->Prop}(hA:gI prog w A s κ key a0) (hk:kindOf st=κ) (hx:x∈a0) (hy:y∈a0) (h:Q (some (O.blt (key x) (key y))) st):wpS (model prog w) A E s (lt' x y) Q st:=by
 rw[lt'_eq];refine wpS_bind (wpS_get ?_);rw[hk];refine wpS_bind (wpS_lift (wpAny_attempt (wpAny_mono (hA x hx y hy (fun b s'=>b=O.blt (key x) (key y)/\s'=s) ⟨rfl,rfl⟩) ?_ fun _ _ z=>z.elim)));rintro b s' ⟨rfl,rfl⟩;exact⟨rfl,wpS_pure h⟩
theorem lg{st:SortSt}{i j:Nat}{Q:Option Bool->SortSt->Prop}(hA:gI prog w A s κ key a0) (hB:SB a0 κ st) (hi:i<a0.length) (hj:j<a0.length)
  (h:Q (some (O.blt (kA key (arrOf st) i) (kA key (arrOf st) j))) st):wpS (model prog w) A E s (ltAt' i j) Q st:=by
 rw[ltAt'_eq];refine wpS_bind (wpS_get (wpS_bind (bq (by rw[hB.size];exact hi) (wpS_bind (bq (by rw[hB.size];exact hj) ?_)))));exact xk hA hB.kind (hB.mem hi) (hB.mem hj) h
theorem iY{xs:Array Keyed}{i j:Nat}(hj:j<=xs.size) (k:Nat):kA key (mirror xs i j ((j-i) / 2)) k=if i<=k/\k<j then kA key xs (i+j-1-k)else kA key xs k:=by
 have e:=getElem?_mirror_all (i:=i) hj k
 by_cases h:i<=k/\k<j
 ·rw[if_pos h]at e ⊢;exact bD e
 ·rw[if_neg h]at e ⊢;exact bD e
theorem fc{xs:Array Keyed}{i j:Nat}(hj:j<=xs.size):Out i j xs (mirror xs i j ((j-i) / 2)):=fun k hk=>by
 rw[getElem?_mirror_all hj,if_neg (by lia)]
theorem tU{st:SortSt}{i j:Nat}{Q:Unit->SortSt->Prop}(hB:SB a0 κ st) (h:SB a0 κ (setArr st (mirror (arrOf st) i j ((j-i) / 2)))->Q () (setArr st (mirror (arrOf st) i j ((j-i) / 2)))):wpS (model prog w) A E s (reverseSlice' i j) Q st:=by
 rw[reverseSlice'_eq];exact wpS_modify (h (hB.arr (Array.perm_iff_toList_perm.mp (mirror_perm _ _ _ _))))
theorem fX{xs:Array Keyed}{i j:Nat}(hj:j<=xs.size) (he:∀k,i<=k->k<j->kA key xs k=kA key xs (j-1)) (k:Nat):kA key (mirror xs i j ((j-i) / 2)) k=kA key xs k:=by
 rw[iY hj]
 split
 ·rename_i h;rw[he _ (by lia) (by lia),he k h.1 h.2]
 ·rfl
theorem p0{a b:O.α}(h:O.blt a b=false):O.kle b a:=h
theorem iM{a b:O.α}(h:O.blt a b=true):O.kle a b:=KeyOrd.kle_of_klt h
def wt(lo a nrem:Nat):SM AscSt :=
 forIn [a:nrem] ((none,a):AscSt) fun _ r=>do
  match (<-ltAt' (lo+r.2) (lo+r.2-1))with
  |some smaller=>if smaller=true then pure (ForInStep.done (none,r.2))else pure (ForInStep.yield (none,r.2+1))
  |_=>pure (ForInStep.done (some none,r.2))
theorem z0{st:SortSt}{lo a nrem:Nat}{Q:AscSt->SortSt->Prop}(hA:gI prog w A s κ key a0) (hB:SB a0 κ st) (hz:lo+nrem<=a0.length) (h1:1<=a) (h2:a<=nrem) (hs:Up key (arrOf st) lo (lo+a))
  (h:∀m,a<=m->m<=nrem->Up key (arrOf st) lo (lo+m)->(m=nrem∨O.blt (kA key (arrOf st) (lo+m)) (kA key (arrOf st) (lo+m-1))=true)->Q (none,m) st):wpS (model prog w) A E s (wt lo a nrem) Q st:=by
 unfold wt;refine wpS_forRange (I:=fun i c st'=>st'=st/\c=(none,i)/\Up key (arrOf st) lo (lo+i)) ?_ ?_ ⟨rfl,rfl,hs⟩
 ·rintro i c st' ha hb ⟨rfl,rfl,hu⟩;dsimp only;refine wpS_bind (lg hA hB (by lia) (by lia) ?_);dsimp only;cases q:O.blt (kA key (arrOf st') (lo+i)) (kA key (arrOf st') (lo+i-1))with
  |true=>exact wpS_pure (h i ha (by lia) hu (.inr q))
  |false=>exact wpS_pure ⟨rfl,rfl,hu.more fun _=>p0 q⟩
 ·rintro c st' ⟨rfl,rfl,hu⟩;rw[show max a nrem=nrem by lia]at hu ⊢;exact h nrem h2 (Nat.le_refl _) hu (.inl rfl)
theorem vq{st:SortSt}{lo n nrem:Nat}{Q:Option Nat->SortSt->Prop}{f:AscSt->SM (Option Nat)}(hA:gI prog w A s κ key a0) (hB:SB a0 κ st) (hz:lo+nrem<=a0.length) (h1:1<=n) (h2:n<=nrem) (hd:Dn key (arrOf st) lo (lo+n))
  (h:∀m st',SB a0 κ st'->pendingOf st'=pendingOf st->1<=m->m<=nrem->Up key (arrOf st') lo (lo+m)->Out lo (lo+nrem) (arrOf st) (arrOf st')->wpS (model prog w) A E s (f (none,m)) Q st'):wpS (model prog w) A E s (do reverseSlice' lo (lo+n);let r <-wt lo n nrem;f r) Q st:=by
 have sz:=hB.size;refine wpS_bind (tU hB fun hB'=>wpS_bind (z0 hA hB' hz h1 h2 (fun i j a b c=>?_) fun m ha hb hu _=>?_))
 ·show O.kle (kA key (mirror _ _ _ _) _) (kA key (mirror _ _ _ _) _);rw[iY (by lia),iY (by lia),if_pos (by lia),if_pos (by lia)];exact hd _ _ (by lia) (by lia) (by lia)
 ·exact h m _ hB' rfl (by lia) hb hu fun i hi=>fc (j:=lo+n) (by lia) i (by lia)
def va(lo n nrem:Nat):SM DescSt :=
 forIn [n:nrem] ((none,n,0):DescSt) fun _ r=>do
  match (<-ltAt' (lo+r.2.1) (lo+r.2.1-1))with
  |some smaller =>
   if smaller=true then
    if r.2.2 > 0 then do
     reverseSlice' (lo+r.2.1-(r.2.2+1)) (lo+r.2.1)
     pure (ForInStep.yield (none,r.2.1+1,0))
    else pure (ForInStep.yield (none,r.2.1+1,0))
   else do
    match (<-ltAt' (lo+r.2.1-1) (lo+r.2.1))with
    |some larger =>
     if larger=true then pure (ForInStep.done (none,r.2.1,r.2.2))
     else pure (ForInStep.yield (none,r.2.1+1,r.2.2+1))
    |_=>pure (ForInStep.done (some none,r.2.1,r.2.2))
  |_=>pure (ForInStep.done (some none,r.2.1,r.2.2))
def Eg(key:Keyed->O.α) (xs:Array Keyed) (lo x q:Nat):Prop:=q+1<=x/\∀i,lo+x-(q+1)<=i->i<lo+x->kA key xs i=kA key xs (lo+x-1)
theorem AR{st:SortSt}{lo n nrem:Nat}{Q:DescSt->SortSt->Prop}(hA:gI prog w A s κ key a0) (hB:SB a0 κ st) (hz:lo+nrem<=a0.length) (h1:1<=n) (h2:n<=nrem) (hd:Dn key (arrOf st) lo (lo+n))
  (h:∀m q st',SB a0 κ st'->pendingOf st'=pendingOf st->1<=m->m<=nrem->Dn key (arrOf st') lo (lo+m)->Eg key (arrOf st') lo m q->Out lo (lo+nrem) (arrOf st) (arrOf st')->Q (none,m,q) st'):wpS (model prog w) A E s (va lo n nrem) Q st:=by
 unfold va;refine wpS_forRange (I:=fun i c st'=>∃q,c=(none,i,q)/\SB a0 κ st'/\pendingOf st'=pendingOf st/\Dn key (arrOf st') lo (lo+i)/\Eg key (arrOf st') lo i q/\Out lo (lo+nrem) (arrOf st) (arrOf st')) ?_ ?_ ⟨0,rfl,hB,rfl,hd,⟨h1,fun i a b=>by obtain rfl:i=lo+n-1:=(by lia);rfl⟩,Out.refl⟩
 ·rintro i c st' ha hb ⟨q,rfl,hB',hp,hd',hl,ho⟩;have sz:=hB'.size;dsimp only;refine wpS_bind (lg hA hB' (by lia) (by lia) ?_);dsimp only;cases e:O.blt (kA key (arrOf st') (lo+i)) (kA key (arrOf st') (lo+i-1))with
  |true =>
   simp only[if_true]
   by_cases h0:q > 0
   ·rw[if_pos h0];refine wpS_bind (tU hB' fun hB2=>wpS_pure ⟨0,rfl,hB2,hp,?_,⟨by lia,fun k a b=>by obtain rfl:k=lo+(i+1)-1:=(by lia);rfl⟩,?_⟩)
    ·have same:=fX (key:=key) (xs:=arrOf st') (i:=lo+i-(q+1)) (j:=lo+i) (by lia) (fun k a b=>hl.2 k a b);refine Dn.more (x:=lo+i) (fun k j a b c=>?_) fun _=>?_
     ·show O.kle (kA key (mirror _ _ _ _) _) (kA key (mirror _ _ _ _) _);rw[same,same];exact hd' k j a b c
     ·show O.kle (kA key (mirror _ _ _ _) _) (kA key (mirror _ _ _ _) _);rw[same,same];exact iM e
    ·exact ho.trans (fc (by lia)) (by have:=hl.1;lia) (by lia)
   ·rw[if_neg h0];exact wpS_pure ⟨0,rfl,hB',hp,Dn.more (x:=lo+i) hd' fun _=>iM e,⟨by lia,fun k a b=>by obtain rfl:k=lo+(i+1)-1:=(by lia);rfl⟩,ho⟩
  |false =>
   simp only[Bool.false_eq_true,if_false];refine wpS_bind (lg hA hB' (by lia) (by lia) ?_);dsimp only;cases e2:O.blt (kA key (arrOf st') (lo+i-1)) (kA key (arrOf st') (lo+i))with
   |true=>exact wpS_pure (h i q st' hB' hp (by lia) (by lia) hd' hl ho)
   |false =>
    simp only[Bool.false_eq_true,if_false];have eq:kA key (arrOf st') (lo+i)=kA key (arrOf st') (lo+i-1):=O.total _ _ e e2;refine wpS_pure ⟨q+1,rfl,hB',hp,Dn.more (x:=lo+i) hd' fun _=>p0 e2,⟨by have:=hl.1;lia,fun k a b=>?_⟩,ho⟩;rw[show lo+(i+1)-1=lo+i by lia];rcases Nat.lt_or_ge k (lo+i)with h'|h'
    ·rw[eq];exact hl.2 k (by lia) h'
    ·obtain rfl:k=lo+i:=by lia
     rfl
 ·rintro c st' ⟨q,rfl,hB',hp,hd',hl,ho⟩;rw[show max n nrem=nrem by lia]at hd' hl ⊢;exact h nrem q st' hB' hp (by lia) (Nat.le_refl _) hd' hl ho
theorem sf{st:SortSt}{lo n nrem:Nat}{Q:Option Nat->SortSt->Prop}{f:DescSt->SM (Option Nat)}{g:AscSt->SM (Option Nat)}(hA:gI prog w A s κ key a0) (hB:SB a0 κ st) (hz:lo+nrem<=a0.length) (h2:n+1<=nrem) (hd:Dn key (arrOf st) lo (lo+(n+1)))
  (hf:∀m q,f (none,m,q)=if q > 0 then(do reverseSlice' (lo+m-(q+1)) (lo+m);reverseSlice' lo (lo+m);let r <-wt lo m nrem;g r)else(do reverseSlice' lo (lo+m);let r <-wt lo m nrem;g r))
  (h:∀m st',SB a0 κ st'->pendingOf st'=pendingOf st->1<=m->m<=nrem->Up key (arrOf st') lo (lo+m)->Out lo (lo+nrem) (arrOf st) (arrOf st')->wpS (model prog w) A E s (g (none,m)) Q st') :
  wpS (model prog w) A E s (do liftM (rule "list.sort.descending-run");let r <-va lo (n+1) nrem;f r) Q st:=by
 refine wpS_bind (wpS_lift (wpAny_rule ⟨rfl,wpS_bind (AR hA hB hz (by lia) h2 hd fun m q st' hB' hp ha hb hd' hl ho=>?_)⟩));rw[hf];have sz:=hB'.size
 by_cases h0:q > 0
 ·rw[if_pos h0];refine wpS_bind (tU hB' fun hB2=>vq hA hB2 hz ha hb (fun i j a b c=>?_) fun m' st2 a b c d e f=>h m' st2 a (b.trans hp) c d e ((ho.trans (fc (by lia)) (by have:=hl.1;lia) (by lia)).trans f (Nat.le_refl _) (Nat.le_refl _)));have same:=fX (key:=key) (xs:=arrOf st') (i:=lo+m-(q+1)) (j:=lo+m) (by lia) (fun k a b=>hl.2 k a b);show O.kle (kA key (mirror _ _ _ _) _) (kA key (mirror _ _ _ _) _);rw[same,same];exact hd' i j a b c
 ·rw[if_neg h0];exact vq hA hB' hz ha hb hd' fun m' st2 a b c d e f=>h m' st2 a (b.trans hp) c d e (ho.trans f (Nat.le_refl _) (Nat.le_refl _))
theorem zJ{st:SortSt}{lo nrem:Nat}{Q:Option Nat->SortSt->Prop}(hA:gI prog w A s κ key a0) (hB:SB a0 κ st) (hz:lo+nrem<=a0.length) (h1:1<=nrem)
  (h:∀m st',SB a0 κ st'->pendingOf st'=pendingOf st->1<=m->m<=nrem->Up key (arrOf st') lo (lo+m)->Out lo (lo+nrem) (arrOf st) (arrOf st')->Q (some m) st'):wpS (model prog w) A E s (countRun' lo nrem) Q st:=by
 have sz:=hB.size;rw[countRun'_eq];dsimp only;refine wpS_bind (z0 hA hB hz (Nat.le_refl 1) h1 (Up.one (by lia)) fun m ha hb hu hm=>?_);dsimp only
 by_cases e:m=nrem
 ·rw[if_pos (by simpa using e)];exact wpS_pure (h m st hB rfl ha hb hu Out.refl)
 ·rw[if_neg (by simpa using e)];have lt:=hm.resolve_left e
  by_cases g:m > 1
  ·rw[if_pos g];refine wpS_bind (lg hA hB (by lia) (by lia) ?_);dsimp only;cases q:O.blt (kA key (arrOf st) lo) (kA key (arrOf st) (lo+m-1))with
   |true=>exact wpS_pure (h m st hB rfl ha hb hu Out.refl)
   |false =>
    simp only[Bool.false_eq_true,if_false];have like:∀i,lo<=i->i<lo+m->kA key (arrOf st) i=kA key (arrOf st) (lo+m-1):=fun i h0 hi =>
     KeyOrd.kle_antisymm (hu i (lo+m-1) h0 (by lia) (by lia)) (KeyOrd.kle_trans (p0 q) (hu lo i (Nat.le_refl _) h0 hi))
    have same:=fX (key:=key) (xs:=arrOf st) (i:=lo) (j:=lo+m) (by lia) like;refine wpS_bind (tU hB fun hB'=>sf (n:=m) hA hB' hz (by lia) ?_ (fun m q=>rfl) ?_)
    rotate_left
    ·exact fun m' st2 a b c d e f=>wpS_pure (h m' st2 a b c d e fun i hi=>(f i hi).trans (fc (j:=lo+m) (by lia) i (by lia)))
    refine Dn.more (x:=lo+m) (fun i j a b c=>?_) fun _=>?_
    ·show O.kle (kA key (mirror _ _ _ _) _) (kA key (mirror _ _ _ _) _);rw[same,same,like i a (by lia),like j (by lia) c];exact KeyOrd.kle_refl _
    ·show O.kle (kA key (mirror _ _ _ _) _) (kA key (mirror _ _ _ _) _);rw[same,same];exact iM lt
  ·rw[if_neg g];obtain rfl:m=1:=by lia
   refine sf (n:=1) hA hB hz (by lia) (Dn.more (x:=lo+1) (fun i j a b c=>?_) fun _=>iM lt) (fun m q=>rfl) ?_
   rotate_left
   ·exact fun m' st2 a b c d e f=>wpS_pure (h m' st2 a b c d e f)
   obtain rfl:i=j:=by lia
   exact KeyOrd.kle_refl _
end
section
variable{prog:Program}{w:World}{A:Around}{E:Value->Shared->Prop}{s:Shared}{O:KeyOrd}{key:Keyed->O.α}{a0:List Keyed}{κ:SortKind}
theorem mV{xs:Array Keyed}{src d:Nat}(hs:src<xs.size) (hd:d<=src) (k:Nat):kA key (bubble xs src d) k=if k=src-d then kA key xs src else if src-d<k/\k<=src then kA key xs (k-1)else kA key xs k:=by
 have e:=getElem?_bubble hs d hd k
 by_cases h1:k=src-d
 ·rw[if_pos h1]at e ⊢;exact bD e
 ·rw[if_neg h1]at e ⊢
  by_cases h2:src-d<k/\k<=src
  ·rw[if_pos h2]at e ⊢;exact bD e
  ·rw[if_neg h2]at e ⊢;exact bD e
theorem DA{st:SortSt}{lo n ok:Nat}{Q:Bool->SortSt->Prop}(hA:gI prog w A s κ key a0) (hB:SB a0 κ st) (hz:lo+n<=a0.length) (hok:ok<=n) (hs:Up key (arrOf st) lo (lo+ok))
  (h:∀st',SB a0 κ st'->pendingOf st'=pendingOf st->Up key (arrOf st') lo (lo+n)->Out lo (lo+n) (arrOf st) (arrOf st')->Q true st'):wpS (model prog w) A E s (binarySort' lo n ok) Q st:=by
 rw[binarySort'_eq];refine wpS_bind (wpS_mono (wpS_forRange (I:=fun k c st'=>c=(none,())/\SB a0 κ st'/\pendingOf st'=pendingOf st/\Up key (arrOf st') lo (lo+min k n)/\Out lo (lo+n) (arrOf st) (arrOf st'))
  (Q:=fun c st'=>c=(none,())/\SB a0 κ st'/\pendingOf st'=pendingOf st/\Up key (arrOf st') lo (lo+n)/\Out lo (lo+n) (arrOf st) (arrOf st')) ?step ?fin ?init) ?post)
 case post =>
  intro c st' hI';refine bO fun _ bk=>?_;obtain⟨rfl,hB',hp,hs',ho⟩:=hI';refine bk ?_;clear bk;exact wpS_pure (h st' hB' hp hs' ho)
 case init =>
  refine⟨rfl,hB,rfl,fun i j h0 hij hj=>?_,Out.refl⟩
  by_cases h1:ok=0
  ·obtain rfl:i=j:=by lia
   exact KeyOrd.kle_refl _
  ·exact hs i j h0 hij (by lia)
 case fin =>
  intro c st' hI';refine bO fun _ bk=>?_;obtain⟨hc,hB',hp,hs',ho⟩:=hI';refine bk ?_;clear bk;refine⟨hc,hB',hp,?_,ho⟩
  rwa [show min (max (max ok 1) n) n=n by lia]at hs'
 case step =>
  intro k c st' hak hkn hI';refine bO fun _ bk=>?_;obtain⟨rfl,hB',hp,hs',ho⟩:=hI';refine bk ?_;clear bk;rw[show min k n=k by lia]at hs';refine wpS_bind (wpS_mono (wpS_forRange (I:=fun x c st''=>st''=st'/\∃l r,c=(none,l,r)/\l<=r/\r<=k/\r-l<=k-x /\
    (∀i,i<l->O.kle (kA key (arrOf st') (lo+i)) (kA key (arrOf st') (lo+k)))/\(∀i,r<=i->i<k->O.klt (kA key (arrOf st') (lo+k)) (kA key (arrOf st') (lo+i))))
   (Q:=fun c st'' => st'' = st' ∧ ∃ l r,c = (none,l,r) ∧ l ≤ k ∧
    (∀i,i<l->O.kle (kA key (arrOf st') (lo+i)) (kA key (arrOf st') (lo+k)))/\(∀i,l<=i->i<k->O.klt (kA key (arrOf st') (lo+k)) (kA key (arrOf st') (lo+i)))) ?istep ?ifin ?iinit) ?ipost)
  case iinit=>exact⟨rfl,0,k,rfl,by lia,by lia,by lia,fun i hi=>by lia,fun i h1 h2=>by lia⟩
  case ifin =>
   intro c st'' hI';refine bO fun _ bk=>?_;obtain⟨rfl,l,r,rfl,hlr,hrk,hm,hlo,hhi⟩:=hI';refine bk ?_;clear bk;obtain rfl:l=r:=by lia
   exact⟨rfl,l,l,rfl,hrk,hlo,hhi⟩
  case istep =>
   intro x c st'' _ hxk hI';refine bO fun _ bk=>?_;obtain⟨rfl,l,r,rfl,hlr,hrk,hm,hlo,hhi⟩:=hI';refine bk ?_;clear bk;dsimp only
   by_cases hge:l>=r
   ·rw[if_pos hge];obtain rfl:l=r:=by lia
    exact wpS_pure ⟨rfl,l,l,rfl,hrk,hlo,hhi⟩
   ·rw[if_neg hge];refine wpS_bind (lg hA hB' (by lia) (by lia) ?_);dsimp only;cases q:O.blt (kA key (arrOf st'') (lo+k)) (kA key (arrOf st'') (lo+(l+r) / 2))with
    |true=>exact wpS_pure ⟨rfl,l,(l+r) / 2,rfl,by lia,by lia,by lia,hlo,fun i h1 h2=>KeyOrd.klt_of_klt_of_kle q (hs' _ _ (by lia) (by lia) (by lia))⟩
    |false=>exact wpS_pure ⟨rfl,(l+r) / 2+1,r,rfl,by lia,by lia,by lia,fun i h1=>KeyOrd.kle_trans (hs' (lo+i) (lo+(l+r) / 2) (by lia) (by lia) (by lia)) q,hhi⟩
  case ipost =>
   intro c st'' hI';refine bO fun _ bk=>?_;obtain⟨rfl,l,r,rfl,hlk,hlo,hhi⟩:=hI';refine bk ?_;clear bk;show wpS _ _ _ _ (do moveDown' (lo+k) (lo+l);pure (ForInStep.yield (none,()))) _ _;rw[moveDown'_eq];have sz:=hB'.size;have hks:lo+k<(arrOf st'').size:=by lia
   refine wpS_bind (wpS_modify (wpS_pure ⟨rfl,hB'.arr (Array.perm_iff_toList_perm.mp (bubble_perm _ _ _)),hp,?_,?_⟩))
   ·rw[show min (k+1) n=k+1 by lia];intro i j h0 hij hj;show O.kle (kA key (bubble (arrOf st'') (lo+k) (lo+k-(lo+l))) i) (kA key (bubble (arrOf st'') (lo+k) (lo+k-(lo+l))) j);have hhi':∀i,lo+l<=i->i<lo+k->O.klt (kA key (arrOf st'') (lo+k)) (kA key (arrOf st'') i):=fun i a b=>by
     have:=hhi (i-lo) (by lia) (by lia)
     rwa [show lo+(i-lo)=i by lia]at this
    have hlo':∀i,lo<=i->i<lo+l->O.kle (kA key (arrOf st'') i) (kA key (arrOf st'') (lo+k)):=fun i a b=>by
     have:=hlo (i-lo) (by lia)
     rwa [show lo+(i-lo)=i by lia]at this
    rw[mV hks (by lia),mV hks (by lia),show lo+k-(lo+k-(lo+l))=lo+l by lia]
    repeat' split
    all_goals first
     |(exfalso;lia)
     |exact KeyOrd.kle_refl _
     |exact hlo' _ (by lia) (by lia)
     |exact KeyOrd.kle_of_klt (hhi' _ (by lia) (by lia))
     |exact hs' _ _ (by lia) (by lia) (by lia)
   ·refine ho.trans (lo':=lo) (hi':=lo+n) (fun i hi=>?_) (Nat.le_refl _) (Nat.le_refl _);show(bubble (arrOf st'') (lo+k) (lo+k-(lo+l)))[i]?=_;rw[getElem?_bubble hks _ (by lia),if_neg (by lia),if_neg (by lia)]
def zE:Bool->Keyed->Array Keyed->Nat->Nat->Nat->SM (Option Nat):=sortPriv% PySem.Builtin.gallop
def Ahd(key:Keyed->O.α) (left:Bool) (y:Keyed) (x:Keyed):Bool:=if left then O.blt (key x) (key y)else !O.blt (key y) (key x)
theorem sN{left:Bool}{y:Keyed}{arr:Array Keyed}{k:Nat}{st:SortSt}{Q:Option Bool->SortSt->Prop}(hA:gI prog w A s κ key a0) (hk:kindOf st=κ) (hy:y∈a0) (hx:gA arr k∈a0) (hz:k<arr.size) (h:Q (some (Ahd key left y (gA arr k))) st) :
  wpS (model prog w) A E s (do let x <-elem' arr k;if left=true then lt' x y else do let r <-lt' y x;pure (Option.map (fun x=>!x) r)) Q st:=by
 refine wpS_bind (bq hz ?_);unfold Ahd at h;cases left with
 |true=>exact xk hA hk hx hy h
 |false=>exact wpS_bind (xk hA hk hy hx (wpS_pure h))
theorem eS{left:Bool}{y:Keyed}{arr:Array Keyed}{base n hint:Nat}{st:SortSt}{Q:Option Nat->SortSt->Prop}(hA:gI prog w A s κ key a0) (hk:kindOf st=κ) (hy:y∈a0) (hin:∀i,i<n->gA arr (base+i)∈a0) (hz:base+n<=arr.size) (hh:hint<n)
  (mono:∀i j,i<=j->j<n->Ahd key left y (gA arr (base+j))=true->Ahd key left y (gA arr (base+i))=true)
  (h:∀k,k<=n->(∀i,i<k->Ahd key left y (gA arr (base+i))=true)->(∀i,k<=i->i<n->Ahd key left y (gA arr (base+i))=false)->Q (some k) st):wpS (model prog w) A E s (zE left y arr base n hint) Q st:=by
 have nm:∀i j,i<=j->j<n->Ahd key left y (gA arr (base+i))=false->Ahd key left y (gA arr (base+j))=false:=fun i j hij hj e=>by
  cases q:Ahd key left y (gA arr (base+j))with
  |false=>rfl
  |true=>rw[mono i j hij hj q]at e;cases e
 have last:∀{f:Option (Option Nat)×Nat×Nat->SM (Option Nat)} {lo hi:Nat},(∀lo hi,f (none,lo,hi)=pure (some hi))->lo<=hi->hi<=n->(∀i,i<lo->Ahd key left y (gA arr (base+i))=true)->(∀i,hi<=i->i<n->Ahd key left y (gA arr (base+i))=false) ->
   wpS (model prog w) A E s (do
    let r <-forIn [:n] ((none,lo,hi):Option (Option Nat)×Nat×Nat) fun _ r=>if r.2.1>=r.2.2 then pure (ForInStep.done (none,r.2.1,r.2.2))else do
     let x <-(do let x <-elem' arr (base+(r.2.1+(r.2.2-r.2.1) / 2));if left=true then lt' x y else do let r <-lt' y x;pure (Option.map (fun x=>!x) r))
     match x with
     |some more=>if more=true then pure (ForInStep.yield (none,r.2.1+(r.2.2-r.2.1) / 2+1,r.2.2))else pure (ForInStep.yield (none,r.2.1,r.2.1+(r.2.2-r.2.1) / 2))
     |x=>pure (ForInStep.done (some none,r.2.1,r.2.2))
    f r) Q st:=by
  intro f lo hi hf h1 h2 h3 h4;refine wpS_bind (wpS_mono (wpS_forRange (I:=fun x c st'=>st'=st/\∃lo hi,c=(none,lo,hi)/\lo<=hi/\hi<=n/\hi-lo<=n-x/\(∀i,i<lo->Ahd key left y (gA arr (base+i))=true)/\(∀i,hi<=i->i<n->Ahd key left y (gA arr (base+i))=false))
   (Q:=fun c st'=>st'=st/\∃lo hi,c=(none,lo,hi)/\lo=hi/\hi<=n/\(∀i,i<lo->Ahd key left y (gA arr (base+i))=true)/\(∀i,hi<=i->i<n->Ahd key left y (gA arr (base+i))=false)) ?_ ?_ ⟨rfl,lo,hi,rfl,h1,h2,by lia,h3,h4⟩) ?_)
  ·intro x c st' _ hx hI';refine bO fun _ bk=>?_;obtain⟨rfl,lo,hi,rfl,g1,g2,g3,g4,g5⟩:=hI';refine bk ?_;clear bk;dsimp only
   by_cases hge:lo>=hi
   ·rw[if_pos hge];exact wpS_pure ⟨rfl,lo,hi,rfl,by lia,g2,g4,g5⟩
   ·rw[if_neg hge];refine wpS_bind (sN hA hk hy (hin _ (by lia)) (by lia) ?_);dsimp only;cases q:Ahd key left y (gA arr (base+(lo+(hi-lo) / 2)))with
    |true=>exact wpS_pure ⟨rfl,_,_,rfl,by lia,g2,by lia,fun i hi'=>mono i _ (by lia) (by lia) q,g5⟩
    |false=>exact wpS_pure ⟨rfl,_,_,rfl,by lia,by lia,by lia,g4,fun i a b=>nm _ i a b q⟩
  ·intro c st' hI';refine bO fun _ bk=>?_;obtain⟨rfl,lo,hi,rfl,g1,g2,g3,g4,g5⟩:=hI';refine bk ?_;clear bk;exact⟨rfl,lo,hi,rfl,by lia,g2,g4,g5⟩
  ·intro c st' hI';refine bO fun _ bk=>?_;obtain⟨rfl,lo,hi,rfl,rfl,g2,g4,g5⟩:=hI';refine bk ?_;clear bk;rw[hf];exact wpS_pure (h _ g2 g4 g5)
 show wpS _ _ _ _ (Bind.bind _ _) _ _;refine wpS_bind (sN hA hk hy (hin _ hh) (by lia) ?_);dsimp only;cases q:Ahd key left y (gA arr (base+hint))with
 |true =>
  simp only[if_true];refine wpS_bind (wpS_mono (wpS_forRange (I:=fun x c st'=>st'=st/\∃l o,c=(none,l,o)/\x+1<=o/\l<o/\l<n-hint/\Ahd key left y (gA arr (base+(hint+l)))=true)
   (Q:=fun c st'=>st'=st/\∃l o,c=(none,l,o)/\l<o/\l<n-hint/\Ahd key left y (gA arr (base+(hint+l)))=true/\(n-hint<=o∨o<n-hint/\Ahd key left y (gA arr (base+(hint+o)))=false)) ?_ ?_ ⟨rfl,0,1,rfl,by lia,by lia,by lia,q⟩) ?_)
  ·intro x c st' _ hx hI';refine bO fun _ bk=>?_;obtain⟨rfl,l,o,rfl,g1,g2,g3,g4⟩:=hI';refine bk ?_;clear bk;dsimp only
   by_cases hge:o>=n-hint
   ·rw[if_pos hge];exact wpS_pure ⟨rfl,l,o,rfl,g2,g3,g4,.inl hge⟩
   ·rw[if_neg hge];refine wpS_bind (sN hA hk hy (hin _ (by lia)) (by lia) ?_);dsimp only;cases q:Ahd key left y (gA arr (base+(hint+o)))with
    |true=>exact wpS_pure ⟨rfl,_,_,rfl,by lia,by lia,by lia,q⟩
    |false=>exact wpS_pure ⟨rfl,_,_,rfl,g2,g3,g4,.inr ⟨by lia,q⟩⟩
  ·intro c st' hI';refine bO fun _ bk=>?_;obtain⟨rfl,l,o,rfl,g1,g2,g3,g4⟩:=hI';refine bk ?_;clear bk;exact⟨rfl,l,o,rfl,g2,g3,g4,.inl (by lia)⟩
  ·intro c st' hI';refine bO fun _ bk=>?_;obtain⟨rfl,l,o,rfl,g2,g3,g4,g5⟩:=hI';refine bk ?_;clear bk;dsimp only;refine last (fun _ _=>rfl) (by lia) (by lia) (fun i hi=>mono i (hint+l) (by lia) (by lia) g4) fun i a b=>?_;rcases g5 with g5|⟨g5,g6⟩
   ·lia
   ·exact nm _ i (by lia) b g6
 |false =>
  simp only[Bool.false_eq_true,if_false];refine wpS_bind (wpS_mono (wpS_forRange (I:=fun x c st'=>st'=st/\∃l o,c=(none,l,o)/\x+1<=o/\l<o/\l<hint+1/\Ahd key left y (gA arr (base+(hint-l)))=false)
   (Q:=fun c st'=>st'=st/\∃l o,c=(none,l,o)/\l<o/\l<hint+1/\Ahd key left y (gA arr (base+(hint-l)))=false/\(hint+1<=o∨o<hint+1/\Ahd key left y (gA arr (base+(hint-o)))=true)) ?_ ?_ ⟨rfl,0,1,rfl,by lia,by lia,by lia,q⟩) ?_)
  ·intro x c st' _ hx hI';refine bO fun _ bk=>?_;obtain⟨rfl,l,o,rfl,g1,g2,g3,g4⟩:=hI';refine bk ?_;clear bk;dsimp only
   by_cases hge:o>=hint+1
   ·rw[if_pos hge];exact wpS_pure ⟨rfl,l,o,rfl,g2,g3,g4,.inl hge⟩
   ·rw[if_neg hge];refine wpS_bind (sN hA hk hy (hin _ (by lia)) (by lia) ?_);dsimp only;cases q:Ahd key left y (gA arr (base+(hint-o)))with
    |false=>exact wpS_pure ⟨rfl,_,_,rfl,by lia,by lia,by lia,q⟩
    |true=>exact wpS_pure ⟨rfl,_,_,rfl,g2,g3,g4,.inr ⟨by lia,q⟩⟩
  ·intro c st' hI';refine bO fun _ bk=>?_;obtain⟨rfl,l,o,rfl,g1,g2,g3,g4⟩:=hI';refine bk ?_;clear bk;exact⟨rfl,l,o,rfl,g2,g3,g4,.inl (by lia)⟩
  ·intro c st' hI';refine bO fun _ bk=>?_;obtain⟨rfl,l,o,rfl,g2,g3,g4,g5⟩:=hI';refine bk ?_;clear bk;dsimp only;refine last (fun _ _=>rfl) (by lia) (by lia) (fun i hi=>?_) fun i a b=>nm (hint-l) i (by lia) b g4;rcases g5 with g5|⟨g5,g6⟩
   ·lia
   ·exact mono i _ (by lia) (by lia) g6
end
structure MS(R:Keyed->Keyed->Prop) (tot out ra rb:List Keyed):Prop where
 perm:(out++(ra++rb)).Perm tot
 so:out.Pairwise R
 la:∀z∈out,∀x∈ra,R z x
 lb:∀z∈out,∀x∈rb,R z x
 sa:ra.Pairwise R
 sb:rb.Pairwise R
theorem MS.swap{R:Keyed->Keyed->Prop}{tot out ra rb:List Keyed}(h:MS R tot out ra rb):MS R tot out rb ra :=
 ⟨(List.Perm.append_left _ List.perm_append_comm).trans h.perm,h.so,h.lb,h.la,h.sb,h.sa⟩
theorem MS.take{R:Keyed->Keyed->Prop}{tot out c ra rb:List Keyed}(h:MS R tot out (c++ra) rb) (k:∀x∈c,∀y∈rb,R x y):MS R tot (out++c) ra rb:=by
 have sa:=List.pairwise_append.mp h.sa;refine⟨by simpa using h.perm,List.pairwise_append.mpr ⟨h.so,sa.1,fun z hz x hx=>h.la z hz x (by simp[hx])⟩,fun z hz x hx=>?_,fun z hz y hy=>?_,sa.2.1,h.sb⟩
 ·rcases List.mem_append.mp hz with hz|hz
  ·exact h.la z hz x (by simp[hx])
  ·exact sa.2.2 z hz x hx
 ·rcases List.mem_append.mp hz with hz|hz
  ·exact h.lb z hz y hy
  ·exact k z hz y hy
def Fn(R:Keyed->Keyed->Prop) (tot r:List Keyed):Prop:=r.Perm tot/\r.Pairwise R
theorem MS.fin{R:Keyed->Keyed->Prop}{tot out ra rb:List Keyed}(h:MS R tot out ra rb) (k:∀x∈ra,∀y∈rb,R x y):Fn R tot (out++ra++rb):=by
 refine⟨by simpa using h.perm,List.pairwise_append.mpr ⟨List.pairwise_append.mpr ⟨h.so,h.sa,h.la⟩,h.sb,fun z hz y hy=>?_⟩⟩;rcases List.mem_append.mp hz with hz|hz
 ·exact h.lb z hz y hy
 ·exact k z hz y hy
theorem cq{a:Array Keyed}{i:Nat}(h:i<a.size):a.toList[i]?=some (gA a i):=by rw[Array.getElem?_toList,wM h]
theorem zp{a:Array Keyed}{i:Nat}(h:i<a.size):a.toList.drop i=gA a i::a.toList.drop (i+1):=by
 have h':i<a.toList.length:=by simpa using h
 rw[List.drop_eq_getElem_cons h'];have:=cq h;rw[List.getElem?_eq_getElem h']at this;rw[Option.some.inj this]
theorem dF{a:Array Keyed}{i:Nat}{x:Keyed}(h:x∈a.toList.drop i):∃j,i<=j/\j<a.size/\x=gA a j:=by
 obtain⟨j,e⟩:=List.mem_iff_getElem?.mp h;have hj:=(List.getElem?_eq_some_iff.mp e).1;rw[List.getElem?_drop]at e;have lt:i+j<a.size:=by simpa using(List.getElem?_eq_some_iff.mp e).1
 rw[cq lt]at e;exact⟨i+j,by lia,lt,(Option.some.inj e).symm⟩
theorem fW{a:Array Keyed}{i k:Nat}(h:i+k<=a.size):a.toList.drop i=(a.extract i (i+k)).toList++a.toList.drop (i+k):=by
 rw[Array.toList_extract,List.extract_eq_take_drop,show i+k-i=k by lia,<-List.drop_drop,List.take_append_drop]
theorem eW{a:Array Keyed}{i j:Nat}{x:Keyed}(hj:j<=a.size) (h:x∈(a.extract i j).toList):∃k,i<=k/\k<j/\x=gA a k:=by
 rw[Array.toList_extract,List.extract_eq_take_drop]at h;obtain⟨k,e⟩:=List.mem_iff_getElem?.mp h;have hk:=(List.getElem?_eq_some_iff.mp e).1;rw[List.length_take,List.length_drop]at hk;rw[List.getElem?_take_of_lt (by lia),List.getElem?_drop]at e;rw[cq (by lia)]at e;exact⟨i+k,by lia,by lia,(Option.some.inj e).symm⟩
section
variable{prog:Program}{w:World}{A:Around}{E:Value->Shared->Prop}{s:Shared}{O:KeyOrd}{key:Keyed->O.α}{a0:List Keyed}{κ:SortKind}
def kl(key:Keyed->O.α) (x y:Keyed):Prop:=O.kle (key x) (key y)
def ML(key:Keyed->O.α) (a b out:Array Keyed) (ia ib:Nat):Prop:=MS (kl key) (a.toList++b.toList) out.toList (a.toList.drop ia) (b.toList.drop ib)
abbrev FL(key:Keyed->O.α) (a b r:Array Keyed):Prop:=Fn (kl key) (a.toList++b.toList) r.toList
variable{a b out:Array Keyed}{ia ib k:Nat}
theorem ML.ua(h:ML key a b out ia ib) {i j:Nat}(h1:ia<=i) (h2:i<=j) (h3:j<a.size):kl key (gA a i) (gA a j):=by
 rcases Nat.lt_or_ge i j with lt|ge
 ·have:=List.pairwise_iff_getElem.mp h.sa (i-ia) (j-ia) (by simp;lia) (by simp;lia) (by lia);rw[List.getElem_drop,List.getElem_drop]at this;have e1:=cq (a:=a) (i:=i) (by lia);have e2:=cq (a:=a) (i:=j) h3;rw[List.getElem?_eq_getElem (by simp;lia)]at e1 e2;rw[<-Option.some.inj e1,<-Option.some.inj e2];simpa[show ia+(i-ia)=i by lia,show ia+(j-ia)=j by lia]using this
 ·obtain rfl:i=j:=by lia
  exact KeyOrd.kle_refl _
theorem ML.ub(h:ML key a b out ia ib) {i j:Nat}(h1:ib<=i) (h2:i<=j) (h3:j<b.size):kl key (gA b i) (gA b j):=by
 rcases Nat.lt_or_ge i j with lt|ge
 ·have:=List.pairwise_iff_getElem.mp h.sb (i-ib) (j-ib) (by simp;lia) (by simp;lia) (by lia);rw[List.getElem_drop,List.getElem_drop]at this;have e1:=cq (a:=b) (i:=i) (by lia);have e2:=cq (a:=b) (i:=j) h3;rw[List.getElem?_eq_getElem (by simp;lia)]at e1 e2;rw[<-Option.some.inj e1,<-Option.some.inj e2];simpa[show ib+(i-ib)=i by lia,show ib+(j-ib)=j by lia]using this
 ·obtain rfl:i=j:=by lia
  exact KeyOrd.kle_refl _
theorem ML.chA(h:ML key a b out ia ib) (hk:ia+k<=a.size) (q:ib<b.size->∀i,ia<=i->i<ia+k->kl key (gA a i) (gA b ib)):ML key a b (out++a.extract ia (ia+k)) (ia+k) ib:=by
 have h':=h;unfold ML at h' ⊢;rw[fW hk]at h';rw[Array.toList_append];refine h'.take fun x hx y hy=>?_;obtain⟨i,i1,i2,rfl⟩:=eW hk hx;obtain⟨j,j1,j2,rfl⟩:=dF hy;exact KeyOrd.kle_trans (q (by lia) i i1 i2) (h.ub (Nat.le_refl _) j1 j2)
theorem ML.chB(h:ML key a b out ia ib) (hk:ib+k<=b.size) (q:ia<a.size->∀i,ib<=i->i<ib+k->kl key (gA b i) (gA a ia)):ML key a b (out++b.extract ib (ib+k)) ia (ib+k):=by
 have h':=h.swap;unfold ML at h ⊢;rw[fW hk]at h';rw[Array.toList_append];refine(h'.take fun x hx y hy=>?_).swap;obtain⟨i,i1,i2,rfl⟩:=eW hk hx;obtain⟨j,j1,j2,rfl⟩:=dF hy;exact KeyOrd.kle_trans (q (by lia) i i1 i2) (ML.ua h (Nat.le_refl _) j1 j2)
theorem oC{a:Array Keyed}{i:Nat}(h:i<a.size):out++a.extract i (i+1)=out.push (gA a i):=by
 apply Array.toList_inj.mp;have:=fW (a:=a) (i:=i) (k:=1) (by lia);rw[zp h]at this;rw[Array.toList_append,Array.toList_push];congr 1;have e:(a.extract i (i+1)).toList.length=1:=by simp;lia
 obtain⟨z,q⟩:=List.length_eq_one_iff.mp e;rw[q]at this ⊢;simp at this;rw[this]
theorem ML.puA(h:ML key a b out ia ib) (hk:ia<a.size) (q:ib<b.size->kl key (gA a ia) (gA b ib)):ML key a b (out.push (gA a ia)) (ia+1) ib:=by
 rw[<-oC hk];exact h.chA hk fun hb i h1 h2=>by obtain rfl:i=ia:=(by lia);exact q hb
theorem ML.puB(h:ML key a b out ia ib) (hk:ib<b.size) (q:ia<a.size->kl key (gA b ib) (gA a ia)):ML key a b (out.push (gA b ib)) ia (ib+1):=by
 rw[<-oC hk];exact h.chB hk fun hb i h1 h2=>by obtain rfl:i=ib:=(by lia);exact q hb
theorem j6{a:Array Keyed}{i:Nat}:(a.extract i a.size).toList=a.toList.drop i:=by
 rw[Array.toList_extract,List.extract_eq_take_drop,List.take_of_length_le (by simp)]
theorem ML.done(h:ML key a b out ia ib) (e:ib=b.size∨ia=a.size):FL key a b (out++a.extract ia a.size++b.extract ib b.size):=by
 unfold FL;rw[Array.toList_append,Array.toList_append,j6,j6];refine h.fin fun x hx y hy=>?_;obtain⟨i,i1,i2,rfl⟩:=dF hx;obtain⟨j,j1,j2,rfl⟩:=dF hy
 lia
theorem ML.lastA(h:ML key a b out ia ib) (e:ia+1=a.size) (hl:∀j,j<b.size->kl key (gA b j) (gA a (a.size-1))):FL key a b (out++b.extract ib b.size++a.extract ia a.size):=by
 unfold FL;rw[Array.toList_append,Array.toList_append,j6,j6];refine h.swap.fin fun x hx y hy=>?_;obtain⟨i,i1,i2,rfl⟩:=dF hy;obtain⟨j,j1,j2,rfl⟩:=dF hx;obtain rfl:i=a.size-1:=by lia
 exact hl j j2
end
section
variable{prog:Program}{w:World}{A:Around}{E:Value->Shared->Prop}{s:Shared}{O:KeyOrd}{key:Keyed->O.α}{a0:List Keyed}{κ:SortKind}{a b out:Array Keyed}{ia ib k:Nat}
structure Sg(st st':SortSt):Prop where
 k:kindOf st'=kindOf st
 a:arrOf st'=arrOf st
 p:pendingOf st'=pendingOf st
 f:failedOf st'=failedOf st
theorem iF{x y:Keyed}:Ahd key false y x=true↔kl key x y:=by simp[Ahd,kl,KeyOrd.kle]
theorem rD{x y:Keyed}:Ahd key false y x=false↔O.blt (key y) (key x)=true:=by simp[Ahd]
theorem iz{x y:Keyed}:Ahd key true y x=true↔O.klt (key x) (key y):=by simp[Ahd,KeyOrd.klt]
theorem qM{x y:Keyed}:Ahd key true y x=false↔kl key y x:=by simp[Ahd,kl,KeyOrd.kle]
def xw:Array Keyed->Array Keyed->SM (Array Keyed):=sortPriv% PySem.Builtin.mergeLo
theorem Da{st:SortSt}{Q:Array Keyed->SortSt->Prop}(hA:gI prog w A s κ key a0) (hk:kindOf st=κ) (ha:∀i,i<a.size->gA a i∈a0) (hb:∀i,i<b.size->gA b i∈a0) (za:1<=a.size) (zb:1<=b.size)
  (h0:ML key a b #[] 0 0) (hf:kl key (gA b 0) (gA a 0)) (hl:∀j,j<b.size->kl key (gA b j) (gA a (a.size-1))) (h:∀r st',Sg st st'->FL key a b r->Q r st'):wpS (model prog w) A E s (xw a b) Q st:=by
 refine wpS_bind (wpS_lift (wpAny_rule ⟨rfl,?_⟩));dsimp only;refine wpS_bind (bq (by lia) ?_);have h1:ML key a b #[gA b 0] 0 1:=h0.puB zb fun _=>hf
 by_cases e1:1=b.size
 ·first|refine bJ (by simpa using e1) ?_|rw[if_pos (by simpa using e1)]
  exact wpS_pure (h _ _ ⟨rfl,rfl,rfl,rfl⟩ (h1.done (.inl e1)))
 ·first|refine bK (by simpa using e1) ?_|rw[if_neg (by simpa using e1)]
  by_cases e2:0+1=a.size
  ·first|refine bJ (by simpa using e2) ?_|rw[if_pos (by simpa using e2)]
   exact wpS_pure (h _ _ ⟨rfl,rfl,rfl,rfl⟩ (h1.lastA e2 hl))
  ·first|refine bK (by simpa using e2) ?_|rw[if_neg (by simpa using e2)]
   refine wpS_bind (wpS_get ?_);refine wpS_bind (wpS_mono (wpS_forRange (I:=fun x c st'=>Sg st st'/\∃out ia ib g,c=(none,out,ia,ib,g)/\ML key a b out ia ib/\ia+1<a.size/\ib<b.size/\x<=ia+ib)
    (Q:=fun c st'=>Sg st st'/\∃r c',c=(some r,c')/\FL key a b r) ?_ ?_ ⟨⟨rfl,rfl,rfl,rfl⟩,_,_,_,_,rfl,h1,by lia,by lia,by lia⟩) ?_)
   ·intro x c st1 _ hx hI';refine bO fun _ bk=>?_;obtain⟨sg,out,ia,ib,g,rfl,m,la,lb,pr⟩:=hI';refine bk ?_;clear bk;dsimp only;refine wpS_bind (wpS_mono (wpS_forRange (I:=fun y c st'=>Sg st st'/\∃out ia ib ac bc,c=(none,out,ia,ib,ac,bc)/\ML key a b out ia ib/\ia+1<a.size/\ib<b.size/\x+min y 1<=ia+ib)
     (Q:=fun c st'=>Sg st st'/\((∃r c',c=(some r,c')/\FL key a b r)∨∃out ia ib ac bc,c=(none,out,ia,ib,ac,bc)/\ML key a b out ia ib/\ia+1<a.size/\ib<b.size/\x+1<=ia+ib)) ?_ ?_ ⟨sg,_,_,_,_,_,rfl,m,la,lb,by lia⟩) ?_)
    ·intro y c st2 _ hy hI';refine bO fun _ bk=>?_;obtain⟨sg,out,ia,ib,ac,bc,rfl,m,la,lb,pr⟩:=hI';refine bk ?_;clear bk;dsimp only;refine wpS_bind (bq lb (wpS_bind (bq (by lia) (wpS_bind (xk hA (sg.k.trans hk) (hb ib lb) (ha ia (by lia)) ?_)))));dsimp only;cases q:O.blt (key (gA b ib)) (key (gA a ia))with
     |true =>
      simp only[if_true];have m':=m.puB lb fun _=>iM q;refine wpS_bind (bq lb ?_)
      by_cases e:ib+1=b.size
      ·first|refine bJ (by simpa using e) ?_|rw[if_pos (by simpa using e)]
       exact wpS_pure ⟨sg,.inl ⟨_,_,rfl,m'.done (.inl e)⟩⟩
      ·first|refine bK (by simpa using e) ?_|rw[if_neg (by simpa using e)]
       split
       ·exact wpS_pure ⟨sg,.inr ⟨_,_,_,_,_,rfl,m',la,by lia,by lia⟩⟩
       ·exact wpS_pure ⟨sg,_,_,_,_,_,rfl,m',la,by lia,by lia⟩
     |false =>
      simp only[Bool.false_eq_true,if_false];have m':=m.puA (by lia) fun _=>p0 q;refine wpS_bind (bq (by lia) ?_)
      by_cases e:ia+1+1=a.size
      ·first|refine bJ (by simpa using e) ?_|rw[if_pos (by simpa using e)]
       exact wpS_pure ⟨sg,.inl ⟨_,_,rfl,m'.lastA e hl⟩⟩
      ·first|refine bK (by simpa using e) ?_|rw[if_neg (by simpa using e)]
       split
       ·exact wpS_pure ⟨sg,.inr ⟨_,_,_,_,_,rfl,m',by lia,lb,by lia⟩⟩
       ·exact wpS_pure ⟨sg,_,_,_,_,_,rfl,m',by lia,lb,by lia⟩
    ·intro c st2 hI';refine bO fun _ bk=>?_;obtain⟨sg,out,ia,ib,ac,bc,rfl,m,la,lb,pr⟩:=hI';refine bk ?_;clear bk;exact⟨sg,.inr ⟨_,_,_,_,_,rfl,m,la,lb,by lia⟩⟩
    ·rintro c st2 ⟨sg,⟨r,c',rfl,fl⟩|⟨out,ia,ib,ac,bc,rfl,m,la,lb,pr⟩⟩
     ·exact wpS_pure ⟨sg,r,_,rfl,fl⟩
     ·dsimp only;refine wpS_bind (wpS_lift (wpAny_rule ⟨rfl,?_⟩));refine wpS_bind (wpS_mono (wpS_forRange (I:=fun y c st'=>Sg st st'/\∃out ia ib mg ac bc,c=(none,out,ia,ib,mg,ac,bc)/\ML key a b out ia ib/\ia+1<a.size/\ib<b.size/\x+1<=ia+ib)
       (Q:=fun c st'=>Sg st st'/\((∃r c',c=(some r,c')/\FL key a b r)∨∃out ia ib mg ac bc,c=(none,out,ia,ib,mg,ac,bc)/\ML key a b out ia ib/\ia+1<a.size/\ib<b.size/\x+1<=ia+ib)) ?_ ?_ ⟨sg,_,_,_,_,_,_,rfl,m,la,lb,by lia⟩) ?_)
      ·intro y c st2 _ hy hI';refine bO fun _ bk=>?_;obtain⟨sg,out,ia,ib,mg,ac,bc,rfl,m,la,lb,pr⟩:=hI';refine bk ?_;clear bk;dsimp only
       by_cases g0:mg > 1
       all_goals first|rw[if_pos g0]|rw[if_neg g0]
       all_goals
        refine wpS_bind (wpS_modify ?_);refine wpS_bind (bq lb (wpS_bind (eS hA (sg.k.trans hk) (hb ib lb) (fun i hi=>ha _ (by lia)) (by lia) (by lia) (fun i j hij hj z=>iF.mpr (KeyOrd.kle_trans (m.ua (by lia) (by lia) (by lia)) (iF.mp z))) fun k hk1 hlt hge=>?_)));have up:∀i,ia+k<=i->i<a.size->kl key (gA b ib) (gA a i):=fun i i1 i2=>by
         have:=hge (i-ia) (by lia) (by lia);rw[show ia+(i-ia)=i by lia]at this;exact iM (rD.mp this)
        dsimp only
        by_cases k0:k > 0
        all_goals first
         |
          rw[if_pos k0];have m1:=m.chA (k:=k) (by lia) fun _ i i1 i2=>by
           have:=hlt (i-ia) (by lia);rw[show ia+(i-ia)=i by lia]at this;exact iF.mp this
          by_cases e1:ia+k+1=a.size
          ·first|refine bJ (by simpa using e1) ?_|rw[if_pos (by simpa using e1)]
           exact wpS_pure ⟨⟨sg.k,sg.a,sg.p,sg.f⟩,.inl ⟨_,_,rfl,m1.lastA e1 hl⟩⟩
          first|refine bK (by simpa using e1) ?_|rw[if_neg (by simpa using e1)]
          by_cases e2:ia+k=a.size
          ·first|refine bJ (by simpa using e2) ?_|rw[if_pos (by simpa using e2)]
           exact wpS_pure ⟨⟨sg.k,sg.a,sg.p,sg.f⟩,.inl ⟨_,_,rfl,m1.done (.inr e2)⟩⟩
          first|refine bK (by simpa using e2) ?_|rw[if_neg (by simpa using e2)]
          have l1:ia+k+1<a.size:=by lia
         |
          rw[if_neg k0];obtain rfl:k=0:=by lia
          have m1:=m;have l1:=la
        all_goals
         have m2:=m1.puB lb fun z=>up _ (by lia) z;refine wpS_bind (bq lb ?_)
         by_cases e3:ib+1=b.size
         ·first|refine bJ (by simpa using e3) ?_|rw[if_pos (by simpa using e3)]
          exact wpS_pure ⟨⟨sg.k,sg.a,sg.p,sg.f⟩,.inl ⟨_,_,rfl,m2.done (.inl e3)⟩⟩
         ·first|refine bK (by simpa using e3) ?_|rw[if_neg (by simpa using e3)]
          refine wpS_bind (bq (by lia) (wpS_bind (eS hA (sg.k.trans hk) (ha _ (by lia)) (fun i hi=>hb _ (by lia)) (by lia) (by lia) (fun i j hij hj z=>iz.mpr (KeyOrd.klt_of_kle_of_klt (m.ub (by lia) (by lia) (by lia)) (iz.mp z))) fun k' hk1' hlt' hge'=>?_)));dsimp only
          by_cases k0':k' > 0
          all_goals first
           |
            rw[if_pos k0'];have m3:=m2.chB (k:=k') (by lia) fun _ i i1 i2=>by
             have:=hlt' (i-(ib+1)) (by lia);rw[show ib+1+(i-(ib+1))=i by lia]at this;exact KeyOrd.kle_of_klt (iz.mp this)
            by_cases e4:ib+1+k'=b.size
            ·first|refine bJ (by simpa using e4) ?_|rw[if_pos (by simpa using e4)]
             exact wpS_pure ⟨⟨sg.k,sg.a,sg.p,sg.f⟩,.inl ⟨_,_,rfl,m3.done (.inl e4)⟩⟩
            first|refine bK (by simpa using e4) ?_|rw[if_neg (by simpa using e4)]
            have l3:ib+1+k'<b.size:=by lia
           |
            rw[if_neg k0'];obtain rfl:k'=0:=by lia
            have m3:=m2;have l3:ib+1<b.size:=by lia
          all_goals
           have m4:=m3.puA (by lia) fun z=>qM.mp (hge' _ (Nat.le_refl _) (by lia));refine wpS_bind (bq (by lia) ?_)
           split
           ·rename_i e5;exact wpS_pure ⟨⟨sg.k,sg.a,sg.p,sg.f⟩,.inl ⟨_,_,rfl,m4.lastA (by simpa using e5) hl⟩⟩
           ·rename_i e5;simp only[beq_iff_eq]at e5
            split
            ·exact wpS_pure ⟨⟨sg.k,sg.a,sg.p,sg.f⟩,.inr ⟨_,_,_,_,_,_,rfl,m4,by lia,l3,by lia⟩⟩
            ·exact wpS_pure ⟨⟨sg.k,sg.a,sg.p,sg.f⟩,_,_,_,_,_,_,rfl,m4,by lia,l3,by lia⟩
      ·intro c st2 hI';refine bO fun _ bk=>?_;obtain⟨sg,out,ia,ib,mg,ac,bc,rfl,m,la,lb,pr⟩:=hI';refine bk ?_;clear bk;exact⟨sg,.inr ⟨_,_,_,_,_,_,rfl,m,la,lb,by lia⟩⟩
      ·rintro c st2 ⟨sg,⟨r,c',rfl,fl⟩|⟨out,ia,ib,mg,ac,bc,rfl,m,la,lb,pr⟩⟩
       ·exact wpS_pure ⟨sg,r,_,rfl,fl⟩
       ·dsimp only;refine wpS_bind (wpS_modify (wpS_pure ⟨⟨sg.k,sg.a,sg.p,sg.f⟩,_,_,_,_,rfl,m,la,lb,by lia⟩))
   ·intro c st1 hI';refine bO fun _ bk=>?_;obtain⟨sg,out,ia,ib,g,rfl,m,la,lb,pr⟩:=hI';refine bk ?_;clear bk
    lia
   ·intro c st1 hI';refine bO fun _ bk=>?_;obtain⟨sg,r,c',rfl,fl⟩:=hI';refine bk ?_;clear bk;exact wpS_pure (h r _ sg fl)
end
theorem dE{a:Array Keyed}{n:Nat}{x:Keyed}(hn:n<=a.size) (h:x∈(a.toList.take n).reverse):∃j,j<n/\x=gA a j:=by
 rw[List.mem_reverse]at h;obtain⟨j,e⟩:=List.mem_iff_getElem?.mp h;have hj:=(List.getElem?_eq_some_iff.mp e).1;rw[List.length_take]at hj;rw[List.getElem?_take_of_lt (by lia),cq (by lia)]at e;exact⟨j,by lia,(Option.some.inj e).symm⟩
theorem qv{a:Array Keyed}{c n:Nat}(h:c<=n):(a.toList.take n).reverse=(a.extract c n).reverse.toList++(a.toList.take c).reverse:=by
 rw[Array.toList_reverse,Array.toList_extract,List.extract_eq_take_drop,<-List.reverse_append];congr 1;rw[<-List.take_add,show c+(n-c)=n by lia]
section
variable{prog:Program}{w:World}{A:Around}{E:Value->Shared->Prop}{s:Shared}{O:KeyOrd}{key:Keyed->O.α}{a0:List Keyed}{κ:SortKind}{a b out:Array Keyed}{na nb c:Nat}
def MH(key:Keyed->O.α) (a b out:Array Keyed) (na nb:Nat):Prop:=MS (fun x y=>kl key y x) (a.toList++b.toList) out.toList (a.toList.take na).reverse (b.toList.take nb).reverse
theorem j9{a:Array Keyed}{n i j:Nat}(hn:n<=a.size) (h:(a.toList.take n).reverse.Pairwise fun x y=>kl key y x) (hij:i<=j) (hj:j<n):kl key (gA a i) (gA a j):=by
 rcases Nat.lt_or_ge i j with lt|ge
 ·have:=List.pairwise_iff_getElem.mp (List.pairwise_reverse.mp h) i j (by simp;lia) (by simp;lia) lt;rw[List.getElem_take,List.getElem_take]at this;have e1:=cq (a:=a) (i:=i) (by lia);have e2:=cq (a:=a) (i:=j) (by lia);rw[List.getElem?_eq_getElem (by simp;lia)]at e1 e2;rw[<-Option.some.inj e1,<-Option.some.inj e2];exact this
 ·obtain rfl:i=j:=by lia
  exact KeyOrd.kle_refl _
theorem MH.chA(h:MH key a b out na nb) (za:na<=a.size) (zb:nb<=b.size) (hc:c<=na) (q:0<nb->∀i,c<=i->i<na->kl key (gA b (nb-1)) (gA a i)):MH key a b (out++(a.extract c na).reverse) c nb:=by
 have h':=h;unfold MH at h' ⊢;rw[qv hc]at h';rw[Array.toList_append];refine h'.take fun x hx y hy=>?_;rw[Array.toList_reverse,List.mem_reverse]at hx;obtain⟨i,i1,i2,rfl⟩:=eW za hx;obtain⟨j,j1,rfl⟩:=dE zb hy;exact KeyOrd.kle_trans (j9 zb h.sb (i:=j) (j:=nb-1) (by lia) (by lia)) (q (by lia) i i1 i2)
theorem MH.chB(h:MH key a b out na nb) (za:na<=a.size) (zb:nb<=b.size) (hc:c<=nb) (q:0<na->∀i,c<=i->i<nb->kl key (gA a (na-1)) (gA b i)):MH key a b (out++(b.extract c nb).reverse) na c:=by
 have h':=h.swap;unfold MH at h ⊢;rw[qv hc]at h';rw[Array.toList_append];refine(h'.take fun x hx y hy=>?_).swap;rw[Array.toList_reverse,List.mem_reverse]at hx;obtain⟨i,i1,i2,rfl⟩:=eW zb hx;obtain⟨j,j1,rfl⟩:=dE za hy;exact KeyOrd.kle_trans (j9 za h.sa (i:=j) (j:=na-1) (by lia) (by lia)) (q (by lia) i i1 i2)
theorem p7{a:Array Keyed}{n:Nat}(h1:1<=n) (h:n<=a.size):out++(a.extract (n-1) n).reverse=out.push (gA a (n-1)):=by
 have:=oC (out:=#[]) (a:=a) (i:=n-1) (by lia);rw[show n-1+1=n by lia,Array.empty_append]at this;rw[this];simp
theorem MH.puA(h:MH key a b out na nb) (h1:1<=na) (za:na<=a.size) (zb:nb<=b.size) (q:0<nb->kl key (gA b (nb-1)) (gA a (na-1))):MH key a b (out.push (gA a (na-1))) (na-1) nb:=by
 rw[<-p7 h1 za];exact h.chA za zb (by lia) fun hb i i1 i2=>by obtain rfl:i=na-1:=(by lia);exact q hb
theorem MH.puB(h:MH key a b out na nb) (h1:1<=nb) (za:na<=a.size) (zb:nb<=b.size) (q:0<na->kl key (gA a (na-1)) (gA b (nb-1))):MH key a b (out.push (gA b (nb-1))) na (nb-1):=by
 rw[<-p7 h1 zb];exact h.chB za zb (by lia) fun hb i i1 i2=>by obtain rfl:i=nb-1:=(by lia);exact q hb
theorem tH{a:Array Keyed}{n:Nat}:(a.extract 0 n).toList=a.toList.take n:=by
 rw[Array.toList_extract,List.extract_eq_take_drop,List.drop_zero,Nat.sub_zero]
theorem xA{tot r:List Keyed}(h:Fn (fun x y=>kl key y x) tot r):Fn (kl key) tot r.reverse:=⟨(List.reverse_perm r).trans h.1,List.pairwise_reverse.mpr h.2⟩
theorem MH.done(h:MH key a b out na nb) (za:na<=a.size) (zb:nb<=b.size) (e:na=0∨nb=0):FL key a b (a.extract 0 na++b.extract 0 nb++out.reverse):=by
 have:=xA (h.swap.fin fun y hy x hx=>by
  obtain⟨j,j1,rfl⟩:=dE zb hy;obtain⟨i,i1,rfl⟩:=dE za hx
  lia)
 unfold FL;rw[Array.toList_append,Array.toList_append,tH,tH,Array.toList_reverse];simpa using this
theorem MH.firstB(h:MH key a b out na nb) (za:na<=a.size) (zb:nb<=b.size) (e:nb=1) (hf:∀i,i<a.size->kl key (gA b 0) (gA a i)):FL key a b (b.extract 0 nb++a.extract 0 na++out.reverse):=by
 have:=xA (h.fin fun x hx y hy=>by
  obtain⟨j,j1,rfl⟩:=dE zb hy;obtain⟨i,i1,rfl⟩:=dE za hx;obtain rfl:j=0:=by lia
  exact hf i (by lia))
 unfold FL;rw[Array.toList_append,Array.toList_append,tH,tH,Array.toList_reverse];simpa using this
def wR:Array Keyed->Array Keyed->SM (Array Keyed):=sortPriv% PySem.Builtin.mergeHi
theorem DS{st:SortSt}{Q:Array Keyed->SortSt->Prop}(hA:gI prog w A s κ key a0) (hk:kindOf st=κ) (ha:∀i,i<a.size->gA a i∈a0) (hb:∀i,i<b.size->gA b i∈a0) (za:1<=a.size) (zb:1<=b.size)
  (h0:MH key a b #[] a.size b.size) (hf:∀i,i<a.size->kl key (gA b 0) (gA a i)) (hl:kl key (gA b (b.size-1)) (gA a (a.size-1))) (h:∀r st',Sg st st'->FL key a b r->Q r st'):wpS (model prog w) A E s (wR a b) Q st:=by
 refine wpS_bind (wpS_lift (wpAny_rule ⟨rfl,?_⟩));dsimp only;refine wpS_bind (bq (by lia) ?_);have h1:MH key a b #[gA a (a.size-1)] (a.size-1) b.size:=h0.puA za (Nat.le_refl _) (Nat.le_refl _) fun _=>hl
 by_cases e1:a.size-1=0
 ·first|refine bJ (by simpa using e1) ?_|rw[if_pos (by simpa using e1)]
  exact wpS_pure (h _ _ ⟨rfl,rfl,rfl,rfl⟩ (h1.done (by lia) (by lia) (.inl e1)))
 ·first|refine bK (by simpa using e1) ?_|rw[if_neg (by simpa using e1)]
  by_cases e2:b.size=1
  ·first|refine bJ (by simpa using e2) ?_|rw[if_pos (by simpa using e2)]
   exact wpS_pure (h _ _ ⟨rfl,rfl,rfl,rfl⟩ (h1.firstB (by lia) (by lia) e2 hf))
  ·first|refine bK (by simpa using e2) ?_|rw[if_neg (by simpa using e2)]
   refine wpS_bind (wpS_get ?_);refine wpS_bind (wpS_mono (wpS_forRange (I:=fun x c st'=>Sg st st'/\∃out na nb g,c=(none,na,nb,out,g)/\MH key a b out na nb/\1<=na/\na<=a.size/\1<nb/\nb<=b.size/\x+na+nb<=a.size+b.size)
    (Q:=fun c st'=>Sg st st'/\∃r c',c=(some r,c')/\FL key a b r) ?_ ?_ ⟨⟨rfl,rfl,rfl,rfl⟩,_,_,_,_,rfl,h1,by lia,by lia,by lia,by lia,by lia⟩) ?_)
   ·intro x c st1 _ hx hI';refine bO fun _ bk=>?_;obtain⟨sg,out,na,nb,g,rfl,m,la,ua,lb,ub,pr⟩:=hI';refine bk ?_;clear bk;dsimp only;refine wpS_bind (wpS_mono (wpS_forRange (I:=fun y c st'=>Sg st st'/\∃out na nb ac bc,c=(none,na,nb,out,ac,bc)/\MH key a b out na nb/\1<=na/\na<=a.size/\1<nb/\nb<=b.size/\x+min y 1+na+nb<=a.size+b.size)
     (Q:=fun c st'=>Sg st st'/\((∃r c',c=(some r,c')/\FL key a b r)∨∃out na nb ac bc,c=(none,na,nb,out,ac,bc)/\MH key a b out na nb/\1<=na/\na<=a.size/\1<nb/\nb<=b.size/\x+1+na+nb<=a.size+b.size)) ?_ ?_ ⟨sg,_,_,_,_,_,rfl,m,la,ua,lb,ub,by lia⟩) ?_)
    ·intro y c st2 _ hy hI';refine bO fun _ bk=>?_;obtain⟨sg,out,na,nb,ac,bc,rfl,m,la,ua,lb,ub,pr⟩:=hI';refine bk ?_;clear bk;dsimp only;refine wpS_bind (bq (by lia) (wpS_bind (bq (by lia) (wpS_bind (xk hA (sg.k.trans hk) (hb _ (by lia)) (ha _ (by lia)) ?_)))));dsimp only;cases q:O.blt (key (gA b (nb-1))) (key (gA a (na-1)))with
     |true =>
      simp only[if_true];have m':=m.puA la ua ub fun _=>iM q;refine wpS_bind (bq (by lia) ?_)
      by_cases e:na-1=0
      ·first|refine bJ (by simpa using e) ?_|rw[if_pos (by simpa using e)]
       exact wpS_pure ⟨sg,.inl ⟨_,_,rfl,m'.done (by lia) ub (.inl e)⟩⟩
      ·first|refine bK (by simpa using e) ?_|rw[if_neg (by simpa using e)]
       split
       ·exact wpS_pure ⟨sg,.inr ⟨_,_,_,_,_,rfl,m',by lia,by lia,lb,ub,by lia⟩⟩
       ·exact wpS_pure ⟨sg,_,_,_,_,_,rfl,m',by lia,by lia,lb,ub,by lia⟩
     |false =>
      simp only[Bool.false_eq_true,if_false];have m':=m.puB (by lia) ua ub fun _=>p0 q;refine wpS_bind (bq (by lia) ?_)
      by_cases e:nb-1=1
      ·first|refine bJ (by simpa using e) ?_|rw[if_pos (by simpa using e)]
       exact wpS_pure ⟨sg,.inl ⟨_,_,rfl,m'.firstB ua (by lia) e hf⟩⟩
      ·first|refine bK (by simpa using e) ?_|rw[if_neg (by simpa using e)]
       split
       ·exact wpS_pure ⟨sg,.inr ⟨_,_,_,_,_,rfl,m',la,ua,by lia,by lia,by lia⟩⟩
       ·exact wpS_pure ⟨sg,_,_,_,_,_,rfl,m',la,ua,by lia,by lia,by lia⟩
    ·intro c st2 hI';refine bO fun _ bk=>?_;obtain⟨sg,out,na,nb,ac,bc,rfl,m,la,ua,lb,ub,pr⟩:=hI';refine bk ?_;clear bk;exact⟨sg,.inr ⟨_,_,_,_,_,rfl,m,la,ua,lb,ub,by lia⟩⟩
    ·rintro c st2 ⟨sg,⟨r,c',rfl,fl⟩|⟨out,na,nb,ac,bc,rfl,m,la,ua,lb,ub,pr⟩⟩
     ·exact wpS_pure ⟨sg,r,_,rfl,fl⟩
     ·dsimp only;refine wpS_bind (wpS_lift (wpAny_rule ⟨rfl,?_⟩));refine wpS_bind (wpS_mono (wpS_forRange (I:=fun y c st'=>Sg st st'/\∃out na nb mg ac bc,c=(none,na,nb,out,mg,ac,bc)/\MH key a b out na nb/\1<=na/\na<=a.size/\1<nb/\nb<=b.size/\x+1+na+nb<=a.size+b.size)
       (Q:=fun c st'=>Sg st st'/\((∃r c',c=(some r,c')/\FL key a b r)∨∃out na nb mg ac bc,c=(none,na,nb,out,mg,ac,bc)/\MH key a b out na nb/\1<=na/\na<=a.size/\1<nb/\nb<=b.size/\x+1+na+nb<=a.size+b.size)) ?_ ?_ ⟨sg,_,_,_,_,_,_,rfl,m,la,ua,lb,ub,by lia⟩) ?_)
      ·intro y c st2 _ hy hI';refine bO fun _ bk=>?_;obtain⟨sg,out,na,nb,mg,ac,bc,rfl,m,la,ua,lb,ub,pr⟩:=hI';refine bk ?_;clear bk;dsimp only
       by_cases g0:mg > 1
       all_goals first|rw[if_pos g0]|rw[if_neg g0]
       all_goals
        refine wpS_bind (wpS_modify ?_);refine wpS_bind (bq (by lia) (wpS_bind (eS hA (sg.k.trans hk) (hb _ (by lia)) (fun i hi=>ha _ (by lia)) (by lia) (by lia) (fun i j hij hj z=>iF.mpr (KeyOrd.kle_trans (j9 ua m.sa (by lia) (by lia)) (iF.mp z))) fun c hc hlt hge=>?_)));simp only[Nat.zero_add]at hlt hge;dsimp only
        by_cases k0:na-c > 0
        all_goals first
         |
          rw[if_pos k0];have m1:=m.chA ua ub (c:=c) (by lia) fun _ i i1 i2=>iM (rD.mp (hge i i1 i2))
          by_cases e1:c=0
          ·first|refine bJ (by simpa using e1) ?_|rw[if_pos (by simpa using e1)]
           exact wpS_pure ⟨⟨sg.k,sg.a,sg.p,sg.f⟩,.inl ⟨_,_,rfl,m1.done (by lia) ub (.inl e1)⟩⟩
          first|refine bK (by simpa using e1) ?_|rw[if_neg (by simpa using e1)]
          have l1:1<=c:=by lia
          have u1:c<=a.size:=by lia
         |
          rw[if_neg k0];obtain rfl:c=na:=by lia
          have m1:=m;have l1:=la;have u1:=ua
        all_goals
         have m2:=m1.puB (by lia) u1 ub fun z=>iF.mp (hlt _ (by lia));refine wpS_bind (bq (by lia) ?_)
         by_cases e3:nb-1=1
         ·first|refine bJ (by simpa using e3) ?_|rw[if_pos (by simpa using e3)]
          exact wpS_pure ⟨⟨sg.k,sg.a,sg.p,sg.f⟩,.inl ⟨_,_,rfl,m2.firstB u1 (by lia) e3 hf⟩⟩
         ·first|refine bK (by simpa using e3) ?_|rw[if_neg (by simpa using e3)]
          refine wpS_bind (bq (by lia) (wpS_bind (eS hA (sg.k.trans hk) (ha _ (by lia)) (fun i hi=>hb _ (by lia)) (by lia) (by lia) (fun i j hij hj z=>iz.mpr (KeyOrd.klt_of_kle_of_klt (j9 ub m.sb (by lia) (by lia)) (iz.mp z))) fun c' hc' hlt' hge'=>?_)));simp only[Nat.zero_add]at hlt' hge';dsimp only
          by_cases k0':nb-1-c' > 0
          all_goals first
           |
            rw[if_pos k0'];have m3:=m2.chB u1 (by lia) (c:=c') (by lia) fun _ i i1 i2=>qM.mp (hge' i i1 i2)
            by_cases e4:c'=1
            ·first|refine bJ (by simpa using e4) ?_|rw[if_pos (by simpa using e4)]
             exact wpS_pure ⟨⟨sg.k,sg.a,sg.p,sg.f⟩,.inl ⟨_,_,rfl,m3.firstB u1 (by lia) e4 hf⟩⟩
            first|refine bK (by simpa using e4) ?_|rw[if_neg (by simpa using e4)]
            by_cases e5:c'=0
            ·first|refine bJ (by simpa using e5) ?_|rw[if_pos (by simpa using e5)]
             exact wpS_pure ⟨⟨sg.k,sg.a,sg.p,sg.f⟩,.inl ⟨_,_,rfl,m3.done u1 (by lia) (.inr e5)⟩⟩
            first|refine bK (by simpa using e5) ?_|rw[if_neg (by simpa using e5)]
            have l3:1<c':=by lia
            have u3:c'<=b.size:=by lia
           |
            rw[if_neg k0'];obtain rfl:c'=nb-1:=by lia
            have m3:=m2;have l3:1<nb-1:=by lia
            have u3:nb-1<=b.size:=by lia
          all_goals
           have m4:=m3.puA l1 u1 u3 fun z=>KeyOrd.kle_of_klt (iz.mp (hlt' _ (by lia)));refine wpS_bind (bq (by lia) ?_)
           split
           ·rename_i e5;exact wpS_pure ⟨⟨sg.k,sg.a,sg.p,sg.f⟩,.inl ⟨_,_,rfl,m4.done (by lia) u3 (.inl (by simpa using e5))⟩⟩
           ·rename_i e5;simp only[beq_iff_eq]at e5
            split
            ·exact wpS_pure ⟨⟨sg.k,sg.a,sg.p,sg.f⟩,.inr ⟨_,_,_,_,_,_,rfl,m4,by lia,by lia,l3,u3,by lia⟩⟩
            ·exact wpS_pure ⟨⟨sg.k,sg.a,sg.p,sg.f⟩,_,_,_,_,_,_,rfl,m4,by lia,by lia,l3,u3,by lia⟩
      ·intro c st2 hI';refine bO fun _ bk=>?_;obtain⟨sg,out,na,nb,mg,ac,bc,rfl,m,la,ua,lb,ub,pr⟩:=hI';refine bk ?_;clear bk;exact⟨sg,.inr ⟨_,_,_,_,_,_,rfl,m,la,ua,lb,ub,by lia⟩⟩
      ·rintro c st2 ⟨sg,⟨r,c',rfl,fl⟩|⟨out,na,nb,mg,ac,bc,rfl,m,la,ua,lb,ub,pr⟩⟩
       ·exact wpS_pure ⟨sg,r,_,rfl,fl⟩
       ·dsimp only;refine wpS_bind (wpS_modify (wpS_pure ⟨⟨sg.k,sg.a,sg.p,sg.f⟩,_,_,_,_,rfl,m,la,ua,lb,ub,by lia⟩))
   ·intro c st1 hI';refine bO fun _ bk=>?_;obtain⟨sg,out,na,nb,g,rfl,m,la,ua,lb,ub,pr⟩:=hI';refine bk ?_;clear bk
    lia
   ·intro c st1 hI';refine bO fun _ bk=>?_;obtain⟨sg,r,c',rfl,fl⟩:=hI';refine bk ?_;clear bk;exact wpS_pure (h r _ sg fl)
end
theorem yS{M:Model}{A:Around}{E:Value->Shared->Prop}{s:Shared}{σ:Type}{v:σ}{Q:PUnit->σ->Prop}{st:σ}(h:Q ⟨⟩ v):wpS M A E s (set v:StateT σ Sem PUnit) Q st:=by
 unfold wpS;rw[StateT.run_set];exact wpAny_pure ⟨rfl,h⟩
abbrev cU(base:Nat) (l:List (Keyed×Nat)) (arr:Array Keyed):Array Keyed:=l.foldl (fun a x=>match x with|(p,j)=>a.setIfInBounds (base+j) p) arr
theorem gW{base:Nat}:∀{l:List Keyed}{n0:Nat}{arr:Array Keyed},base+n0+l.length<=arr.size->(cU base (l.zipIdx n0) arr).size=arr.size/\∀i,(cU base (l.zipIdx n0) arr)[i]?=if base+n0<=i/\i<base+n0+l.length then l[i-(base+n0)]? else arr[i]?
 |[],n0,arr,_=>⟨rfl,fun i=>by rw[if_neg (by simp)];rfl⟩
 |p::l,n0,arr,h=>by
  rw[List.length_cons]at h;obtain⟨h1,h2⟩:=gW (base:=base) (l:=l) (n0:=n0+1) (arr:=arr.setIfInBounds (base+n0) p) (by simp;lia);refine⟨by rw[List.zipIdx_cons];simpa using h1,fun i=>?_⟩;rw[List.zipIdx_cons];refine(h2 i).trans ?_;rw[List.length_cons,Array.getElem?_setIfInBounds]
  by_cases a:i=base+n0
  ·subst a;rw[if_neg (by lia),if_pos rfl,if_pos (by lia),if_pos (by lia)];simp
  ·by_cases b:base+(n0+1)<=i/\i<base+(n0+1)+l.length
   ·rw[if_pos b,if_pos (by lia)];obtain⟨m,hm⟩:∃m,i-(base+n0)=m+1:=⟨i-(base+n0)-1,by lia⟩;rw[hm,List.getElem?_cons_succ,show i-(base+(n0+1))=m by lia]
   ·rw[if_neg b,if_neg (fun z=>a z.symm),if_neg (by lia)]
theorem pY{p:Nat}{l:List Keyed}{arr:Array Keyed}(h:p+l.length<=arr.size):(cU p l.zipIdx arr).toList=arr.toList.take p++(l++arr.toList.drop (p+l.length)):=by
 obtain⟨h1,h2⟩:=gW (base:=p) (l:=l) (n0:=0) (arr:=arr) (by lia);have lt:(arr.toList.take p).length=p:=by rw[List.length_take,Array.length_toList];lia
 apply List.ext_getElem?;intro i;rw[Array.getElem?_toList,h2 i,Nat.add_zero,List.getElem?_append,List.getElem?_append,lt]
 by_cases a:i<p
 ·rw[if_neg (by lia),if_pos a,List.getElem?_take_of_lt a,Array.getElem?_toList]
 ·rw[if_neg a]
  by_cases b:i<p+l.length
  ·rw[if_pos (by lia),if_pos (by lia)]
  ·rw[if_neg (by lia),if_neg (by lia),List.getElem?_drop,Array.getElem?_toList];congr 1;lia
section
variable{prog:Program}{w:World}{A:Around}{E:Value->Shared->Prop}{s:Shared}{O:KeyOrd}{key:Keyed->O.α}{a0:List Keyed}{κ:SortKind}
theorem oN{arr:Array Keyed}{i j k:Nat}(h:i+k<j) (hj:j<=arr.size):gA (arr.extract i j) k=gA arr (i+k):=by
 refine o7 ?_;rw[Array.getElem?_extract,if_pos (by lia)]
theorem Am{arr:Array Keyed}{i j:Nat}(hj:j<=arr.size) (h:Up key arr i j):(arr.extract i j).toList.Pairwise (kl key):=by
 rw[List.pairwise_iff_getElem];intro x y hx hy hxy;simp only[Array.length_toList,Array.size_extract]at hx hy;have e1:=cq (a:=arr.extract i j) (i:=x) (by simp;lia);have e2:=cq (a:=arr.extract i j) (i:=y) (by simp;lia);rw[List.getElem?_eq_getElem (by simp;lia)]at e1 e2;rw[Option.some.inj e1,Option.some.inj e2,oN (by lia) hj,oN (by lia) hj];exact h _ _ (by lia) (by lia) (by lia)
theorem Ee{st:SortSt}{i sa na pw sb nb pw2:Nat}{Q:Bool->SortSt->Prop}(hA:gI prog w A s κ key a0) (hB:SB a0 κ st) (h1:(pendingOf st)[i]?=some (sa,na,pw)) (h2:(pendingOf st)[i+1]?=some (sb,nb,pw2)) (e:sb=sa+na) (pa:1<=na) (pb:1<=nb) (hz:sb+nb<=a0.length)
  (ua:Up key (arrOf st) sa sb) (ub:Up key (arrOf st) sb (sb+nb))
  (h:∀st',SB a0 κ st'->pendingOf st'=((pendingOf st).setIfInBounds i (sa,na+nb,pw)).eraseIdxIfInBounds (i+1)->Up key (arrOf st') sa (sb+nb)->Out sa (sb+nb) (arrOf st) (arrOf st')->Q true st'):wpS (model prog w) A E s (mergeAt' i) Q st:=by
 have sz:=hB.size;show wpS _ _ _ _ (Bind.bind _ _) _ _;refine wpS_bind (wpS_get ?_);dsimp only;rw[show(sortPriv% PySem.Builtin.SortState.pending) st=pendingOf st from rfl,h1,h2];dsimp only;refine wpS_bind (yS ?_);have join:(∀i j,sa<=i->i<sb->sb<=j->j<sb+nb->O.kle (kA key (arrOf st) i) (kA key (arrOf st) j))->Up key (arrOf st) sa (sb+nb):=fun q x y h0 hxy hy=>by
  rcases Nat.lt_or_ge y sb with h3|h3
  ·exact ua x y h0 hxy h3
  ·rcases Nat.lt_or_ge x sb with h4|h4
   ·exact q x y h0 h4 h3 hy
   ·exact ub x y h4 hxy hy
 refine wpS_bind (bq (by show sb<(arrOf st).size;lia) (wpS_bind (eS hA hB.kind (hB.mem (by lia)) (fun j hj=>hB.mem (by lia)) (by show sa+na<=(arrOf st).size;lia) (by lia) (fun x y hxy hy z=>iF.mpr (KeyOrd.kle_trans (ua (sa+x) (sa+y) (by lia) (by lia) (by lia)) (iF.mp z))) fun k hk hlt hge=>?_)));have lo:∀x,sa<=x->x<sa+k->kl key (gA (arrOf st) x) (gA (arrOf st) sb):=fun x x1 x2=>by
  have:=iF.mp (hlt (x-sa) (by lia))
  rwa [show sa+(x-sa)=x by lia]at this
 have up:∀x,sa+k<=x->x<sb->kl key (gA (arrOf st) sb) (gA (arrOf st) x):=fun x x1 x2=>by
  have:=rD.mp (hge (x-sa) (by lia) (by lia));rw[show sa+(x-sa)=x by lia]at this;exact iM this
 clear hlt hge;dsimp only
 by_cases e1:na-k=0
 ·first|refine bJ (by simpa using e1) ?_|rw[if_pos (by simpa using e1)]
  exact wpS_pure (h _ ⟨hB.perm,hB.kind,hB.fail⟩ rfl (join fun x y a b c d=>KeyOrd.kle_trans (lo x a (by lia)) (ub sb y (Nat.le_refl _) c d)) Out.refl)
 ·first|refine bK (by simpa using e1) ?_|rw[if_neg (by simpa using e1)]
  have el:sa+k+(na-k)-1=sb-1:=by lia
  rw[el];refine wpS_bind (bq (by show sb-1<(arrOf st).size;lia) (wpS_bind (eS hA hB.kind (hB.mem (by lia)) (fun j hj=>hB.mem (by lia)) (by show sb+nb<=(arrOf st).size;lia) (by lia) (fun x y hxy hy z=>iz.mpr (KeyOrd.klt_of_kle_of_klt (ub (sb+x) (sb+y) (by lia) (by lia) (by lia)) (iz.mp z))) fun m hm hlt hge=>?_)));have lo2:∀x,sb<=x->x<sb+m->kl key (gA (arrOf st) x) (gA (arrOf st) (sb-1)):=fun x x1 x2=>by
   have:=iz.mp (hlt (x-sb) (by lia));rw[show sb+(x-sb)=x by lia]at this;exact KeyOrd.kle_of_klt this
  have up2:∀x,sb+m<=x->x<sb+nb->kl key (gA (arrOf st) (sb-1)) (gA (arrOf st) x):=fun x x1 x2=>by
   have:=qM.mp (hge (x-sb) (by lia) (by lia))
   rwa [show sb+(x-sb)=x by lia]at this
  clear hlt hge;dsimp only
  by_cases e2:m=0
  ·first|refine bJ (by simpa using e2) ?_|rw[if_pos (by simpa using e2)]
   exact wpS_pure (h _ ⟨hB.perm,hB.kind,hB.fail⟩ rfl (join fun x y a b c d=>KeyOrd.kle_trans (ua x (sb-1) a (by lia) (by lia)) (up2 y (by lia) d)) Out.refl)
  ·first|refine bK (by simpa using e2) ?_|rw[if_neg (by simpa using e2)]
   have zx:((arrOf st).extract (sa+k) sb).size=sb-(sa+k):=by simp;lia
   have zy:((arrOf st).extract sb (sb+m)).size=m:=by simp;lia
   have px:=Am (i:=sa+k) (j:=sb) (by lia) (fun x y a b c=>ua x y (by lia) b c:Up key (arrOf st) (sa+k) sb);have py:=Am (i:=sb) (j:=sb+m) (by lia) (fun x y a b c=>ub x y a b (by lia):Up key (arrOf st) sb (sb+m));have gx:∀j,j<sb-(sa+k)->gA ((arrOf st).extract (sa+k) sb) j=gA (arrOf st) (sa+k+j):=fun j hj=>oN (by lia) (by lia);have gy:∀j,j<m->gA ((arrOf st).extract sb (sb+m)) j=gA (arrOf st) (sb+j):=fun j hj=>oN (by lia) (by lia);have mx:∀z∈((arrOf st).extract (sa+k) sb).toList,∃x,sa+k<=x/\x<sb/\z=gA (arrOf st) x:=fun z hz'=>eW (by lia) hz';have my:∀z∈((arrOf st).extract sb (sb+m)).toList,∃x,sb<=x/\x<sb+m/\z=gA (arrOf st) x:=fun z hz'=>eW (by lia) hz';have seg:((arrOf st).extract (sa+k) sb).toList++((arrOf st).extract sb (sb+m)).toList=((arrOf st).toList.drop (sa+k)).take (sb+m-(sa+k)):=by
    have d1:=fW (a:=arrOf st) (i:=sa+k) (k:=sb-(sa+k)) (by lia);have d2:=fW (a:=arrOf st) (i:=sb) (k:=m) (by lia);rw[show sa+k+(sb-(sa+k))=sb by lia]at d1;rw[d1,d2,<-List.append_assoc,List.take_append_of_le_length (by simp;lia),List.take_of_length_le (by simp;lia)]
   have fin:∀r st',Sg (SortSt.mk' (kindOf st) (arrOf st) (((pendingOf st).setIfInBounds i (sa,na+nb,pw)).eraseIdxIfInBounds (i+1)) (gallopOf st) (failedOf st)) st'->FL key ((arrOf st).extract (sa+k) sb) ((arrOf st).extract sb (sb+m)) r ->
     Q true (setArr st' (cU (sa+k) r.toList.zipIdx (arrOf st'))):=fun r st' sg fl=>by
    have ea:arrOf st'=arrOf st:=sg.a;have lr:r.toList.length=sb+m-(sa+k):=by
     rw[fl.1.length_eq,List.length_append,Array.length_toList,Array.length_toList,zx,zy];lia
    have pl:=pY (p:=sa+k) (l:=r.toList) (arr:=arrOf st) (by lia);obtain⟨ps,pg⟩:=gW (base:=sa+k) (l:=r.toList) (n0:=0) (arr:=arrOf st) (by lia);have hi:∀x,sa+k<=x->x<sb+m->∃z,(cU (sa+k) r.toList.zipIdx (arrOf st))[x]?=some z/\r.toList[x-(sa+k)]?=some z/\(z∈((arrOf st).extract (sa+k) sb).toList∨z∈((arrOf st).extract sb (sb+m)).toList):=fun x x1 x2=>by
     have lt:x-(sa+k)<r.toList.length:=by lia
     refine⟨r.toList[x-(sa+k)],?_,List.getElem?_eq_getElem lt,List.mem_append.mp (fl.1.mem_iff.mp (List.getElem_mem lt))⟩;rw[pg x,if_pos (by lia),Nat.add_zero,List.getElem?_eq_getElem lt]
    have ho:∀x,x<sa+k∨sb+m<=x->(cU (sa+k) r.toList.zipIdx (arrOf st))[x]?=(arrOf st)[x]?:=fun x hx=>by rw[pg x,if_neg (by lia)]
    have kz:∀{x z},(cU (sa+k) r.toList.zipIdx (arrOf st))[x]?=some z->kA key (cU (sa+k) r.toList.zipIdx (arrOf st)) x=key z:=fun q=>by unfold kA gA;rw[q];rfl
    rw[ea];refine h _ ⟨?_,sg.k.trans hB.kind,sg.f.trans hB.fail⟩ sg.p (fun x y h0 hxy hy=>?_) fun x hx=>?_
    ·refine List.Perm.trans ?_ hB.perm;show(cU (sa+k) r.toList.zipIdx (arrOf st)).toList.Perm _;have dd:(arrOf st).toList=(arrOf st).toList.take (sa+k)++(((arrOf st).toList.drop (sa+k)).take (sb+m-(sa+k))++(arrOf st).toList.drop (sa+k+(sb+m-(sa+k)))):=by
      rw[show(arrOf st).toList.drop (sa+k+(sb+m-(sa+k)))=((arrOf st).toList.drop (sa+k)).drop (sb+m-(sa+k))from(List.drop_drop ..).symm,List.take_append_drop,List.take_append_drop]
     rw[pl,lr];refine List.Perm.trans ?_ (List.Perm.of_eq dd.symm);rw[<-seg];exact(List.Perm.append_left _ (List.Perm.append_right _ fl.1))
    ·show O.kle (kA key (cU (sa+k) r.toList.zipIdx (arrOf st)) x) (kA key (cU (sa+k) r.toList.zipIdx (arrOf st)) y);rcases Nat.lt_or_ge x (sa+k)with x1|x1
     ·rw[bD (ho x (.inl x1))];rcases Nat.lt_or_ge y (sa+k)with y1|y1
      ·rw[bD (ho y (.inl y1))];exact ua x y h0 hxy (by lia)
      rcases Nat.lt_or_ge y (sb+m)with y2|y2
      ·obtain⟨z,z1,z2,z3⟩:=hi y y1 y2;rw[kz z1];rcases z3 with z3|z3
       ·obtain⟨t,t1,t2,rfl⟩:=mx z z3;exact ua x t h0 (by lia) t2
       ·obtain⟨t,t1,t2,rfl⟩:=my z z3;exact KeyOrd.kle_trans (lo x h0 x1) (ub sb t (Nat.le_refl _) t1 (by lia))
      ·rw[bD (ho y (.inr y2))];exact KeyOrd.kle_trans (lo x h0 x1) (ub sb y (Nat.le_refl _) (by lia) hy)
     rcases Nat.lt_or_ge x (sb+m)with x2|x2
     ·obtain⟨z,z1,z2,z3⟩:=hi x x1 x2;rcases Nat.lt_or_ge y (sb+m)with y2|y2
      ·obtain⟨u,u1,u2,u3⟩:=hi y (by lia) y2;rw[kz z1,kz u1];rcases Nat.lt_or_ge x y with q|q
       ·have:=List.pairwise_iff_getElem.mp fl.2 (x-(sa+k)) (y-(sa+k)) (by lia) (by lia) (by lia);rw[List.getElem?_eq_getElem (by lia)]at z2 u2
        rwa [Option.some.inj z2,Option.some.inj u2]at this
       ·obtain rfl:x=y:=by lia
        rw[z1]at u1;cases u1;exact KeyOrd.kle_refl _
      ·rw[kz z1,bD (ho y (.inr y2))];rcases z3 with z3|z3
       ·obtain⟨t,t1,t2,rfl⟩:=mx z z3;exact KeyOrd.kle_trans (ua t (sb-1) (by lia) (by lia) (by lia)) (up2 y y2 hy)
       ·obtain⟨t,t1,t2,rfl⟩:=my z z3;exact ub t y t1 (by lia) hy
     ·rw[bD (ho x (.inr x2)),bD (ho y (.inr (by lia)))];exact ub x y (by lia) hxy hy
    ·exact ho x (by lia)
   have last:∀(r:Array Keyed) (st':SortSt),Sg (SortSt.mk' (kindOf st) (arrOf st) (((pendingOf st).setIfInBounds i (sa,na+nb,pw)).eraseIdxIfInBounds (i+1)) (gallopOf st) (failedOf st)) st'->failedOf st'=none:=fun r st' sg=>sg.f.trans hB.fail
   by_cases e3:na-k<=m
   all_goals first|rw[if_pos e3]|rw[if_neg e3]
   all_goals refine wpS_bind ?_
   ·refine Da (a:=(arrOf st).extract (sa+k) sb) (b:=(arrOf st).extract sb (sb+m)) hA hB.kind (fun j hj=>by rw[zx]at hj;rw[gx j hj];exact hB.mem (by lia)) (fun j hj=>by rw[zy]at hj;rw[gy j hj];exact hB.mem (by lia)) (by lia) (by lia) ⟨by simp,List.Pairwise.nil,by simp,by simp,by simpa using px,by simpa using py⟩ ?_ (fun j hj=>?_) fun r st' sg fl=>?_
    ·rw[gx 0 (by lia),gy 0 (by lia)];exact up _ (by lia) (by lia)
    ·rw[zy]at hj;rw[zx,gx _ (by lia),gy j hj];have:=lo2 (sb+j) (by lia) (by lia)
     rwa [show sa+k+(sb-(sa+k)-1)=sb-1 by lia]
    ·refine wpS_bind (wpS_modify (wpS_bind (wpS_get (wpS_pure ?_))));have:=fin r st' sg fl;rw[show(failedOf (setArr st' (cU (sa+k) r.toList.zipIdx (arrOf st')))).isNone=true by rw[show failedOf (setArr st' _)=failedOf st' from rfl,last r st' sg];rfl];exact this
   ·refine DS (a:=(arrOf st).extract (sa+k) sb) (b:=(arrOf st).extract sb (sb+m)) hA hB.kind (fun j hj=>by rw[zx]at hj;rw[gx j hj];exact hB.mem (by lia)) (fun j hj=>by rw[zy]at hj;rw[gy j hj];exact hB.mem (by lia)) (by lia) (by lia) ⟨?_,List.Pairwise.nil,by simp,by simp,?_,?_⟩ (fun j hj=>?_) ?_ fun r st' sg fl=>?_
    ·rw[List.take_of_length_le (Nat.le_of_eq Array.length_toList),List.take_of_length_le (Nat.le_of_eq Array.length_toList)];exact(List.reverse_perm _).append (List.reverse_perm _)
    ·rw[List.take_of_length_le (Nat.le_of_eq Array.length_toList)];exact List.pairwise_reverse.mpr px
    ·rw[List.take_of_length_le (Nat.le_of_eq Array.length_toList)];exact List.pairwise_reverse.mpr py
    ·rw[zx]at hj;rw[gx j hj,gy 0 (by lia)];exact up _ (by lia) (by lia)
    ·rw[zx,zy,gx _ (by lia),gy _ (by lia)];have:=lo2 (sb+(m-1)) (by lia) (by lia)
     rwa [show sa+k+(sb-(sa+k)-1)=sb-1 by lia]
    ·refine wpS_bind (wpS_modify (wpS_bind (wpS_get (wpS_pure ?_))));have:=fin r st' sg fl;rw[show(failedOf (setArr st' (cU (sa+k) r.toList.zipIdx (arrOf st')))).isNone=true by rw[show failedOf (setArr st' _)=failedOf st' from rfl,last r st' sg];rfl];exact this
end
section
variable{prog:Program}{w:World}{A:Around}{E:Value->Shared->Prop}{s:Shared}{O:KeyOrd}{key:Keyed->O.α}{a0:List Keyed}{κ:SortKind}
def Stk(key:Keyed->O.α) (xs:Array Keyed):Nat->List (Nat×Nat×Nat)->Nat->Prop
 |b,[],e=>b=e
 |b,p::br,e=>p.1=b/\1<=p.2.1/\Up key xs b (b+p.2.1)/\Stk key xs (b+p.2.1) br e
theorem Stk.app{xs:Array Keyed}:∀{p q:List (Nat×Nat×Nat)}{b e:Nat},Stk key xs b (p++q) e↔∃m,Stk key xs b p m/\Stk key xs m q e
 |[],q,b,e=>⟨fun h=>⟨b,rfl,h⟩,fun⟨m,h1,h2⟩=>by cases h1;exact h2⟩
 |x::p,q,b,e=>by
  simp only[List.cons_append,Stk,Stk.app (p:=p)];exact⟨fun⟨a,b,c,m,d,e⟩=>⟨m,⟨a,b,c,d⟩,e⟩,fun⟨m,⟨a,b,c,d⟩,e⟩=>⟨a,b,c,m,d,e⟩⟩
theorem Stk.len{xs:Array Keyed}:∀{p:List (Nat×Nat×Nat)}{b e:Nat},Stk key xs b p e->b+p.length<=e
 |[],b,e,h=>by cases h;simp
 |x::p,b,e,h=>by
  have:=h.2.2.2.len;have:=h.2.1;simp only[List.length_cons];lia
theorem Stk.out{xs ys:Array Keyed}{lo hi:Nat}(o:Out lo hi xs ys):∀{p:List (Nat×Nat×Nat)}{b e:Nat},Stk key xs b p e->e<=lo∨hi<=b->Stk key ys b p e
 |[],b,e,h,_=>h
 |x::p,b,e,h,d=>by
  have l:=h.2.2.2.len;exact⟨h.1,h.2.1,h.2.2.1.out o (by lia),h.2.2.2.out o (by lia)⟩
theorem Stk.pw{xs:Array Keyed}{b e:Nat}{p:List (Nat×Nat×Nat)}{x y:Nat×Nat×Nat}(h:Stk key xs b (p++[x]) e) (q:y.1=x.1/\y.2.1=x.2.1):Stk key xs b (p++[y]) e:=by
 rw[Stk.app]at h ⊢;obtain⟨m,h1,h2⟩:=h;refine⟨m,h1,?_⟩;simp only[Stk]at h2 ⊢;rw[q.1,q.2];exact h2
def SRt(key:Keyed->O.α) (a0:List Keyed) (κ:SortKind) (lo:Nat) (st:SortSt):Prop:=SB a0 κ st/\Stk key (arrOf st) 0 (pendingOf st).toList lo/\lo<=a0.length
theorem xl{α:Type}:∀{l:List α}{i:Nat},i+1<l.length->∃p x y q,l=p++x::y::q/\p.length=i
 |x::y::l,0,_=>⟨[],x,y,l,rfl,rfl⟩
 |x::l,i+1,h=>by
  obtain⟨p,a,b,q,e,z⟩:=xl (l:=l) (i:=i) (by simpa using h);exact⟨x::p,a,b,q,by rw[e];rfl,by simp[z]⟩
theorem vm{st:SortSt}{i lo:Nat}{Q:Bool->SortSt->Prop}(hA:gI prog w A s κ key a0) (hS:SRt key a0 κ lo st) (hi:i+1<(pendingOf st).size)
  (h:∀st',SRt key a0 κ lo st'->(pendingOf st').size+1=(pendingOf st).size->Out 0 lo (arrOf st) (arrOf st')->(pendingOf st').size=0∨True->Q true st'):wpS (model prog w) A E s (mergeAt' i) Q st:=by
 obtain⟨hB,hT,hl⟩:=hS;obtain⟨p,x,y,q,e,z⟩:=xl (l:=(pendingOf st).toList) (i:=i) (by simpa using hi);rw[e,Stk.app]at hT;obtain⟨m,t1,t2⟩:=hT;obtain⟨x1,x2,x3,y1,y2,y3,t3⟩:=t2;have l3:=t3.len;obtain⟨sa,na,pw⟩:=x;obtain⟨sb,nb,pw2⟩:=y;dsimp only at x1 x2 x3 y1 y2 y3 t3 l3;subst x1;have g1:(pendingOf st)[i]?=some (sa,na,pw):=by rw[<-Array.getElem?_toList,e,<-z];simp
 have g2:(pendingOf st)[i+1]?=some (sb,nb,pw2):=by rw[<-Array.getElem?_toList,e,<-z];simp
 refine Ee hA hB g1 g2 y1 x2 y2 (by lia) (by rw[y1];exact x3) (by rw[y1];exact y3) fun st' hB' hp hu ho=>?_;have ep:(pendingOf st').toList=p++(sa,na+nb,pw)::q:=by
  rw[hp,Array.toList_eraseIdxIfInBounds,Array.toList_setIfInBounds,e,<-z];simp[List.set_append,List.eraseIdx_append];intro z';lia
 have l1:=t1.len;refine h st' ⟨hB',?_,hl⟩ ?_ (fun j hj=>ho j (by lia)) (.inr trivial)
 ·rw[ep,Stk.app];exact⟨sa,t1.out ho (by lia),rfl,by show 1<=na+nb;lia,by show Up key _ sa (sa+(na+nb));rw[<-Nat.add_assoc,<-y1];exact hu,by show Stk key _ (sa+(na+nb)) q lo;rw[<-Nat.add_assoc];exact t3.out ho (by lia)⟩
 ·have a1:=congrArg List.length ep;have a2:=congrArg List.length e;simp only[Array.length_toList,List.length_append,List.length_cons]at a1 a2
  lia
theorem Stk.cong{xs:Array Keyed}:∀{p q:List (Nat×Nat×Nat)}{b e:Nat},p.map (fun x=>(x.1,x.2.1))=q.map (fun x=>(x.1,x.2.1))->Stk key xs b p e->Stk key xs b q e
 |[],[],_,_,_,h=>h
 |x::p,y::q,b,e,z,h=>by
  simp only[List.map_cons,List.cons.injEq,Prod.mk.injEq]at z;simp only[Stk]at h ⊢;rw[<-z.1.1,<-z.1.2];exact⟨h.1,h.2.1,h.2.2.1,h.2.2.2.cong z.2⟩
 |[],_::_,_,_,z,_=>by simp at z
 |_::_,[],_,_,z,_=>by simp at z
theorem yp{p:Array (Nat×Nat×Nat)}{i:Nat}{f:Nat×Nat×Nat->Nat×Nat×Nat}(h:∀x,(f x).1=x.1/\(f x).2.1=x.2.1):p.toList.map (fun x=>(x.1,x.2.1))=(p.modify i f).toList.map (fun x=>(x.1,x.2.1)):=by
 rw[Array.toList_modify];apply List.ext_getElem?;intro j;rw[List.getElem?_map,List.getElem?_map,List.getElem?_modify];cases p.toList[j]? with
 |none=>rfl
 |some x=>by_cases e:i=j<;>simp[e,h]
theorem SRt.push{st:SortSt}{lo n:Nat}(hS:SRt key a0 κ lo st) (h1:1<=n) (h2:lo+n<=a0.length) (hu:Up key (arrOf st) lo (lo+n)):SRt key a0 κ (lo+n) (setPending st ((pendingOf st).push (lo,n,0))):=by
 refine⟨⟨hS.1.perm,hS.1.kind,hS.1.fail⟩,?_,h2⟩;show Stk key (arrOf st) 0 ((pendingOf st).push _).toList _;rw[Array.toList_push,Stk.app];exact⟨lo,hS.2.1,rfl,h1,hu,rfl⟩
theorem Br{c:Prop} [Decidable c] {x y n:Nat}(h1:x+1<n) (h2:y+1<n):(if c then x else y)+1<n:=by split<;>assumption
theorem AK{st:SortSt}{Q:Unit->SortSt->Prop}(hA:gI prog w A s κ key a0) (hB:SB a0 κ st) (hp:pendingOf st=#[]) (h2:2<=a0.length)
  (h:∀st',SB a0 κ st'->Up key (arrOf st') 0 a0.length->Q () st'):wpS (model prog w) A E s sortRuns' Q st:=by
 rw[sortRuns'_eq];refine wpS_bind (wpS_get ?_);dsimp only;generalize minRun' (arrOf st).size (arrOf st).size 0=mr;rw[hB.size];refine wpS_bind (wpS_mono (wpS_forRange (I:=fun x c st'=>∃lo,c=(none,lo)/\SRt key a0 κ lo st'/\(x<=lo∨lo=a0.length)) (Q:=fun c st'=>c=(none,a0.length)/\SRt key a0 κ a0.length st') ?step ?fin ⟨0,rfl,⟨hB,by rw[hp];rfl,Nat.zero_le _⟩,.inl (Nat.le_refl _)⟩) ?post)
 case fin =>
  intro c st' hI';refine bO fun _ bk=>?_;obtain⟨lo,rfl,hS,q⟩:=hI';refine bk ?_;clear bk;obtain rfl:lo=a0.length:=by have:=hS.2.2;lia
  exact⟨rfl,hS⟩
 case step =>
  intro x c st' _ hx hI';refine bO fun _ bk=>?_;obtain⟨lo,rfl,hS,q⟩:=hI';refine bk ?_;clear bk;dsimp only;have hl:=hS.2.2
  by_cases e:lo>=a0.length
  ·rw[if_pos e];obtain rfl:lo=a0.length:=by lia
   exact wpS_pure ⟨rfl,hS⟩
  ·rw[if_neg e];refine wpS_bind (zJ hA hS.1 (nrem:=a0.length-lo) (by lia) (by lia) fun m st2 hB2 hp2 m1 m2 hu2 ho2=>?_);have T2:Stk key (arrOf st2) 0 (pendingOf st2).toList lo:=by rw[hp2];exact hS.2.1.out ho2 (.inl (Nat.le_refl _))
   clear ho2 hp2 hS;dsimp only;have S2:SRt key a0 κ lo st2:=⟨hB2,T2,hl⟩
   by_cases g:m<mr
   all_goals first
    |
     rw[if_pos g];refine wpS_bind (wpS_lift (wpAny_rule ⟨rfl,wpS_bind (DA hA hB2 (n:=min (a0.length-lo) mr) (by lia) (by lia) hu2 fun st3 hB3 hp3 hu3 ho3=>?_)⟩));simp only[Bool.not_true,Bool.false_eq_true,if_false];have S3:SRt key a0 κ lo st3:=⟨hB3,by rw[hp3];exact T2.out ho3 (.inl (Nat.le_refl _)),hl⟩;have n1:1<=min (a0.length-lo) mr:=by lia
     have n2:lo+min (a0.length-lo) mr<=a0.length:=by lia
     clear ho3 hp3 hB3
    |
     rw[if_neg g];have S3:=S2;have hu3:=hu2;have n1:=m1;have n2:lo+m<=a0.length:=by lia
   all_goals
    clear T2 hB2 hu2 S2;refine wpS_bind (wpS_get ?_)
    split
    ·refine wpS_bind (wpS_mono (wpS_forRange (I:=fun _ c st'=>c=(none,())/\SRt key a0 κ lo st'/\Up key (arrOf st') lo (lo+_)) (Q:=fun c st'=>c=(none,())/\SRt key a0 κ lo st'/\Up key (arrOf st') lo (lo+_)) ?_ (fun _ _ z=>z) ⟨rfl,S3,hu3⟩) ?_)
     ·intro y c st4 _ _ hI';refine bO fun _ bk=>?_;obtain⟨rfl,S4,u4⟩:=hI';refine bk ?_;clear bk;refine wpS_bind (wpS_get ?_)
      by_cases e2:(pendingOf st4).size > 1
      ·rw[if_pos e2,Array.getElem?_eq_getElem (by lia)];dsimp only
       split
       ·exact wpS_pure ⟨rfl,S4,u4⟩
       ·refine wpS_bind (vm hA S4 (by lia) fun st5 S5 _ ho _=>?_);simp only[Bool.not_true,Bool.false_eq_true,if_false];exact wpS_pure ⟨rfl,S5,u4.out ho (.inr (Nat.le_refl _))⟩
      ·rw[if_neg e2];exact wpS_pure ⟨rfl,S4,u4⟩
     ·intro c st4 hI';refine bO fun _ bk=>?_;obtain⟨rfl,S4,u4⟩:=hI';refine bk ?_;clear bk;dsimp only;refine wpS_bind (wpS_modify (wpS_bind (wpS_modify (wpS_pure ⟨_,rfl,SRt.push ⟨⟨S4.1.perm,S4.1.kind,S4.1.fail⟩,S4.2.1.cong (yp fun x=>⟨rfl,rfl⟩),hl⟩ n1 n2 u4,by lia⟩))))
    ·exact wpS_bind (wpS_modify (wpS_pure ⟨_,rfl,S3.push n1 n2 hu3,by lia⟩))
 case post =>
  rintro c st' ⟨rfl,hS⟩;dsimp only;refine wpS_bind (wpS_mono (wpS_forRange (I:=fun x c st'=>c=(none,())/\SRt key a0 κ a0.length st'/\((pendingOf st').size+x<=a0.length∨(pendingOf st').size<=1)) (Q:=fun c st'=>c=(none,())/\SRt key a0 κ a0.length st'/\(pendingOf st').size<=1) ?_ ?_ ⟨rfl,hS,.inl ?_⟩) ?_)
  ·intro x c st2 _ hx hI';refine bO fun _ bk=>?_;obtain⟨rfl,S2,q⟩:=hI';refine bk ?_;clear bk;refine wpS_bind (wpS_get ?_)
   by_cases e:(pendingOf st2).size<=1
   ·rw[if_pos e];exact wpS_pure ⟨rfl,S2,e⟩
   ·rw[if_neg e];refine wpS_bind (vm hA S2 (Br (by lia) (by lia)) fun st3 S3 z _ _=>?_);simp only[Bool.not_true,Bool.false_eq_true,if_false];exact wpS_pure ⟨rfl,S3,by lia⟩
  ·intro c st2 hI';refine bO fun _ bk=>?_;obtain⟨rfl,S2,q⟩:=hI';refine bk ?_;clear bk;exact⟨rfl,S2,by lia⟩
  ·have:=hS.2.1.len;rw[Array.length_toList]at this
   lia
  ·intro c st2 hI';refine bO fun _ bk=>?_;obtain⟨rfl,S2,q⟩:=hI';refine bk ?_;clear bk;refine wpS_pure (h st2 S2.1 ?_);have T:=S2.2.1;have l:(pendingOf st2).toList.length<=1:=by rw[Array.length_toList];exact q
   match e:(pendingOf st2).toList,l with
   |[],_=>rw[e]at T;have:0=a0.length:=T;lia
   |[x],_ =>
    rw[e]at T;obtain⟨_,_,t3,t4⟩:=T;have t5:0+x.2.1=a0.length:=t4;rw[t5]at t3;exact t3
end
end L2
namespace L2
open PySem PySem.SetTable
variable{mask:Nat}{h:Int}
variable{mask:Nat}
end L2
namespace L2
open PySem PySem.SetTable PySem.SeqAt
structure TK(prog:Program) (w:World) (τ:Type) where
 is:Heap->τ->Value->Prop
 hash:τ->Int
 room:Around->Prop
 pyHash:∀{A:Around} {E:Value->Shared->Prop} {s:Shared} {x:τ} {v:Value} {Q:Int->Shared->Prop},room A->is s.heap x v->(∀t,s.toks<=t->Q (hash x) { s with toks:=t })->wpAny (model prog w) A (PySem.pyHash v) Q E s
 eqB:∀{A:Around} {s:Shared} {x y:τ} {v u:Value},room A->is s.heap x v->is s.heap y u->∃b:Bool,(b=true↔x=y)/\EqAt A s v u b
 quiet:∀{A:Around} {E:Value->Shared->Prop} {s:Shared} {x:τ} {v:Value} {Q:Bool->Shared->Prop},room A->is s.heap x v->Q true s->wpAny (model prog w) A (eqIsQuiet 8 v) Q E s
 noCls:∀{A:Around} {E:Value->Shared->Prop} {s:Shared} {x:τ} {v:Value} {Q:Bool->Shared->Prop},room A->is s.heap x v->Q false s->wpAny (model prog w) A (ofAClassStatement 8 v) Q E s
 byV:∀{A:Around} {E:Value->Shared->Prop} {s:Shared} {x:τ} {v:Value} {Q:Bool->Shared->Prop},room A->is s.heap x v->(∀b,Q b s)->wpAny (model prog w) A (hashByValue 8 v) Q E s
 ref:∀{h:Heap} {x:τ} {v:Value},is h x v->∃a,v=.ref a
variable{prog:Program}{w:World}{τ:Type}{κ:TK prog w τ}{A:Around}{E:Value->Shared->Prop}{s:Shared}
variable{prog:Program}{w:World}{τ:Type}{κ:TK prog w τ}{A:Around}{E:Value->Shared->Prop}{s:Shared}
end L2
namespace L2
open PySem PySem.Spec PyProof.Rows PySem.SeqAt
inductive KD where
 |int (i:Int)|str (x:Str)|tup (ks:List KD)
 deriving Inhabited
def KAt(h:Heap):Nat->KD->Value->Prop
 |_,.int i,v=>∃t,v=.int i t
 |_,.str x,v=>∃t,v=.str x t
 |0,.tup _,_=>False
 |n+1,.tup ds,v=>∃(a:Addr) (its:Array Value),v=.ref a/\IsTup h a its/\its.size=ds.length/\∀(i:Nat) d u,ds[i]?=some d->its[i]?=some u->KAt h n d u
def hK(w:World):Nat->KD->Int
 |_,.int i=>hashInt i
 |_,.str x=>hashStr w x
 |0,.tup _=>0
 |n+1,.tup ds=>reduceHash (Builtin.Tuple.tupleHashOf (ds.map (hK w n)))
theorem kE{h:Heap}{n:Nat}{i:Int}{v:Value}:KAt h n (.int i) v↔∃t,v=.int i t:=by cases n<;>exact .rfl
theorem ke{h:Heap}{n:Nat}{i:Str}{v:Value}:KAt h n (.str i) v↔∃t,v=.str i t:=by cases n<;>exact .rfl
theorem vX{h h':Heap}{a:Addr}{its:Array Value}(t:IsTup h a its) (k:∀o,o.cls=.type "tuple"->h.get? a=some o->h'.get? a=some o):IsTup h' a its :=
 let⟨o,ho,hc,hd⟩:=t
 ⟨o,k _ hc ho,hc,hd⟩
theorem KAt.upT{h h':Heap}(k:∀b xs,IsTup h b xs->IsTup h' b xs):∀{n:Nat}{d:KD}{v:Value},KAt h n d v->KAt h' n d v:=by
 intro n
 induction n with
 |zero=>intro d v q;cases d<;>exact q
 |succ n ih =>
  intro d v q;cases d with
  |int _=>exact q
  |str _=>exact q
  |tup ds =>
   obtain⟨a,its,e,t,z,r⟩:=q;exact⟨a,its,e,k a _ t,z,fun i d u h1 h2=>ih (r i d u h1 h2)⟩
theorem KAt.up{h h':Heap}(k:∀b o,o.cls=.type "tuple"->h.get? b=some o->h'.get? b=some o) {n:Nat} {d:KD} {v:Value} (q:KAt h n d v):KAt h' n d v:=q.upT fun b xs t=>vX t (k b)
theorem KAt.same{h:Heap}:∀(n:Nat) {d e:KD}{v:Value},KAt h n d v->KAt h n e v->d=e:=by
 intro n
 induction n with
 |zero =>
  intro d e v h1 h2;cases d with
  |int i=>cases e with
   |int j=>obtain⟨_,rfl⟩:=h1;obtain⟨_,z⟩:=h2;cases z;rfl
   |str j=>obtain⟨_,rfl⟩:=h1;obtain⟨_,z⟩:=h2;cases z
   |tup _=>exact h2.elim
  |str i=>cases e with
   |int j=>obtain⟨_,rfl⟩:=h1;obtain⟨_,z⟩:=h2;cases z
   |str j=>obtain⟨_,rfl⟩:=h1;obtain⟨_,z⟩:=h2;cases z;rfl
   |tup _=>exact h2.elim
  |tup _=>exact h1.elim
 |succ n ih =>
  intro d e v h1 h2;cases d with
  |int i=>cases e with
   |int j=>obtain⟨_,rfl⟩:=h1;obtain⟨_,z⟩:=h2;cases z;rfl
   |str j=>obtain⟨_,rfl⟩:=h1;obtain⟨_,z⟩:=h2;cases z
   |tup _=>obtain⟨_,rfl⟩:=h1;obtain⟨_,_,z,_⟩:=h2;cases z
  |str i=>cases e with
   |int j=>obtain⟨_,rfl⟩:=h1;obtain⟨_,z⟩:=h2;cases z
   |str j=>obtain⟨_,rfl⟩:=h1;obtain⟨_,z⟩:=h2;cases z;rfl
   |tup _=>obtain⟨_,rfl⟩:=h1;obtain⟨_,_,z,_⟩:=h2;cases z
  |tup ds=>cases e with
   |int j=>obtain⟨_,rfl⟩:=h2;obtain⟨_,_,z,_⟩:=h1;cases z
   |str j=>obtain⟨_,rfl⟩:=h2;obtain⟨_,_,z,_⟩:=h1;cases z
   |tup es =>
    obtain⟨a1,its,e1,⟨o,ho,hc,c,hd⟩,z,r⟩:=h1;obtain⟨a2,its2,e2,⟨o2,ho2,hc2,c2,hd2⟩,z2,r2⟩:=h2;subst e1;cases e2;rw[ho]at ho2;cases ho2;rw[hd]at hd2;cases hd2;congr 1;refine List.ext_getElem? fun i=>?_;rcases Nat.lt_or_ge i ds.length with q|q
    ·have q2:i<es.length:=by lia
     rw[List.getElem?_eq_getElem q,List.getElem?_eq_getElem q2];have q3:i<its.size:=by lia
     exact congrArg some (ih (r i _ _ (List.getElem?_eq_getElem q) (Array.getElem?_eq_getElem q3)) (r2 i _ _ (List.getElem?_eq_getElem q2) (Array.getElem?_eq_getElem q3)))
    ·rw[List.getElem?_eq_none q,List.getElem?_eq_none (by lia)]
def drK:Nat->KD->Nat
 |_,.int _=>1
 |_,.str _=>1
 |0,.tup _=>0
 |n+1,.tup ds=>(ds.map (drK n)).sum+1
section
variable{prog:Program}{w:World}{A:Around}{E:Value->Shared->Prop}{s:Shared}
theorem KAt.eq:∀(n:Nat) {A:Around}{d e:KD}{v u:Value},A.units+n<cLine->KAt s.heap n d v->KAt s.heap n e u->∃b:Bool,(b=true↔d=e)/\EqAt A s v u b:=by
 intro n
 induction n with
 |zero =>
  intro A d e v u hu q1 q2;cases d with
  |tup _=>exact q1.elim
  |int i=>obtain⟨t,rfl⟩:=q1;cases e with
   |tup _=>exact q2.elim
   |int j=>obtain⟨t',rfl⟩:=q2;exact⟨i==j,by simp,EqAt.int_int _ _ _ _⟩
   |str j=>obtain⟨t',rfl⟩:=q2;exact⟨false,by simp,EqAt.int_str _ _ _ _⟩
  |str i=>obtain⟨t,rfl⟩:=q1;cases e with
   |tup _=>exact q2.elim
   |int j=>obtain⟨t',rfl⟩:=q2;exact⟨false,by simp,EqAt.str_int _ _ _ _⟩
   |str j=>obtain⟨t',rfl⟩:=q2;exact⟨i==j,by simp,EqAt.str_str _ _ _ _⟩
 |succ n ih =>
  intro A d e v u hu q1 q2;cases d with
  |int i=>obtain⟨t,rfl⟩:=q1;cases e with
   |int j=>obtain⟨t',rfl⟩:=q2;exact⟨i==j,by simp,EqAt.int_int _ _ _ _⟩
   |str j=>obtain⟨t',rfl⟩:=q2;exact⟨false,by simp,EqAt.int_str _ _ _ _⟩
   |tup _=>obtain⟨a,its,rfl,t,_⟩:=q2;exact⟨false,by simp,EqAt.int_tuple _ _ t (by lia)⟩
  |str i=>obtain⟨t,rfl⟩:=q1;cases e with
   |int j=>obtain⟨t',rfl⟩:=q2;exact⟨false,by simp,EqAt.str_int _ _ _ _⟩
   |str j=>obtain⟨t',rfl⟩:=q2;exact⟨i==j,by simp,EqAt.str_str _ _ _ _⟩
   |tup _=>obtain⟨a,its,rfl,t,_⟩:=q2;exact⟨false,by simp,EqAt.str_tuple _ _ t (by lia)⟩
  |tup ds =>
   obtain⟨a,its,rfl,t1,z1,r1⟩:=id q1;cases e with
   |int j=>obtain⟨t',rfl⟩:=q2;exact⟨false,by simp,EqAt.tuple_int _ _ t1 (by lia)⟩
   |str j=>obtain⟨t',rfl⟩:=q2;exact⟨false,by simp,EqAt.tuple_str _ _ t1 (by lia)⟩
   |tup es =>
    obtain⟨b,its2,rfl,t2,z2,r2⟩:=id q2
    by_cases ab:a=b
    ·subst ab;exact⟨true,by simp[KAt.same (n+1) q1 q2],EqAt.same _⟩
    ·have item:∀j,∃b:Bool,∀(h1:j<its.size) (h2:j<its2.size),(b=true↔ds[j]?=es[j]?)/\EqAt A.in1 s its[j] its2[j] b:=fun j=>by
      by_cases h1:j<its.size
      ·by_cases h2:j<its2.size
       ·obtain⟨b,b1,b2⟩:=ih (A:=A.in1) (show A.units+1+n<cLine by lia) (r1 j _ _ (List.getElem?_eq_getElem (by lia)) (Array.getElem?_eq_getElem h1)) (r2 j _ _ (List.getElem?_eq_getElem (by lia)) (Array.getElem?_eq_getElem h2));exact⟨b,fun _ _=>⟨by rw[List.getElem?_eq_getElem (by lia),List.getElem?_eq_getElem (by lia),b1];simp,b2⟩⟩
       ·exact⟨true,fun _ h=>absurd h h2⟩
      ·exact⟨true,fun h=>absurd h h1⟩
     have rc:=RcAt.tuples (A:=A) (s:=s) (e:=fun j=>(item j).choose) t1 t2 (by lia) fun j h1 h2=>((item j).choose_spec h1 h2).2;refine⟨_,?_,EqAt.of_refs ab rc⟩;rw[Bool.and_eq_true,List.all_eq_true,beq_iff_eq];constructor
     ·rintro⟨h1,h2⟩;congr 1;refine List.ext_getElem? fun i=>?_;rcases Nat.lt_or_ge i ds.length with q|q
      ·exact((item i).choose_spec (by lia) (by lia)).1.mp (h1 i (List.mem_range.mpr (by lia)))
      ·rw[List.getElem?_eq_none q,List.getElem?_eq_none (by lia)]
     ·intro z;cases z;refine⟨fun i hi=>?_,by lia⟩;have hi:=List.mem_range.mp hi;exact((item i).choose_spec (by lia) (by lia)).1.mpr rfl
theorem KAt.hash:∀(n:Nat) {A:Around}{s:Shared}{E:Value->Shared->Prop}{d:KD}{v:Value}{Q:Int->Shared->Prop},A.units+n<cLine->KAt s.heap n d v->Q (hK w n d) { s with toks:=s.toks+drK n d }->wpAny (model prog w) A (pyHash v) Q E s:=by
 intro n
 induction n with
 |zero =>
  intro A s E d v Q hu q h;cases d with
  |int i=>obtain⟨t,rfl⟩:=q;exact wpAny_pyHash_int h
  |str i=>obtain⟨t,rfl⟩:=q;exact wpAny_pyHash_str h
  |tup _=>exact q.elim
 |succ n ih =>
  intro A s E d v Q hu q h;cases d with
  |int i=>obtain⟨t,rfl⟩:=q;exact wpAny_pyHash_int h
  |str i=>obtain⟨t,rfl⟩:=q;exact wpAny_pyHash_str h
  |tup ks =>
   obtain⟨a,its,rfl,tp,z,r⟩:=q;obtain⟨o,ho,hc,c,hd⟩:=tp;have hT:s.TypeIs (.ref a) "tuple":=⟨o,ho,hc⟩;have hu0:A.units<cLine:=by lia
   unfold pyHash pyHashByItsType;refine wpAny_bind (wpAny_cRoomFor_or (.inr hu0) ?_);refine wpAny_bind (wpAny_specialOf hT F.slot_tuple_hash.lookup ?_);show wpAny _ _ (if(some (Value.builtin "tuple.__hash__")==some Value.none)=true then _ else _) Q E s;rw[if_neg (by rw[beq_builtin_none];exact Bool.false_ne_true)];refine wpAny_bind (wpAny_specialOf hT F.slot_tuple_hash.lookup ?_);show wpAny _ _ (callSpecialIfBoundUnlessNone? (.ref a) "__hash__" _ >>= _) Q E s;refine wpAny_bind (wpAny_callSpecialIfBoundUnlessNone?_slot hT F.slot_tuple_hash (wpAny_call_entry F.slot_tuple_hash hT F.entry_tuple_hash ?_ (F.args_tuple_hash_1 _)));show wpAny _ _ (Builtin.Tuple.tupleItemsOf (.ref a) >>= _) _ _ s;refine wpAny_bind (wpAny_tupleItemsOf ho hd ?_);refine wpAny_bind ?_;rw[<-Array.forIn_toList];refine wpAny_forIn_list _ (fun br (b:Array Int) s'=>∃m,m<=ks.length/\br=its.toList.drop m/\b.toList=(ks.take m).map (hK w n)/\s'={ s with toks:=s.toks+((ks.take m).map (drK n)).sum }) _ ?_ ?_ _ _ ⟨0,Nat.zero_le _,rfl,rfl,rfl⟩
   ·rintro x br b s' ⟨m,hm,hr,hb,rfl⟩;have lt:m<its.size:=by
     rcases Nat.lt_or_ge m its.size with q|q
     ·exact q
     ·rw[List.drop_eq_nil_of_le (by rw[Array.length_toList];exact q)]at hr;cases hr
    rw[List.drop_eq_getElem_cons (by rw[Array.length_toList];exact lt)]at hr;obtain⟨rfl,rfl⟩:=List.cons.inj hr;have km:ks[m]?=some (ks[m]'(by lia)):=List.getElem?_eq_getElem _;refine wpAny_bind (ih (show A.in1.units+n<cLine by show A.units+1+n<cLine;lia) (r m _ _ km (by rw[Array.getElem?_eq_getElem lt];simp)) ?_);refine wpAny_pure ⟨m+1,by lia,rfl,?_,?_⟩
    ·rw[Array.toList_push,hb,List.take_add_one,km,List.map_append];rfl
    ·rw[List.take_add_one,km,List.map_append,List.sum_append,<-Nat.add_assoc];simp
   ·rintro b s' ⟨m,hm,hr,hb,rfl⟩;have:m=ks.length:=by
     rcases Nat.lt_or_ge m its.size with q|q
     ·rw[List.drop_eq_getElem_cons (by rw[Array.length_toList];exact q)]at hr;cases hr
     ·lia
    subst this;rw[List.take_length]at hb ⊢;show wpAny _ _ (retInt (Builtin.Tuple.tupleHashOf b.toList)) _ _ _;rw[hb];refine wpAny_ret_mkInt ?_;show wpAny _ _ (if(decide (-(2:Int) ^ 63<=Builtin.Tuple.tupleHashOf (ks.map (hK w n)))&&decide (Builtin.Tuple.tupleHashOf (ks.map (hK w n))<2 ^ 63))=true then _ else _) Q E _;have h':Q (reduceHash (Builtin.Tuple.tupleHashOf (ks.map (hK w n)))) { s with toks:=s.toks+((ks.map (drK n)).sum+1) }:=h;rw[<-Nat.add_assoc]at h';unfold reduceHash at h'
    by_cases hr2:(decide (-(2:Int) ^ 63<=Builtin.Tuple.tupleHashOf (ks.map (hK w n)))&&decide (Builtin.Tuple.tupleHashOf (ks.map (hK w n))<2 ^ 63))=true
    ·rw[if_pos hr2];rw[if_pos hr2]at h';exact wpAny_pure h'
    ·rw[if_neg hr2];rw[if_neg hr2]at h';exact wpAny_bind (wpAny_rule (wpAny_pure h'))
end
section
variable{prog:Program}{w:World}{A:Around}{E:Value->Shared->Prop}{s:Shared}
theorem qy{a:Addr}{its:Array Value}{Q:Option (Array Value)->Shared->Prop}(t:IsTup s.heap a its) (h:Q (some its) s):wpAny (model prog w) A (seqItems? (.ref a)) Q E s:=by
 obtain⟨o,ho,hc,c,hd⟩:=t;unfold seqItems?;refine wpAny_bind (wpAny_load ho ?_);rw[hd];exact wpAny_pure h
theorem KAt.item{h:Heap}{n:Nat}{ks:List KD}{its:Array Value}(z:its.size=ks.length) (r:∀(i:Nat) d u,ks[i]?=some d->its[i]?=some u->KAt h n d u) {x:Value}(hx:x∈its.toList):∃k,KAt h n k x:=by
 obtain⟨i,hi⟩:=List.mem_iff_getElem?.mp hx;rw[Array.getElem?_toList]at hi;have lt:=(Array.getElem?_eq_some_iff.mp hi).1;exact⟨_,r i _ _ (List.getElem?_eq_getElem (by lia)) hi⟩
theorem KAt.quiet:∀(f n:Nat) {k:KD}{v:Value}{Q:Bool->Shared->Prop},n<=f->KAt s.heap n k v->Q true s->wpAny (model prog w) A (eqIsQuiet f v) Q E s:=by
 intro f
 induction f with
 |zero =>
  intro n k v Q hn q h;obtain rfl:n=0:=by lia
  cases k with
  |int i=>obtain⟨t,rfl⟩:=q;exact wpAny_pure h
  |str i=>obtain⟨t,rfl⟩:=q;exact wpAny_pure h
  |tup _=>exact q.elim
 |succ f ih =>
  intro n k v Q hn q h;cases k with
  |int i=>obtain⟨t,rfl⟩:=kE.mp q;exact wpAny_pure h
  |str i=>obtain⟨t,rfl⟩:=ke.mp q;exact wpAny_pure h
  |tup ks =>
   cases n with
   |zero=>exact q.elim
   |succ n =>
    obtain⟨a,its,rfl,tp,z,r⟩:=q;have hT:s.TypeIs (.ref a) "tuple":=by obtain⟨o,ho,hc,_⟩:=tp;exact⟨o,ho,hc⟩
    unfold eqIsQuiet;refine wpAny_bind (wpAny_specialOf hT F.slot_tuple_eq.lookup ?_);show wpAny _ _ (isInstance (.ref a) (.type "tuple") >>= _) _ _ s;refine wpAny_bind (wpAny_isInstance hT isSubtype_tuple_tuple ?_);simp only[Bool.not_true,Bool.false_eq_true,if_false];refine wpAny_bind (qy tp ?_);refine wpAny_bind ?_;show wpAny _ _ (forIn its _ _) _ _ s;rw[<-Array.forIn_toList];refine wpAny_forIn_list _ (fun br b s'=>s'=s/\b=(none,())/\∀x∈br,x∈its.toList) _ ?_ ?_ _ _ ⟨rfl,rfl,fun _ z=>z⟩
    ·rintro x br b s' ⟨rfl,rfl,hr⟩;obtain⟨k,hk⟩:=KAt.item z r (hr x (.head _));refine wpAny_bind (ih n (by lia) hk ?_);simp only[Bool.not_true,Bool.false_eq_true,if_false];exact wpAny_pure ⟨rfl,rfl,fun y hy=>hr y (.tail _ hy)⟩
    ·rintro b s' ⟨rfl,rfl,_⟩;exact wpAny_pure h
theorem KAt.noCls:∀(f n:Nat) {k:KD}{v:Value}{Q:Bool->Shared->Prop},n<=f->KAt s.heap n k v->Q false s->wpAny (model prog w) A (ofAClassStatement f v) Q E s:=by
 intro f
 induction f with
 |zero =>
  intro n k v Q hn q h;obtain rfl:n=0:=by lia
  cases k with
  |int i=>obtain⟨t,rfl⟩:=q;exact wpAny_pure h
  |str i=>obtain⟨t,rfl⟩:=q;exact wpAny_pure h
  |tup _=>exact q.elim
 |succ f ih =>
  intro n k v Q hn q h;cases k with
  |int i=>obtain⟨t,rfl⟩:=kE.mp q;exact wpAny_pure h
  |str i=>obtain⟨t,rfl⟩:=ke.mp q;exact wpAny_pure h
  |tup ks =>
   cases n with
   |zero=>exact q.elim
   |succ n =>
    obtain⟨a,its,rfl,tp,z,r⟩:=q;have hT:s.TypeIs (.ref a) "tuple":=by obtain⟨o,ho,hc,_⟩:=tp;exact⟨o,ho,hc⟩
    unfold ofAClassStatement;refine wpAny_bind (wpAny_typeOf hT ?_);dsimp only;rw[if_pos (by rfl)];refine wpAny_bind (wpAny_pure ?_);simp only[Bool.not_true,Bool.false_eq_true,if_false];refine wpAny_bind (qy tp ?_);dsimp only;refine wpAny_bind ?_;rw[<-Array.forIn_toList];refine wpAny_forIn_list _ (fun br b s'=>s'=s/\b=(none,())/\∀x∈br,x∈its.toList) _ ?_ ?_ _ _ ⟨rfl,rfl,fun _ z=>z⟩
    ·rintro x br b s' ⟨rfl,rfl,hr⟩;obtain⟨k,hk⟩:=KAt.item z r (hr x (.head _));refine wpAny_bind (ih n (by lia) hk ?_);simp only[Bool.false_eq_true,if_false];exact wpAny_pure ⟨rfl,rfl,fun y hy=>hr y (.tail _ hy)⟩
    ·rintro b s' ⟨rfl,rfl,_⟩;exact wpAny_pure h
theorem KAt.byV:∀(f n:Nat) {k:KD}{v:Value}{Q:Bool->Shared->Prop},KAt s.heap n k v->(∀b,Q b s)->wpAny (model prog w) A (hashByValue f v) Q E s:=by
 intro f
 induction f with
 |zero =>
  intro n k v Q q h;cases k with
  |int i=>obtain⟨t,rfl⟩:=kE.mp q;exact wpAny_pure (h _)
  |str i=>obtain⟨t,rfl⟩:=ke.mp q;exact wpAny_pure (h _)
  |tup _=>cases n with
   |zero=>exact q.elim
   |succ n=>obtain⟨a,its,rfl,_⟩:=q;exact wpAny_pure (h _)
 |succ f ih =>
  intro n k v Q q h;cases k with
  |int i=>obtain⟨t,rfl⟩:=kE.mp q;exact wpAny_pure (h _)
  |str i=>obtain⟨t,rfl⟩:=ke.mp q;exact wpAny_pure (h _)
  |tup ks =>
   cases n with
   |zero=>exact q.elim
   |succ n =>
    obtain⟨a,its,rfl,tp,z,r⟩:=q;have hT:s.TypeIs (.ref a) "tuple":=by obtain⟨o,ho,hc,_⟩:=tp;exact⟨o,ho,hc⟩
    unfold hashByValue;refine wpAny_bind (wpAny_specialOf hT F.slot_tuple_hash.lookup ?_);dsimp only;refine wpAny_bind (qy tp ?_);refine wpAny_bind ?_;show wpAny _ _ (forIn its _ _) _ _ s;rw[<-Array.forIn_toList];refine wpAny_forIn_list _ (fun br b s'=>s'=s/\b=(none,())/\∀x∈br,x∈its.toList) _ ?_ ?_ _ _ ⟨rfl,rfl,fun _ z=>z⟩
    ·rintro x br b s' ⟨rfl,rfl,hr⟩;obtain⟨k,hk⟩:=KAt.item z r (hr x (.head _));refine wpAny_bind (ih n hk fun b=>?_);cases b with
     |true =>
      simp only[Bool.not_true,Bool.false_eq_true,if_false];exact wpAny_pure ⟨rfl,rfl,fun y hy=>hr y (.tail _ hy)⟩
     |false =>
      simp only[Bool.not_false,if_true];exact wpAny_pure (wpAny_pure (h _))
    ·rintro b s' ⟨rfl,rfl,_⟩;exact wpAny_pure (h _)
end
def Ei(h0 h:Heap):Prop:=∀b o,h0.get? b=some o->h.get? b=some o
theorem KAt.kept{h0 h:Heap}{n:Nat}{d:KD}{v:Value}(q:KAt h0 n d v) (k:Ei h0 h):KAt h n d v:=q.up fun b o _ e=>k b o e
def tK(prog:Program) (w:World) (n:Nat) (hn:n<=8) (h0:Heap) (V:Value->Prop):TK prog w (List KD) where
 is h ks v:=Ei h0 h/\KAt h0 n (.tup ks) v/\V v
 hash ks:=hK w n (.tup ks)
 room A:=A.units+n<cLine
 pyHash hr hx h:=KAt.hash n hr (hx.2.1.kept hx.1) (h _ (Nat.le_add_right _ _))
 eqB hr hx hy:=by
  obtain⟨b,h1,h2⟩:=KAt.eq n hr (hx.2.1.kept hx.1) (hy.2.1.kept hy.1);exact⟨b,by rw[h1];simp,h2⟩
 quiet _ hx h:=KAt.quiet 8 n hn (hx.2.1.kept hx.1) h
 noCls _ hx h:=KAt.noCls 8 n hn (hx.2.1.kept hx.1) h
 byV _ hx h:=KAt.byV 8 n (hx.2.1.kept hx.1) h
 ref {h x v} hx:=by
  obtain⟨_,hx,_⟩:=hx;cases n with
  |zero=>exact hx.elim
  |succ n=>obtain⟨a,_,e,_⟩:=hx;exact⟨a,e⟩
end L2
namespace L2
open PySem PySem.Spec PyProof.Rows
end L2
namespace L2
open PySem PySem.Spec PyProof.Rows PySem.SeqAt
open Classical in
mutual
def ltK:KD->KD->Bool
 |.int i,.int j=>decide (i<j)
 |.int _,.str _=>true
 |.int _,.tup _=>true
 |.str _,.int _=>false
 |.str a,.str b=>ltS a b
 |.str _,.tup _=>true
 |.tup _,.int _=>false
 |.tup _,.str _=>false
 |.tup a,.tup b=>bj a b
def bj:List KD->List KD->Bool
 |[],[]=>false
 |[],_::_=>true
 |_::_,[]=>false
 |a::as,b::bs=>if a=b then bj as bs else ltK a b
end
mutual
theorem zq:∀a:KD,ltK a a=false
 |.int i=>by simp[ltK]
 |.str a=>by simp only[ltK];exact yQ a
 |.tup a=>by simp only[ltK];exact ir a
theorem ir:∀a:List KD,bj a a=false
 |[]=>by simp[bj]
 |a::as=>by simp only[bj,if_true];exact ir as
end
mutual
theorem xO:∀a b:KD,ltK a b=false->ltK b a=false->a=b
 |.int i,.int j,h1,h2=>by simp[ltK]at h1 h2;congr 1;lia
 |.int _,.str _,h1,_=>by simp[ltK]at h1
 |.int _,.tup _,h1,_=>by simp[ltK]at h1
 |.str _,.int _,_,h1=>by simp[ltK]at h1
 |.str a,.str b,h1,h2=>by simp only[ltK]at h1 h2;rw[ye h1 h2]
 |.str _,.tup _,h1,_=>by simp[ltK]at h1
 |.tup _,.int _,_,h1=>by simp[ltK]at h1
 |.tup _,.str _,_,h1=>by simp[ltK]at h1
 |.tup a,.tup b,h1,h2=>by simp only[ltK]at h1 h2;rw[fV a b h1 h2]
theorem fV:∀a b:List KD,bj a b=false->bj b a=false->a=b
 |[],[],_,_=>rfl
 |[],_::_,h1,_=>by simp[bj]at h1
 |_::_,[],_,h1=>by simp[bj]at h1
 |a::as,b::bs,h1,h2=>by
  simp only[bj]at h1 h2
  by_cases c:a=b
  ·subst c;rw[if_pos rfl]at h1 h2;rw[fV as bs h1 h2]
  ·rw[if_neg c]at h1;rw[if_neg fun z=>c z.symm]at h2;exact absurd (xO a b h1 h2) c
end
mutual
theorem BJ:∀a b c:KD,ltK a b=true->ltK b c=true->ltK a c=true
 |.int i,.int j,.int k,h1,h2=>by simp[ltK]at h1 h2 ⊢;lia
 |.int _,.str _,.int _,_,h2=>by simp[ltK]at h2
 |.int _,.tup _,.int _,_,h2=>by simp[ltK]at h2
 |.int _,_,.str _,_,_=>by simp[ltK]
 |.int _,_,.tup _,_,_=>by simp[ltK]
 |.str _,.int _,_,h1,_=>by simp[ltK]at h1
 |.str a,.str b,.str c,h1,h2=>by simp only[ltK]at h1 h2 ⊢;exact ug h1 h2
 |.str _,.str _,.int _,_,h2=>by simp[ltK]at h2
 |.str _,.tup _,.int _,_,h2=>by simp[ltK]at h2
 |.str _,.tup _,.str _,_,h2=>by simp[ltK]at h2
 |.str _,_,.tup _,_,_=>by simp[ltK]
 |.tup _,.int _,_,h1,_=>by simp[ltK]at h1
 |.tup _,.str _,_,h1,_=>by simp[ltK]at h1
 |.tup _,.tup _,.int _,_,h2=>by simp[ltK]at h2
 |.tup _,.tup _,.str _,_,h2=>by simp[ltK]at h2
 |.tup a,.tup b,.tup c,h1,h2=>by simp only[ltK]at h1 h2 ⊢;exact iU a b c h1 h2
theorem iU:∀a b c:List KD,bj a b=true->bj b c=true->bj a c=true
 |_,[],[],_,h2=>by simp[bj]at h2
 |_,_::_,[],_,h2=>by simp[bj]at h2
 |[],_,_::_,_,_=>by simp[bj]
 |_::_,[],_::_,h1,_=>by simp[bj]at h1
 |a::as,b::bs,c::cs,h1,h2=>by
  simp only[bj]at h1 h2 ⊢
  by_cases e1:a=b
  ·subst e1;rw[if_pos rfl]at h1
   by_cases e2:a=c
   ·rw[if_pos e2]at h2 ⊢;exact iU as bs cs h1 h2
   ·rw[if_neg e2]at h2 ⊢;exact h2
  ·rw[if_neg e1]at h1
   by_cases e2:b=c
   ·subst e2;rw[if_neg e1];exact h1
   ·rw[if_neg e2]at h2;have h3:=BJ a b c h1 h2
    by_cases e3:a=c
    ·subst e3;rw[zq]at h3;cases h3
    ·rw[if_neg e3];exact h3
end
def zr:KeyOrd where
 α:=List KD
 blt:=bj
 irrefl:=ir
 trans:=iU
 negTrans a b c h:=by
  cases h1:bj a b with
  |true=>exact .inl rfl
  |false =>
   refine .inr ?_;cases h2:bj b a with
   |true=>exact iU _ _ _ h2 h
   |false=>rw[<-fV _ _ h1 h2];exact h
 total:=fV
def leK(a b:List KD):Bool:=not (bj b a)
def iK(ps:List (List KD)):List (List KD):=ps.mergeSort leK
theorem kH(ps:List (List KD)):(iK ps).Perm ps:=List.mergeSort_perm _ _
theorem oS(ps:List (List KD)):(iK ps).Pairwise fun a b=>leK a b=true :=
 List.pairwise_mergeSort (fun a b c h1 h2=>by
  simp only[leK,Bool.not_eq_true']at *
  cases h:bj c a with
  |false=>rfl
  |true =>
   rcases zr.negTrans _ b _ h with z|z
   ·exact absurd z (by rw[show zr.blt c b=bj c b from rfl,h2];simp)
   ·exact absurd z (by rw[show zr.blt b a=bj b a from rfl,h1];simp)) (fun a b=>by
  cases h:leK a b with
  |true=>rfl
  |false =>
   have h':bj b a=true:=by simpa[leK]using h
   cases h2:bj a b with
   |false=>simp[leK,h2]
   |true=>have:=iU _ _ _ h' h2;rw[ir]at this;cases this) ps
theorem vY{ps qs:List (List KD)}(h:qs.Perm ps) (hs:qs.Pairwise fun a b=>leK a b=true):qs=iK ps :=
 List.Perm.eq_of_pairwise (le:=fun a b=>leK a b=true) (fun a b _ _ h1 h2=>fV _ _ (by simpa[leK]using h2) (by simpa[leK]using h1)) hs (oS ps) (h.trans (kH ps).symm)
mutual
def Cm:KD->KD->Prop
 |.int _,.int _=>True
 |.str _,.str _=>True
 |.tup a,.tup b=>Cms a b
 |_,_=>False
def Cms:List KD->List KD->Prop
 |a::as,b::bs=>Cm a b/\Cms as bs
 |_,_=>True
end
section
variable{prog:Program}{w:World}{A:Around}{E:Value->Shared->Prop}{s:Shared}
theorem vy{n:Nat}{ds es:List KD}{a b:Addr}{Q:Value->Shared->Prop}(hu:A.units+(n+1)<cLine) (q1:KAt s.heap (n+1) (.tup ds) (.ref a)) (q2:KAt s.heap (n+1) (.tup es) (.ref b)) (hc:Cms ds es)
  (ih:∀{A:Around} {E:Value->Shared->Prop} {d e:KD} {v u:Value} {Q:Value->Shared->Prop},A.units+n<cLine->KAt s.heap n d v->KAt s.heap n e u->Cm d e->Q (.bool (ltK d e)) s->wpAny (model prog w) A (richCompare .Lt v u) Q E s)
  (h:Q (.bool (bj ds es)) s):wpAny (model prog w) A (call (.builtin "tuple.__lt__") [.ref a,.ref b]) Q E s:=by
 obtain⟨_,its,e1,t1,z1,r1⟩:=q1;obtain⟨_,its2,e2,t2,z2,r2⟩:=q2;cases e1;cases e2;obtain⟨o1,g1,c1,n1,d1⟩:=id t1;obtain⟨o2,g2,c2,n2,d2⟩:=id t2;have T1:s.TypeIs (.ref a) "tuple":=⟨o1,g1,c1⟩;have T2:s.TypeIs (.ref b) "tuple":=⟨o2,g2,c2⟩;refine wpAny_call_entry F.slot_tuple_lt T1 F.entry_tuple_lt ?_ (F.args_tuple_lt_2 _ _);show wpAny _ _ (isInstance (.ref b) (.type "tuple") >>= _) _ _ s;refine wpAny_bind (wpAny_isInstance T2 isSubtype_tuple_tuple ?_);simp only[Bool.not_true,Bool.false_eq_true,if_false];refine wpAny_bind (wpAny_tupleItemsOf g1 d1 ?_);refine wpAny_bind (wpAny_tupleItemsOf g2 d2 ?_);refine wpAny_bind ?_;refine wpAny_forIn_list _ (fun br r s'=>r.1=none/\s'=s/\∃m,m<=min its.size its2.size/\br=(its.toList.zip its2.toList).drop m/\bj ds es=bj (ds.drop m) (es.drop m)/\Cms (ds.drop m) (es.drop m)) _ ?_ ?_ _ _ ⟨rfl,rfl,0,Nat.zero_le _,rfl,rfl,hc⟩
 ·rintro⟨x,y⟩ br r s' ⟨hr,rfl,m,_,hz,hl,hcm⟩;have hlt:m<(its.toList.zip its2.toList).length:=by
   rcases Nat.lt_or_ge m (its.toList.zip its2.toList).length with q|q
   ·exact q
   ·rw[List.drop_eq_nil_of_le q]at hz;cases hz
  have hlt':m<its.size/\m<its2.size:=by
   rw[List.length_zip,Array.length_toList,Array.length_toList]at hlt;lia
  rw[List.drop_eq_getElem_cons hlt]at hz;injection hz with hxy hrest
  have hx:x=its[m]'hlt'.1:=by have:=congrArg Prod.fst hxy;simpa using this
  have hy:y=its2[m]'hlt'.2:=by have:=congrArg Prod.snd hxy;simpa using this
  subst hx hy;have m1:m<ds.length:=by lia
  have m2:m<es.length:=by lia
  have k1:=r1 m _ _ (List.getElem?_eq_getElem m1) (Array.getElem?_eq_getElem hlt'.1);have k2:=r2 m _ _ (List.getElem?_eq_getElem m2) (Array.getElem?_eq_getElem hlt'.2);rw[List.drop_eq_getElem_cons m1,List.drop_eq_getElem_cons m2]at hl hcm;simp only[bj,Cms]at hl hcm;obtain⟨bb,b1,b2⟩:=KAt.eq n (A:=A.in1) (show A.units+1+n<cLine by lia) k1 k2;refine wpAny_bind (b2 prog w _ _ ?_);cases bb with
  |true =>
   rw[if_pos (b1.mp rfl)]at hl;simp only[Bool.not_true,Bool.false_eq_true,if_false];exact wpAny_pure ⟨rfl,rfl,m+1,by lia,hrest,hl,hcm.2⟩
  |false =>
   have ne:¬ ds[m]=es[m]:=fun z=>by have:=b1.mpr z;cases this
   rw[if_neg ne]at hl;simp only[Bool.not_false,if_true];refine wpAny_bind (wpAny_rule ?_);refine wpAny_bind (ih (A:=A.in1) (show A.units+1+n<cLine by lia) k1 k2 hcm.1 ?_);rw[<-hl];exact wpAny_bind (wpAny_pure (wpAny_pure (wpAny_pure ⟨_,rfl,h⟩)))
 ·rintro⟨r1',r2'⟩ s' ⟨hr,rfl,m,hm,hz,hl,_⟩;simp only at hr;subst hr;have hge:min its.size its2.size<=m:=by
   rcases Nat.lt_or_ge m (its.toList.zip its2.toList).length with q|q
   ·rw[List.drop_eq_getElem_cons q]at hz;cases hz
   ·simpa[List.length_zip]using q
  refine wpAny_pure ⟨_,rfl,?_⟩;show Q (.bool (decide (its.size<its2.size))) s';have:bj ds es=decide (its.size<its2.size):=by
   rw[hl];rcases Nat.lt_or_ge its.size its2.size with q|q
   ·rw[decide_eq_true q,List.drop_eq_nil_of_le (by lia),List.drop_eq_getElem_cons (show m<es.length by lia)];simp[bj]
   ·rw[decide_eq_false (by lia),show es.drop m=[]from List.drop_eq_nil_of_le (by lia)];cases ds.drop m<;>simp[bj]
  rw[<-this];exact h
theorem DI(n:Nat):∀{A:Around}{E:Value->Shared->Prop}{d e:KD}{v u:Value}{Q:Value->Shared->Prop},A.units+n<cLine->KAt s.heap n d v->KAt s.heap n e u->Cm d e->Q (.bool (ltK d e)) s->wpAny (model prog w) A (richCompare .Lt v u) Q E s:=by
 have hI:∀{A:Around} {E:Value->Shared->Prop} {i j:Int} {t t':Tok} {Q:Value->Shared->Prop},Q (.bool (decide (i<j))) s->wpAny (model prog w) A (richCompare .Lt (.int i t) (.int j t')) Q E s:=fun h=>wpAny_lt_int h;have hS:∀{A:Around} {E:Value->Shared->Prop} {i j:Str} {t t':Tok} {Q:Value->Shared->Prop},Q (.bool (ltS i j)) s->wpAny (model prog w) A (richCompare .Lt (.str i t) (.str j t')) Q E s:=fun {A E i j t t' Q} h =>
  wpAny_richCompare_same (op:=.Lt) (T:="str") (typeIs_str s i t) (typeIs_str s j t') slot_str_lt (call_str_lt ⟨fun z=>(by cases z),h⟩)
 induction n with
 |zero =>
  intro A E d e v u Q hu q1 q2 hc h;cases d<;>cases e<;>first|exact hc.elim|exact q1.elim|skip
  ·obtain⟨t,rfl⟩:=q1;obtain⟨t',rfl⟩:=q2;exact hI (by simpa only[ltK]using h)
  ·obtain⟨t,rfl⟩:=q1;obtain⟨t',rfl⟩:=q2;exact hS (by simpa only[ltK]using h)
 |succ n ih =>
  intro A E d e v u Q hu q1 q2 hc h;cases d<;>cases e<;>first|exact hc.elim|skip
  ·obtain⟨t,rfl⟩:=q1;obtain⟨t',rfl⟩:=q2;exact hI (by simpa only[ltK]using h)
  ·obtain⟨t,rfl⟩:=q1;obtain⟨t',rfl⟩:=q2;exact hS (by simpa only[ltK]using h)
  ·rename_i ds es;obtain⟨a,its,rfl,t1,_⟩:=id q1;obtain⟨b,its2,rfl,t2,_⟩:=id q2;have T1:s.TypeIs (.ref a) "tuple":=by obtain⟨o,ho,hc,_⟩:=t1;exact⟨o,ho,hc⟩
   have T2:s.TypeIs (.ref b) "tuple":=by obtain⟨o,ho,hc,_⟩:=t2;exact⟨o,ho,hc⟩
   exact wpAny_richCompare_same_room (op:=.Lt) T1 T2 F.slot_tuple_lt (vy hu q1 q2 (by simpa only[Cm]using hc) ih ⟨fun z=>(by cases z),by simpa only[ltK]using h⟩) (by lia)
end
end L2
namespace L2
open PySem PySem.W PySem.Calls PyProof.Rows PySem.SeqAt
section
variable{prog:Program}{w:World}{A:Around}{E:Value->Shared->Prop}{s:Shared}
theorem Dp{n:Nat}{k:KD}{v:Value}{Q:Value->Shared->Prop}(q:KAt s.heap n k v) (h:∀T,Q T s):wpAny (model prog w) A (typeOf v) Q E s:=by
 cases k with
 |int i=>obtain⟨t,rfl⟩:=kE.mp q;exact wpAny_pure (h _)
 |str i=>obtain⟨t,rfl⟩:=ke.mp q;exact wpAny_pure (h _)
 |tup ks=>cases n with
  |zero=>exact q.elim
  |succ n =>
   obtain⟨a,its,rfl,⟨o,ho,hc,_⟩,_⟩:=q;exact wpAny_typeOf ⟨o,ho,hc⟩ (h _)
theorem vM{n:Nat}{ds es:List KD}{v u:Value}{Q:Bool->Shared->Prop}(hu:A.units+(n+1)<cLine) (q1:KAt s.heap (n+1) (.tup ds) v) (q2:KAt s.heap (n+1) (.tup es) u) (hc:Cms ds es) (h:Q (bj ds es) s):wpAny (model prog w) A (oneLt' true v u) Q E s:=by
 obtain⟨a,its,rfl,t1,_⟩:=id q1;obtain⟨b,its2,rfl,t2,_⟩:=id q2;have T1:s.TypeIs (.ref a) "tuple":=by obtain⟨o,ho,hc,_⟩:=t1;exact⟨o,ho,hc⟩
 rw[oneLt'_eq];simp only[if_true];refine wpAny_bind (wpAny_cRoomFor_or (.inr (by lia)) ?_);refine wpAny_bind (wpAny_callSpecialIfBound?_slot T1 F.slot_tuple_lt (vy hu q1 q2 hc (DI n) ?_));exact wpAny_truthy_bool h
theorem DB(f:Bool) {n:Nat}{d e:KD}{v u:Value}{Q:Bool->Shared->Prop}(hu:A.units+n<cLine) (q1:KAt s.heap n d v) (q2:KAt s.heap n e u) (hc:Cm d e) (h:Q (ltK d e) s):wpAny (model prog w) A (oneLt' f v u) Q E s:=by
 cases f with
 |false=>exact kat_one _ _ (DI n hu q1 q2 hc h)
 |true =>
  cases d with
  |int i=>cases e with
   |int j=>obtain⟨t,rfl⟩:=kE.mp q1;obtain⟨t',rfl⟩:=kE.mp q2;exact oneLt_int (by simpa only[ltK]using h)
   |_=>exact hc.elim
  |str i=>cases e with
   |str j=>obtain⟨t,rfl⟩:=ke.mp q1;obtain⟨t',rfl⟩:=ke.mp q2;exact oneLt_str (by simpa only[ltK,ltS]using h)
   |_=>exact hc.elim
  |tup ds=>cases e with
   |tup es=>cases n with
    |zero=>exact q1.elim
    |succ n=>exact vM hu q1 q2 (by simpa only[Cm]using hc) (by simpa only[ltK]using h)
   |_=>exact hc.elim
def SKd(κ:SortKind):Prop:=κ=general'∨κ=oneType'∨∃b,κ=tuples' b
theorem Ez{κ:SortKind}(hκ:SKd κ) {n:Nat}{ds es:List KD}{v u:Value}{Q:Bool->Shared->Prop}(hu:A.units+(n+1)<cLine) (q1:KAt s.heap (n+1) (.tup ds) v) (q2:KAt s.heap (n+1) (.tup es) u) (hc:Cms ds es) (h:Q (bj ds es) s):wpAny (model prog w) A (keyLt' κ v u) Q E s:=by
 rcases hκ with rfl|rfl|⟨b,rfl⟩
 ·show wpAny _ _ (oneLt' false v u) _ _ _;exact DB false (d:=.tup ds) (e:=.tup es) hu q1 q2 (by simpa only[Cm]using hc) (by simpa only[ltK]using h)
 ·rw[keyLt'_oneType];exact vM hu q1 q2 hc h
 ·obtain⟨a,its,rfl,⟨o1,g1,c1,n1,d1⟩,z1,r1⟩:=q1;obtain⟨c,its2,rfl,⟨o2,g2,c2,n2,d2⟩,z2,r2⟩:=q2;refine kat_lt g1 d1 g2 d2 ?_;have go:∀k m,ds.length-m=k->m<=min its.size its2.size->bj ds es=bj (ds.drop m) (es.drop m)->Cms (ds.drop m) (es.drop m)->KatLex prog w A b (decide (its.size<its2.size)) Q ((its.toList.zip its2.toList).drop m) m s:=by
   intro k
   induction k with
   |zero =>
    intro m hk hm hl _;rw[List.drop_eq_nil_of_le (by rw[List.length_zip,Array.length_toList,Array.length_toList];lia)];refine kat_nil ?_;have:decide (its.size<its2.size)=bj ds es:=by
     rw[hl,List.drop_eq_nil_of_le (show ds.length<=m by lia)];rcases Nat.lt_or_ge m es.length with q|q
     ·rw[List.drop_eq_getElem_cons q,decide_eq_true (by lia)];simp[bj]
     ·rw[List.drop_eq_nil_of_le q,decide_eq_false (by lia)];simp[bj]
    rw[this];exact h
   |succ k ih =>
    intro m hk hm hl hcm;have m1:m<ds.length:=by lia
    rcases Nat.lt_or_ge m es.length with m2|m2
    ·have hz:m<(its.toList.zip its2.toList).length:=by rw[List.length_zip,Array.length_toList,Array.length_toList];lia
     rw[List.drop_eq_getElem_cons hz];have i1:m<its.size:=by lia
     have i2:m<its2.size:=by lia
     have e:(its.toList.zip its2.toList)[m]=(its[m],its2[m]):=by simp
     rw[e];have k1:=r1 m _ _ (List.getElem?_eq_getElem m1) (Array.getElem?_eq_getElem i1);have k2:=r2 m _ _ (List.getElem?_eq_getElem m2) (Array.getElem?_eq_getElem i2);rw[List.drop_eq_getElem_cons m1,List.drop_eq_getElem_cons m2]at hl hcm;simp only[bj,Cms]at hl hcm;obtain⟨bb,b1,b2⟩:=KAt.eq n (A:=A) (by lia) k1 k2;refine kat_cons (b2 prog w _ _ ?_);cases bb with
     |true =>
      rw[if_pos (b1.mp rfl)]at hl;exact kat_yes (ih (m+1) (by lia) (by lia) hl hcm.2)
     |false =>
      have ne:¬ ds[m]=es[m]:=fun z=>by have:=b1.mpr z;cases this
      rw[if_neg ne]at hl;exact kat_no (DB _ (by lia) k1 k2 hcm.1 (by rw[<-hl];exact h))
    ·rw[List.drop_eq_nil_of_le (by rw[List.length_zip,Array.length_toList,Array.length_toList];lia)];refine kat_nil ?_;have:decide (its.size<its2.size)=bj ds es:=by
      rw[hl,List.drop_eq_nil_of_le m2,List.drop_eq_getElem_cons m1,decide_eq_false (by lia)];simp[bj]
     rw[this];exact h
  exact go _ 0 rfl (Nat.zero_le _) rfl hc
theorem kQ{β:Type}{f:Value->Sem β}{R:β->Prop}:∀(l:List Value) {Q:List β->Shared->Prop},(∀v∈l,∀Q':β->Shared->Prop,(∀r,R r->Q' r s)->wpAny (model prog w) A (f v) Q' E s)->(∀rs,(∀r∈rs,R r)->Q rs s)->wpAny (model prog w) A (l.mapM f) Q E s
 |[],Q,_,h=>by rw[List.mapM_nil];exact wpAny_pure (h [] fun _ z=>nomatch z)
 |v::l,Q,hf,h=>by
  rw[List.mapM_cons];refine wpAny_bind (hf v (.head _) _ fun r hr=>wpAny_bind (kQ l (fun u hu=>hf u (.tail _ hu)) fun rs hrs=>wpAny_pure (h _ fun x hx=>?_)));rcases List.mem_cons.mp hx with rfl|hx
  ·exact hr
  ·exact hrs x hx
theorem C7{vs:List Value}{n:Nat}(hv:∀v∈vs,∃k,KAt s.heap (n+1) (.tup k) v) {Q:SortKind->Shared->Prop}(h:∀ κ,SKd κ->Q κ s):wpAny (model prog w) A (keyKind' vs.toArray) Q E s:=by
 have one:∀(l:List Value) (Q':Option Value->Shared->Prop),(∀v∈l,∃n k,KAt s.heap n k v)->(∀r,Q' r s)->wpAny (model prog w) A (oneTypeOnly' l.toArray) Q' E s:=fun l Q' hl hq=>by
  rw[oneTypeOnly'_eq,List.mapM_toArray,map_eq_pure_bind];refine wpAny_bind (wpAny_bind (kQ (R:=fun _=>True) l (fun v hv Q' hq=>let⟨n,k,q⟩:=hl v hv;Dp q fun T=>hq T trivial) fun rs _=>wpAny_pure ?_))
  split
  ·exact wpAny_pure (hq _)
  ·exact wpAny_pure (hq _)
 rw[keyKind'_eq,List.mapM_toArray,map_eq_pure_bind];refine wpAny_bind (wpAny_bind (kQ (R:=fun r:Option Value=>∀f,r=some f->∃n k,KAt s.heap n k f) vs (fun v hv' Q' hq=>?_) fun rs hrs=>wpAny_pure ?_))
 ·obtain⟨ks,a,its,rfl,⟨o,ho,hc,c,hd⟩,z,r⟩:=hv v hv';show wpAny _ _ (typeOf (.ref a) >>= _) _ _ _;refine wpAny_bind (wpAny_typeOf ⟨o,ho,hc⟩ ?_);rw[if_neg (by decide)];refine wpAny_bind (listItems_at ho hd (wpAny_pure (hq _ fun f hf=>?_)));have lt:=(Array.getElem?_eq_some_iff.mp hf).1;exact⟨n,_,r 0 _ _ (List.getElem?_eq_getElem (by lia)) hf⟩
 ·split
  ·refine wpAny_bind (wpAny_rule ?_);rw[show(rs.toArray.filterMap id)=(rs.filterMap id).toArray by simp];refine wpAny_bind (one _ _ (fun v hv=>?_) fun r=>wpAny_pure (h _ (.inr (.inr ⟨_,rfl⟩))));obtain⟨r,hr,e⟩:=List.mem_filterMap.mp hv;exact hrs r hr v e
  ·split
   ·exact wpAny_pure (h _ (.inl rfl))
   ·refine wpAny_bind (one _ _ (fun v hv'=>let⟨k,q⟩:=hv v hv';⟨_,_,q⟩) fun r=>?_)
    split
    ·exact wpAny_pure (h _ (.inr (.inl rfl)))
    ·exact wpAny_pure (h _ (.inl rfl))
end
section
variable{prog:Program}{w:World}{A:Around}{E:Value->Shared->Prop}{O:KeyOrd}
theorem vS(vs:List Value):vs.toArray.zip vs.toArray=(vs.map fun v=>(v,v)).toArray:=by
 apply Array.ext';rw[Array.toList_zip];show vs.zip vs=_
 induction vs with
 |nil=>rfl
 |cons a l ih=>rw[List.zip_cons_cons,ih];rfl
theorem zl{s:Shared}{x:Addr}{vs:List Value}{n:Nat}{key:Value->O.α}{J:SortKind->Prop}{P:PySem.Fin->Shared->Prop}(hx:s.heap.get? x=some (seqObj "list" vs.toArray n)) (hz:vs.length<=sizeLine)
  (hk:∀s1 Q,2<=vs.length->tN x s s1->(∀ κ,J κ->Q κ s1)->wpAny (model prog w) A (keyKind' vs.toArray) Q (fun _ _=>False) s1)
  (hc:∀ κ,J κ->∀u∈vs,∀v∈vs,∀s1 Q,tN x s s1->Q (O.blt (key u) (key v)) s1->wpAny (model prog w) A (keyLt' κ u v) Q (fun _ _=>False) s1)
  (k:∀(us:List Value) c h',us.Perm vs->us.Pairwise (fun a b=>O.kle (key a) (key b))->(∀b o,b≠x->s.heap.get? b=some o->h'.get? b=some o)->h'.get? x=some (seqObj "list" us.toArray c)->P (.done (.ret .none)) { s with heap:=h' }) :
  wpAny (model prog w) A (Builtin.«list.sort» ⟨[.ref x],[]⟩) P E s:=by
 have lx:x<s.heap.objs.size:=Heap.lt_size hx;obtain⟨c1,h1⟩:∃c,(s.heap.update x (Obj.mapSeq fun _=>#[])).get? x=some (seqObj "list" #[] c):=⟨_,get?_update_seq hx (fun _=>#[])⟩;rw[list_sort_plain];refine wpAny_bind (listItems_at hx rfl (wpAny_bind (listUpdate_at hx rfl (wpAny_bind (seqEpoch_at h1 rfl (wpAny_bind (wpAny_newTuple (wpAny_bind (wpAny_newList (wpAny_holding ?_) (Nat.zero_le _))) ?_)))) ?_ (Nat.zero_le _))))
 rotate_left
 ·exact hz
 ·rw[List.size_toArray];exact hz
 generalize hh:((s.heap.update x (Obj.mapSeq fun _=>#[])).push (seqObj "tuple" vs.toArray 0)).push (seqObj "list" #[] 0)=h2;show wpAny _ A _ P E { s with heap:=h2 };have g2:h2.get? x=some (seqObj "list" #[] c1):=by
  rw[<-hh];exact Heap.get?_push_of_some _ (Heap.get?_push_of_some _ h1)
 have st:tN x s { s with heap:=h2 }:=fun b o ne e=>by
  show h2.get? b=some o;rw[<-hh];exact Heap.get?_push_of_some _ (Heap.get?_push_of_some _ (by rw[Heap.get?_update_ne _ _ _ _ ne];exact e))
 have fin:∀us:List Value,us.Perm vs->us.Pairwise (fun a b=>O.kle (key a) (key b))->P (.done (.ret .none)) { s with heap:=h2.update x (Obj.mapSeq fun _=>us.toArray) }:=fun us hp hr =>
  k us _ _ hp hr (fun b o ne e=>by rw[Heap.get?_update_ne _ _ _ _ ne];exact st b o ne e) (get?_update_seq g2 fun _=>us.toArray)
 dsimp only;rw[vS]
 by_cases few:vs.toArray.size<2
 ·rw[if_pos few,if_pos few];refine wpAny_bind (wpAny_pure ?_);rw[StateT.run_pure];refine wpAny_bind (wpAny_pure ?_);dsimp only;have few':vs.length<2:=by rw[List.size_toArray]at few;exact few
  have e0:(arrOf (SortSt.mk' general' (vs.map fun v=>(v,v)).toArray #[] 7 none)).map (·.2)=vs.toArray:=by
   show(vs.map fun v=>(v,v)).toArray.map (·.2)=_;rw[List.map_toArray,List.map_map];congr 1;exact List.map_id _
  rw[e0];refine wpAny_bind (seqEpoch_at g2 rfl (wpAny_bind (listUpdate_at g2 rfl ?_ (Nat.zero_le _) (by rw[List.size_toArray];exact Nat.le_succ_of_le hz))));simp only[failedOf,bne_self_eq_false,Bool.false_eq_true,if_false];exact wpAny_pure (fin _ (List.Perm.refl _) (by
   rcases vs with _|⟨a,_|⟨b,l⟩⟩
   ·exact .nil
   ·exact .cons (fun _ z=>nomatch z) .nil
   ·exact absurd few' (by simp)))
 ·rw[if_neg few,if_neg few];have two:2<=vs.length:=by rw[List.size_toArray]at few;lia
  refine wpAny_bind (wpAny_mono (hk { s with heap:=h2 } (fun q t=>J q/\t=({ s with heap:=h2 }:Shared)) two st fun κ hκ=>⟨hκ,rfl⟩) ?_ fun _ _ z=>z.elim);rintro κ _ ⟨hκ,rfl⟩;generalize ea:(vs.map fun v=>((v,v):Keyed))=a0;have ma:∀p∈a0,p.1∈vs/\p.2=p.1:=fun p hp=>by
   rw[<-ea]at hp;obtain⟨v,hv,rfl⟩:=List.mem_map.mp hp;exact⟨hv,rfl⟩
  have la:a0.length=vs.length:=by rw[<-ea,List.length_map]
  have hA:gI prog w A { s with heap:=h2 } κ (fun p:Keyed=>key p.1) a0:=fun p hp q hq Q z=>hc κ hκ _ (ma p hp).1 _ (ma q hq).1 _ Q st z;have R:=AK (E:=E) (st:=SortSt.mk' κ a0.toArray #[] 7 none) (Q:=fun _ st'=>SB a0 κ st'/\Up (fun p:Keyed=>key p.1) (arrOf st') 0 a0.length) hA ⟨List.Perm.refl _,rfl,rfl⟩ rfl (by lia) fun st' a b=>⟨a,b⟩;refine wpAny_bind (wpAny_mono (show wpAny _ _ _ _ _ _ from R) ?_ fun _ _ z=>z);rintro⟨⟨⟩,u⟩ t ⟨rfl,hB,hU⟩;dsimp only;have hp:((arrOf u).toList.map (·.2)).Perm vs:=by
   have h:=hB.perm.map (fun p:Keyed=>p.2);rw[<-ea,List.map_map]at h;exact h.trans (.of_eq (List.map_id _))
  have hw:((arrOf u).toList.map (·.2)).Pairwise (fun a b=>O.kle (key a) (key b)):=by
   rw[List.pairwise_iff_getElem];intro i j hi hj hij;have sz:(arrOf u).size=a0.length:=hB.size;rw[List.length_map,Array.length_toList]at hi hj;have:=hU i j (Nat.zero_le _) (Nat.le_of_lt hij) (by lia);unfold kA at this;have e:∀i (h:i<(arrOf u).size),gA (arrOf u) i=(arrOf u)[i]/\((arrOf u)[i]).2=((arrOf u)[i]).1:=fun i h=>⟨by unfold gA;rw[Array.getElem?_eq_getElem h];rfl,(ma _ (hB.perm.mem_iff.mp (by simp))).2⟩;rw[(e i hi).1,(e j hj).1]at this;simp only[List.getElem_map,Array.getElem_toList,(e i hi).2,(e j hj).2];exact this
  have e0:(arrOf u).map (·.2)=((arrOf u).toList.map (·.2)).toArray:=by apply Array.ext';simp
  rw[e0];refine wpAny_bind (seqEpoch_at g2 rfl (wpAny_bind (listUpdate_at g2 rfl ?_ (Nat.zero_le _) ?_)))
  ·rw[hB.fail];simp only[bne_self_eq_false,Bool.false_eq_true,if_false];exact wpAny_pure (fin _ hp hw)
  ·rw[List.size_toArray,hp.length_eq];exact Nat.le_succ_of_le hz
theorem zH{s:Shared}{vs:List Value}{key:Value->O.α}{J:SortKind->Prop}{P:PySem.Fin->Shared->Prop}(hz:vs.length<=sizeLine)
  (hk:∀s1 Q,2<=vs.length->(∀b o,s.heap.get? b=some o->s1.heap.get? b=some o)->(∀ κ,J κ->Q κ s1)->wpAny (model prog w) A.in1 (keyKind' vs.toArray) Q (fun _ _=>False) s1)
  (hc:∀ κ,J κ->∀u∈vs,∀v∈vs,∀s1 Q,(∀b o,s.heap.get? b=some o->s1.heap.get? b=some o)->Q (O.blt (key u) (key v)) s1->wpAny (model prog w) A.in1 (keyLt' κ u v) Q (fun _ _=>False) s1)
  (k:∀(us:List Value) x c h',us.Perm vs->us.Pairwise (fun a b=>O.kle (key a) (key b))->s.heap.objs.size<=x->(∀b o,s.heap.get? b=some o->h'.get? b=some o)->h'.get? x=some (seqObj "list" us.toArray c)->P (.done (.ret (.ref x))) { s with heap:=h' }) :
  wpAny (model prog w) A (newList vs >>= fun l=>holding [l] (call (.builtin "list.sort") [l] []) >>= fun _=>ret l) P E s:=by
 refine wpAny_bind (wpAny_newList ?_ hz);have new:(s.heap.push (seqObj "list" vs.toArray 0)).get? s.heap.objs.size=some (seqObj "list" vs.toArray 0):=Heap.get?_push_size _ rfl;have kp2:∀b o,s.heap.get? b=some o->(s.heap.push (seqObj "list" vs.toArray 0)).get? b=some o:=fun b o e=>Heap.get?_push_of_some _ e;show wpAny _ _ _ _ _ { s with heap:=s.heap.push (seqObj "list" vs.toArray 0) };have go:∀(t:Shared),tN s.heap.objs.size { s with heap:=s.heap.push (seqObj "list" vs.toArray 0) } t->∀b o,s.heap.get? b=some o->t.heap.get? b=some o:=fun t ht b o e=>ht b o (Nat.ne_of_lt (Heap.lt_size e)) (kp2 b o e);refine wpAny_bind (wpAny_holding (wpAny_call_entry slot_list_sort ⟨_,new,rfl⟩ entry_list_sort ?_ (args_list_sort _)));refine zl (key:=key) (J:=J) new hz (fun t Q' two ht q=>hk t Q' two (go t ht) q) (fun κ hκ u hu v hv t Q ht q=>hc κ hκ u hu v hv t Q (go t ht) q) fun us c h' hp hr hs hx=>?_;exact⟨_,rfl,wpAny_pure (k us _ c h' hp hr (Nat.le_refl _) (fun b o e=>go { s with heap:=h' } hs b o e) hx)⟩
end
end L2
namespace L2
open PySem PySem.Spec PyProof.Rows PySem.Calls PySem.SeqAt
mutual
def kd:KD->D
 |.int i=>.int i
 |.str x=>.str x
 |.tup ks=>.tup (kds ks)
def kds:List KD->List D
 |[]=>[]
 |k::ks=>kd k::kds ks
end
theorem j7:∀ks,kds ks=ks.map kd
 |[]=>by simp[kds]
 |k::ks=>by simp[kds,j7 ks]
mutual
theorem BY:∀{a b:KD},kd a=kd b->a=b
 |.int _,.int _,h=>by simp[kd]at h;rw[h]
 |.int _,.str _,h=>by simp[kd]at h
 |.int _,.tup _,h=>by simp[kd]at h
 |.str _,.int _,h=>by simp[kd]at h
 |.str _,.str _,h=>by simp[kd]at h;rw[h]
 |.str _,.tup _,h=>by simp[kd]at h
 |.tup _,.int _,h=>by simp[kd]at h
 |.tup _,.str _,h=>by simp[kd]at h
 |.tup a,.tup b,h=>by simp only[kd,D.tup.injEq]at h;rw[oH h]
theorem oH:∀{a b:List KD},kds a=kds b->a=b
 |[],[],_=>rfl
 |[],_::_,h=>by simp[kds]at h
 |_::_,[],h=>by simp[kds]at h
 |a::as,b::bs,h=>by
  simp only[kds,List.cons.injEq]at h;rw[BY h.1,oH h.2]
end
def dY(ks:List KD):D:=.tup (kds ks)
theorem xb{a b:List KD}(h:dY a=dY b):a=b:=oH (by simpa[dY]using h)
theorem u9{a b:List (List KD)}(h:a.map dY=b.map dY):a=b:=(List.map_inj_right fun _ _ h=>xb h).mp h
def dpK:Nat->KD->Prop
 |_,.int _=>True
 |_,.str _=>True
 |0,.tup _=>False
 |n+1,.tup ks=>∀k∈ks,dpK n k
open Classical in
def kOf(h:Heap) (n:Nat) (v:Value):List KD:=if q:∃ds,KAt h n (.tup ds) v then q.choose else[]
theorem oJ{h:Heap}{n:Nat}{v:Value}{ds:List KD}(q:KAt h n (.tup ds) v):kOf h n v=ds:=by
 have e:∃ds,KAt h n (.tup ds) v:=⟨_,q⟩;unfold kOf;rw[dif_pos e];have:=KAt.same n e.choose_spec q;cases this;rfl
def Rws(ks:List (List KD)):Prop:=(∀k∈ks,dpK 9 (.tup k))/\∀a∈ks,∀b∈ks,Cms a b
theorem Rws.sub{ks js:List (List KD)}(h:Rws ks) (s:∀k∈js,k∈ks):Rws js:=⟨fun k hk=>h.1 k (s k hk),fun a ha b hb=>h.2 a (s a ha) b (s b hb)⟩
section
variable{X:Cx}{ag:List (Addr×Obj)}{s:Shared}{σ:St}{H:Hp}{M:DH}{K:PySem.W.Frag}
theorem yw(I:Inv X ag σ H s):∀(n:Nat) {k:KD}{v:V}{u:Value},dpK n k->Rep X.K M H (kd k) v->aE v u->KAt s.heap n k u:=by
 intro n
 induction n with
 |zero =>
  intro k v u hd r q;cases k with
  |int i=>simp only[kd,Rep]at r;subst r;exact q
  |str i=>simp only[kd,Rep]at r;subst r;exact q
  |tup _=>exact hd.elim
 |succ n ih =>
  intro k v u hd r q;cases k with
  |int i=>simp only[kd,Rep]at r;subst r;exact q
  |str i=>simp only[kd,Rep]at r;subst r;exact q
  |tup ks =>
   simp only[kd,Rep]at r;obtain⟨a,vs,rfl,t,rl⟩:=r;cases q;obtain⟨its,rv,tp,hz⟩:=I.tuple t.sq;refine⟨a,its.toArray,rfl,tp,?_,fun i d u h1 h2=>?_⟩
   ·rw[List.size_toArray,<-rv.length,<-rl.length,j7,List.length_map]
   ·obtain⟨v,g,r⟩:=rl.get (i:=i) (d:=kd d) (by rw[j7,List.getElem?_map,h1];rfl);obtain⟨u',g',r'⟩:=rv.get g;rw[List.getElem?_toArray,g']at h2;cases h2;exact ih (hd d (List.mem_of_getElem? h1)) r r'
theorem lP(I:Inv X ag σ H s) {n:Nat}{ks:List (List KD)}{vs:List V}{its:List Value}(hd:∀k∈ks,dpK n (.tup k)) (rl:ar X.K M H (ks.map dY) vs) (rv:ay vs its) {i:Nat}{k:List KD}{u:Value}(h1:ks[i]?=some k) (h2:its[i]?=some u):KAt s.heap n (.tup k) u:=by
 obtain⟨v,g,r⟩:=rl.get (i:=i) (d:=dY k) (by rw[List.getElem?_map,h1];rfl);obtain⟨u',g',r'⟩:=rv.get g;rw[g']at h2;cases h2;exact yw I n (k:=.tup k) (hd k (List.mem_of_getElem? h1)) (by simp only[kd];exact r) r'
theorem vh{τ:Type}{f:τ->D}{its us:List Value}(p:its.Perm us):∀{vs:List V}{ks:List τ},ay vs its->ar K M H (ks.map f) vs->∃(vs':List V) (ks':List τ),ay vs' us/\ar K M H (ks'.map f) vs'/\ks'.Perm ks:=by
 induction p with
 |nil=>intro vs ks rv rl;exact⟨vs,ks,rv,rl,.refl _⟩
 |cons x p ih =>
  intro vs ks rv rl;cases rv with
  |cons r t=>cases ks with
   |nil=>cases rl
   |cons k ks =>
    simp only[List.map_cons,ar]at rl;obtain⟨v,ws,e,r1,r2⟩:=rl;cases e;obtain⟨vs',ks',a,b,c⟩:=ih t r2;exact⟨_::vs',k::ks',.cons r a,ar.cons r1 b,c.cons _⟩
 |swap x y l =>
  intro vs ks rv rl;cases rv with
  |cons r t=>cases t with
   |cons r' t=>cases ks with
    |nil=>cases rl
    |cons k ks=>cases ks with
     |nil=>simp only[List.map_cons,List.map_nil,ar]at rl;obtain⟨v,ws,e,r1,r2⟩:=rl;cases e;cases r2
     |cons j ks =>
      simp only[List.map_cons,ar]at rl;obtain⟨v,ws,e,r1,v2,ws2,e2,r2,r3⟩:=rl;cases e;cases e2;exact⟨_::_::_,j::k::ks,.cons r' (.cons r t),ar.cons r2 (ar.cons r1 r3),.swap _ _ _⟩
 |trans _ _ ih1 ih2 =>
  intro vs ks rv rl;obtain⟨vs',ks',a,b,c⟩:=ih1 rv rl;obtain⟨vs2,ks2,a2,b2,c2⟩:=ih2 a b;exact⟨vs2,ks2,a2,b2,c2.trans c⟩
theorem wX{A:Around}{E:Value->Shared->Prop}{P:PySem.Fin->Shared->Prop}{Q:VK}{ks:List (List KD)}{vs:List V}{its:List Value}(hu:A.in1.units+9<cLine) (I:Inv X ag σ H s) (hr:HR X.K M H) (hk:Rws ks) (rl:ar X.K M H (ks.map dY) vs) (rv:ay vs its) (hz:vs.length<=sizeLine)
  (q:∀x vs',H x=none->ar X.K M H ((iK ks).map dY) vs'->Q (.ref x) (upd H x (.lst vs'))) (k:∀x s',EP X ag σ Q (.ref x) s'->P (.done (.ret (.ref x))) s') :
  wpAny (model X.prog X.w) A (newList its >>= fun l=>holding [l] (call (.builtin "list.sort") [l] []) >>= fun _=>ret l) P E s:=by
 have hlk:ks.length=its.length:=by rw[<-rv.length,<-rl.length,List.length_map]
 have at_:∀u∈its,∃k∈ks,KAt s.heap 9 (.tup k) u:=fun u hu=>by
  obtain⟨i,hi⟩:=List.mem_iff_getElem?.mp hu;have lt:i<ks.length:=by rw[hlk];exact(List.getElem?_eq_some_iff.mp hi).1
  exact⟨_,List.getElem_mem lt,lP I hk.1 rl rv (List.getElem?_eq_getElem lt) hi⟩
 refine zH (O:=zr) (key:=kOf s.heap 9) (J:=SKd) (by rw[<-rv.length];exact hz) (fun s1 Q' _ kp q'=>?_) (fun κ hκ u hu' v hv s1 Q' kp q'=>?_) fun us x c h' hp hw hx kp ho=>?_
 ·exact C7 (n:=8) (fun v hv=>let⟨k,_,z⟩:=at_ v hv;⟨k,z.up fun b o _ e=>kp b o e⟩) q'
 ·obtain⟨a,ha,qa⟩:=at_ u hu';obtain⟨b,hb,qb⟩:=at_ v hv;have q2:Q' (bj (kOf s.heap 9 u) (kOf s.heap 9 v)) s1:=q';rw[oJ qa,oJ qb]at q2;exact Ez hκ (n:=8) hu (qa.up fun b o _ e=>kp b o e) (qb.up fun b o _ e=>kp b o e) (hk.2 a ha b hb) q2
 ·obtain⟨vs',ks',rv',rl',hk'⟩:=vh hp.symm rv rl;have I2:=I.laid (t':=s.toks) (o:=.lst vs') kp hx (show bB X.prog X.w _ h' x (.lst _)from⟨by rw[rv'.length,hp.length_eq,<-rv.length];exact hz,us,c,rv',ho⟩);have es:ks'=iK ks:=by
   refine vY hk' ?_;have hl':ks'.length=us.length:=by rw[<-rv'.length,<-rl'.length,List.length_map]
   rw[List.pairwise_iff_getElem];intro i j hi hj hij;have:=List.pairwise_iff_getElem.mp hw i j (by lia) (by lia) hij;have d':∀k∈ks',dpK 9 (.tup k):=fun k hk2=>hk.1 k (hk'.mem_iff.mp hk2);have ki:=lP I d' rl' rv' (List.getElem?_eq_getElem hi) (List.getElem?_eq_getElem (show i<us.length by lia));have kj:=lP I d' rl' rv' (List.getElem?_eq_getElem hj) (List.getElem?_eq_getElem (show j<us.length by lia));rw[oJ ki,oJ kj]at this;have z:bj ks'[j] ks'[i]=false:=this;simp only[leK,z,Bool.not_false]
  subst es;exact k _ _ ⟨.ref x,_,I2,rfl,q x vs' (I.hok.fresh hx) rl'⟩
open Classical in
def g8:D->Option D
 |.lst ds=>if h:∃ks:List (List KD),ds=ks.map dY/\Rws ks then some (.lst ((iK h.choose).map dY))else none
 |.tup ds=>if h:∃ks:List (List KD),ds=ks.map dY/\Rws ks then some (.lst ((iK h.choose).map dY))else none
 |_=>none
theorem uX{ks:List (List KD)}(h:Rws ks):g8 (.lst (ks.map dY))=some (.lst ((iK ks).map dY)):=by
 have e:∃js:List (List KD),ks.map dY=js.map dY/\Rws js:=⟨ks,rfl,h⟩;simp only[g8];rw[dif_pos e,<-u9 e.choose_spec.1]
theorem mS(hu:X.A.units+64<cLine) {T:String}{o:Obj}{n:Nat}{l:Addr}{ks:List (List KD)}{vs:List V}{its:List Value}{Q:VK}(I:Inv X ag σ H s) (hr:HR X.K M H) (hk:Rws ks) (rl:ar X.K M H (ks.map dY) vs) (rv:ay vs its) (hz:vs.length<=sizeLine)
  (hT:T="list"∨T="tuple") (hg:s.heap.get? l=some o) (hcl:o.cls=.type T) (hd:o.data=.seq its.toArray n)
  (q:∀x vs',H x=none->ar X.K M H ((iK ks).map dY) vs'->Q (.ref x) (upd H x (.lst vs'))):wpAny (model X.prog X.w) X.A (call (.builtin "sorted") [.ref l]) (EP X ag σ Q) X.xe s:=by
 refine call_function_entry kind_sorted plain_sorted entry_sorted (args_sorted1 _) ?_;unfold Builtin.«sorted»;refine wpAny_bind (m:=checkCount "sorted" 1 1 _) (wpAny_pure ?_);refine wpAny_bind (wpAny_collect_seq l hT hg hcl hd (fun h1 kp0=>?_) (by rw[rv.length]at hz;simpa using hz));have I1:Inv X ag σ H { s with heap:=h1,toks:=s.toks }:=I.kept kp0;exact wX (show X.A.units+1+1+9<cLine by lia) I1 hr hk rl rv hz q fun x s' e=>⟨_,rfl,e⟩
theorem oA(hu:X.A.units+64<cLine):bZ X (.builtin "sorted") (uP g8):=by
 intro ag s σ H M xs us ds dz Q I hr rv rp e k;obtain⟨d,rfl,e0⟩:=gH e;clear e;obtain⟨v,rfl,r⟩:=tJ rp;obtain⟨u,rfl,ru⟩:=ay.one rv;cases d with
 |lst ds =>
  simp only[g8]at e0
  by_cases h:∃ks:List (List KD),ds=ks.map dY/\Rws ks
  ·rw[dif_pos h]at e0;obtain⟨e1,e2⟩:=h.choose_spec;generalize h.choose=ks at e0 e1 e2;subst e1;cases e0;obtain⟨l,vs,rfl,sq,rl⟩:=r;cases ru;obtain⟨its,rv,pl,hz⟩:=I.list (SqL.of sq);obtain⟨o,hg,hcl,n,hd⟩:=pl.isList;exact mS hu I hr e2 rl rv hz (.inl rfl) hg hcl hd fun x vs' hx r=>gY hr hx r k
  ·rw[dif_neg h]at e0;cases e0
 |tup ds =>
  simp only[g8]at e0
  by_cases h:∃ks:List (List KD),ds=ks.map dY/\Rws ks
  ·rw[dif_pos h]at e0;obtain⟨e1,e2⟩:=h.choose_spec;generalize h.choose=ks at e0 e1 e2;subst e1;cases e0;obtain⟨l,vs,rfl,sq,rl⟩:=r;cases ru;obtain⟨its,rv,⟨o,hg,hcl,n,hd⟩,hz⟩:=I.tuple sq;exact mS hu I hr e2 rl rv hz (.inr rfl) hg hcl hd fun x vs' hx r=>gY hr hx r k
  ·rw[dif_neg h]at e0;cases e0
 |_=>cases e0
end
end L2
namespace L2
open PySem PySem.Spec PyProof.Rows PySem.Calls PySem.SeqAt PySem.W
open Classical in
instance decKs:DecidableEq (List KD):=fun _ _=>propDecidable _
end L2
namespace L2
open PySem PySem.Spec PyProof.Rows PySem.Calls PySem.SeqAt
end L2
namespace L2
open PySem PySem.Spec PyProof.Rows
end L2
namespace L2
open PySem PySem.Spec PyProof.Rows PySem.Calls PySem.SeqAt
end L2
namespace L2
open PySem PySem.Spec PyProof.Rows
section
open PySem.Calls PySem.SeqAt
variable{X:Cx}{ag:List (Addr×Obj)}{s:Shared}{σ:St}{H:Hp}{M:DH}{K:PySem.W.Frag}
end
end L2
namespace L2
open PySem PySem.Spec PyProof.Rows PySem.Calls PySem.SeqAt
end L2
namespace L2
open PySem PySem.Spec PyProof.Rows PySem.Builtin PySem.Builtin.Str StrLaws
end L2
namespace L2
open PySem PySem.Spec PyProof.Rows
open AutoSeq1 (wpAny_loadPart')
theorem bB.is{P:Program}{w:World}{H:Hp}{h:Heap}{a:Addr}{o:HO}(x:bB P w H h a o):∃u,h.get? a=some u:=by
 cases o with
 |lst xs=>obtain⟨_,_,_,_,e⟩:=x;exact⟨_,e⟩
 |tup xs=>obtain⟨_,_,_,ob,e,_⟩:=x;exact⟨_,e⟩
 |dK kvs=>obtain⟨_,_,_,_,o,_,_,e,_⟩:=x;exact⟨_,e⟩
 |dT kvs=>obtain⟨_,_,_,_,o,_,_,e,_⟩:=x;exact⟨_,e⟩
 |set S n=>obtain⟨o,_,_,_,e,_⟩:=x;exact⟨_,e⟩
 |ins C dx fs=>obtain⟨_,_,_,e,_⟩:=x;exact⟨_,e⟩
 |own y=>exact x
 |xd fs=>obtain⟨_,⟨_,_,_,e,_⟩,_⟩:=x;exact⟨_,e⟩
 |rng lo hi=>obtain⟨_,_,_,e⟩:=x;exact⟨_,e⟩
 |frz ob u=>obtain⟨e,_⟩:=x;exact⟨_,e⟩
 |tbl ps=>exact⟨_,x⟩
 |met f y=>exact⟨_,x⟩
 |ext φ=>exact x.2.1
end L2
namespace L2
open PySem PySem.Spec PySem.Calls PyProof.Rows PySem.W PySem.Builtin PySem.Builtin.ObjectAttr PySem.Builtin.Getset_descriptor
end L2
namespace L2
open PySem PySem.Spec PyProof.Rows
section
variable{X:Cx}{ag:List (Addr×Obj)}{σ:St}{H:Hp}{s:Shared}
theorem Inv.track{a:Addr}{φ:Heap->Prop}(I:Inv X ag σ H s) (hn:H a=none) (ho:bB X.prog X.w (upd H a (.ext φ)) s.heap a (.ext φ)) (h0:X.s₀.heap.get? a=none) (hL:a≠X.env.locals) (hc:∀x c,X.env.cells.lookup x=some c->c≠a)
  (hp:∀p∈X.pn++ag,p.1≠a):Inv X ag σ (upd H a (.ext φ)) s:=by
 have ne:∀{b o},H b=some o->upd H a (.ext φ) b=some o:=fun {b o} q=>by
  by_cases z:b=a
  ·rw[z,hn]at q;cases q
  ·rw[ax z];exact q
 refine⟨I.ok,I.os,I.bare,⟨I.base.keep,I.base.slot,fun b o e n x=>?_,I.base.there,fun b xs q=>ne (I.base.tups b xs q),fun b o u q=>ne (I.base.frzs b o u q),fun b ps q=>?_⟩,I.loc,I.cell,?_,fun x c e=>?_,fun p z=>?_,fun b o e=>?_,I.len⟩
 ·have:b≠a:=fun z=>by rw[z,h0]at e;cases e
  rw[ax this];exact I.base.free b o e n x
 ·obtain⟨more,q'⟩:=I.base.tbls b ps q;exact⟨more,ne q'⟩
 ·rw[ax (Ne.symm hL)];exact I.free
 ·rw[ax (hc x c e)];exact I.freeC x c e
 ·obtain⟨h1,h2,h3⟩:=I.pin p z;exact⟨h1,by rw[ax (hp p z)];exact h2,h3⟩
 ·by_cases hb:b=a
  ·subst hb;rw[aF]at e;cases e;exact ho
  ·rw[ax hb]at e;exact(I.hok b o e).stay (fun c v _ r=>r) (fun c r=>ne r) fun c xs r=>ne r
end
def E6(j:Nat) (E:fF):fF where
 nx:=fun Δ M=>∃M3,LeM M3 M/\E.nx (Δ.set j none) M3
 bk:=fun Δ M=>∃M3,LeM M3 M/\E.bk (Δ.set j none) M3
 ct:=fun Δ M=>∃M3,LeM M3 M/\E.ct (Δ.set j none) M3
 rt:=fun d M=>∃M3,LeM M3 M/\E.rt d M3
def EG(pos:Pos):Option Addr->Obj
 |none=>PySem.W.tabObj #[]
 |some c=>PySem.W.tabObj #[rawInt pos.line,rawInt pos.col,.ref c]
def ju(P:Addr) (pos:Pos) (c:Option Addr) (h:Heap):Prop:=h.get? P=some (EG pos c)
def Bz(c:Addr) (q:Str) (h:Heap):Prop:=∃o vs t,h.get? c=some o/\o.data=.fields vs/\vs[1]?=some (.str q t)
def jK(P:Addr) (pos:Pos) (c:Option Addr):HD:=.ext (fun _=>ju P pos c) []
def Bj(c:Addr) (q:Str):HD:=.ext (fun _=>Bz c q) []
def cL(P:Addr) (pos:Pos) (q:Str) (M:DH):Prop:=M P=some (jK P pos none)∨∃c,M P=some (jK P pos (some c))/\M c=some (Bj c q)
def aV(K:PySem.W.Frag) (P:Addr):PySem.W.Frag:=K.filter fun p=>p.1 != P
theorem bG{P a:Addr}(h:a≠P):∀K:PySem.W.Frag,(aV K P).lookup a=K.lookup a
 |[]=>rfl
 |(b,o)::K=>by
  have ih:=bG h K;unfold aV at ih ⊢
  by_cases hb:b=P
  ·rw[List.filter_cons_of_neg (by simp[hb]),ih,List.lookup_cons,beq_eq_false_iff_ne.mpr (fun e=>h (e.trans hb))]
  ·rw[List.filter_cons_of_pos (by simp[hb]),List.lookup_cons,List.lookup_cons,ih]
theorem lO{P:Addr}:∀K:PySem.W.Frag,(aV K P).lookup P=none
 |[]=>rfl
 |(b,o)::K=>by
  have ih:=lO (P:=P) K;unfold aV at ih ⊢
  by_cases hb:b=P
  ·rw[List.filter_cons_of_neg (by simp[hb]),ih]
  ·rw[List.filter_cons_of_pos (by simp[hb]),List.lookup_cons,beq_eq_false_iff_ne.mpr (fun e=>hb e.symm),ih]
theorem aJ{K:PySem.W.Frag}{P:Addr}{h:Heap}(X:K.In h):(aV K P).In h:=fun a o e=>by
 by_cases ha:a=P
 ·subst ha;rw[lO]at e;cases e
 ·rw[bG ha]at e;exact X a o e
theorem bC.cut{K:PySem.W.Frag}{P f:Addr}{x:Str}{st:Stmt}{fd:FuncData}(i:bC K x st f fd) (hP:K.lookup P=some (PySem.W.tabObj #[])):bC (aV K P) x st f fd:=by
 obtain⟨a,⟨oc,od,kV,doc,pm,an,cdv,ct,osl,e,lk,hcd⟩,kp⟩:=i;have hf:f≠P:=fun z=>by rw[z,hP]at lk;cases lk
 have hg:mainGlobals≠P:=fun z=>by
  unfold PySem.W.nsIn at a;rw[z,hP]at a;cases a
 refine⟨?_,⟨oc,od,kV,doc,pm,an,cdv,ct,osl,e,(bG hf K).trans lk,?_⟩,?_⟩
 ·unfold PySem.W.nsIn at a ⊢;rw[bG hg];exact a
 ·cases cdv<;>try (exact hcd)
  rename_i c;have hc:c≠P:=fun z=>by
   unfold PySem.W.codeIn at hcd;rw[z]at hcd;simp only[hP]at hcd;cases hcd
  unfold PySem.W.codeIn at hcd ⊢;simp only[bG hc];exact hcd
 ·unfold PySem.W.keepIn;simp only[bG hf,lk]
def wz(P:Addr) (pos:Pos) (H:Hp):Prop:=H P=some (.ext (ju P pos none))/\∀b,b≠P->H b=none∨∃o xs,H b=some (.frz o (.lst xs))
theorem ui{P:Program}{w:World}{K:PySem.W.Frag}{mg mb:Str->Option Value}{CX:CXT}{k:Nat}{fa a T:Addr}{fd:FuncData}{x:Str}{sp:Sp}{s₁:Shared}{vs:List Value}{ns:List Int}{pos:Pos}
  (KX:K.In s₁.heap) (hns:s₁.heap.Ns mainGlobals mg) (hb:s₁.heap.Ns builtinsNs mb) (hbb:∀x:Str,x≠"__name__"->mb x=bootBuiltins x) (hlim:s₁.heap.NoLimit) (hg:s₁.gens=#[])
  (ha:s₁.heap.get? a=some { cls:=.type "list",data:=.seq vs.toArray }) (hi:IntsAre vs ns) (hl:ns.length<=sizeLine) (hr:cw k callerA)
  (hT:K.lookup T=some (PySem.W.tabObj #[])) (hct:isCodeTable s₁.heap T) (hbm:s₁.heap.BuiltinsAt mg T)
  (F:∀base:Heap,(aV K T).In base->base.Ns mainGlobals mg->base.BuiltinsAt mg T->bg P w (aV K T) mg base CX k fa fd [x] sp) (hbind:∀(s:Shared) (u:Value),BindsTo s fd ⟨[u],[]⟩ [(x,u)])
  (hsp:∀H:Hp,wz T pos H->SqL (aV K T) H a (ns.map V.int)->sp [.ref a] H (fun v H'=>v=.bl true/\∃c,H' T=some (.ext (ju T pos c))) fun _ _ _=>False)
  (hCX:∀H e s',CX [] H s₁ (fun _ _ _=>False) e s'->False) :
  codeAny (model P w) callerA (.call (.ref fa) ⟨[.ref a],[]⟩) (fun r s'=>r=.ok (.ret (.bool true))/\OldK s₁.heap s'.heap/\s'.os=s₁.os/\AllBare s'.gens) s₁:=by
 have rv:=mT hi;have lenV:=hi.length;have hTo:s₁.heap.get? T=some (PySem.W.tabObj #[]):=KX T _ hT;have haT:a≠T:=fun z=>by rw[z,hTo]at ha;cases ha
 have core:∀H:Hp,wz T pos H->SqL (aV K T) H a (ns.map V.int)->HOk P w H s₁.heap->(∀b,H b≠none->b=a∨b=T)->(H a≠none->K.lookup a=none) ->
   codeAny (model P w) callerA (.call (.ref fa) ⟨[.ref a],[]⟩) (fun r s'=>r=.ok (.ret (.bool true))/\OldK s₁.heap s'.heap/\s'.os=s₁.os/\AllBare s'.gens) s₁:=by
  intro H hO hS hok hA hK;have base_of:∀{b:Addr} {o:Obj},s₁.heap.get? b=some o->H b=none->(mi s₁.heap H).get? b=some o:=fun e n=>v9 e n;have noA:∀{b:Addr} {o:Obj} {es:Array DictEntry} {ep:Nat},s₁.heap.get? b=some o->o.data=.dict es ep->H b=none:=fun {b o es ep} e d=>by
   cases q:H b with
   |none=>rfl
   |some u =>
    rcases hA b (by rw[q];simp)with e'|e'
    ·subst e';rw[ha]at e;cases e;have d':Data.seq vs.toArray _=Data.dict es ep:=d;cases d'
    ·subst e';rw[hTo]at e;cases e;have d':Data.fields #[]=Data.dict es ep:=d;cases d'
  have nsK:∀{b:Addr} {m:Str->Option Value},s₁.heap.Ns b m->(mi s₁.heap H).Ns b m:=fun {b m} ⟨o,es,ep,e,d,r⟩=>⟨o,es,ep,base_of e (noA e d),d,r⟩;have hKb:(aV K T).In (mi s₁.heap H):=fun b o e=>by
   have hbT:b≠T:=fun z=>by rw[z,lO]at e;cases e
   refine base_of (aJ KX b o e) ?_;cases q:H b with
   |none=>rfl
   |some u =>
    rcases hA b (by rw[q];simp)with e'|e'
    ·subst e';rw[bG hbT,hK (by rw[q];simp)]at e;cases e
    ·exact absurd e' hbT
  have hM:Mod (aV K T) mg (mi s₁.heap H):=⟨hKb,nsK hns,⟨mb,nsK hb,hbb⟩,let⟨mc,h1,h2⟩:=hlim;⟨mc,nsK h1,h2⟩⟩;have e0:rQ P w (aV K T) mg (mi s₁.heap H) callerA [] s₁ H:=⟨rfl,hM,fun b o e=>yL e,Nat.le_of_eq (ut _ _),trivial,fun b hb=>absurd (show b∈([]:List Addr)from hb) (by simp),hok,.of_eq hg⟩;have hbB:(mi s₁.heap H).BuiltinsAt mg T:=by
   obtain⟨bm,o,b1,b2,b3,b4,b5,b6,b7,b8⟩:=hbm;refine⟨bm,o,b1,b2,b3,b4,base_of b5 ?_,b6,b7,b8⟩;cases q:H bm with
   |none=>rfl
   |some u =>
    rcases hA bm (by rw[q];simp)with e'|e'
    ·rw[e',ha]at b5;cases b5;cases b8
    ·exact absurd e' b4
  refine codeAny_mono ((F _ hKb (nsK hns) hbB).run callerA [] s₁ H ⟨[.ref a],[]⟩ [.ref a] [.ref a] _ _ hr e0 (hbind s₁ (.ref a)) (.cons rfl .nil) (hsp H hO hS)) fun r s' h=>?_;cases r with
  |error e=>exact(hCX H e s' h).elim
  |ok fl =>
   cases fl with
   |next=>exact False.elim h
   |brk=>exact False.elim h
   |cont=>exact False.elim h
   |ret u =>
    obtain⟨v,H',os,bare,un,hok',r',q⟩:=h;obtain⟨rfl,c,hc⟩:=q;obtain rfl:u=Value.bool true:=r';obtain⟨et,_⟩:=hok' T _ hc;have keep:∀b o,b≠T->s₁.heap.get? b=some o->s'.heap.get? b=some o:=fun b o hbT e=>by
     cases q:H b with
     |none=>exact un.keep b o e q (by intro z;exact absurd (show b∈([]:List Addr)from z) (by simp)) (by simp)
     |some u =>
      rcases hO.2 b hbT with z|⟨ob,xs,z⟩
      ·rw[q]at z;cases z
      ·have z2:=un.frzs b ob _ z;obtain⟨e1,_⟩:=hok b _ z;obtain⟨e2,_⟩:=hok' b _ z2;rw[e]at e1;cases e1;exact e2
    have et':∃more,s'.heap.get? T=some (PySem.W.tabObj (#[]++more)):=by
     cases c with
     |none=>exact⟨#[],et⟩
     |some c=>exact⟨#[rawInt pos.line,rawInt pos.col,.ref c],et⟩
    refine⟨rfl,⟨fun b o e=>?_,fun b o e=>?_⟩,os,bare⟩
    ·by_cases hbT:b=T
     ·subst hbT;rw[hTo]at e;cases e;obtain⟨more,em⟩:=et';exact .inr (.inl ⟨hct,rfl,#[],more,rfl,em⟩)
     ·exact .inl (keep b o hbT e)
    ·by_cases hbT:b=T
     ·subst hbT;obtain⟨more,em⟩:=et';exact⟨_,em⟩
     ·exact⟨o,keep b o hbT e⟩
 have tok:bB P w (fun _=>none) s₁.heap T (.ext (ju T pos none)):=⟨hTo,⟨_,hTo⟩,fun h1 h2 e1 k=>k _ e1⟩;cases hk:K.lookup a with
 |some o =>
  have e:=KX a o hk;rw[ha]at e;cases e;refine core (fun b=>if b=T then some (.ext (ju T pos none))else none) ⟨if_pos rfl,fun b hb=>.inl (if_neg hb)⟩ (.inr ⟨_,vs.toArray,_,(bG haT K).trans hk,rfl,rfl,rfl,by rw[List.size_toArray,lenV];exact hl,by simpa using rv⟩) (fun b u z=>?_) (fun b z=>?_) fun z=>absurd (if_neg haT) z
  ·by_cases hb:b=T
   ·have z':=(if_pos hb).symm.trans z;cases z';subst hb;exact tok
   ·have z':=(if_neg hb).symm.trans z;cases z'
  ·by_cases hb:b=T
   ·exact .inr hb
   ·exact absurd (if_neg hb) z
 |none =>
  refine core (fun b=>if b=T then some (.ext (ju T pos none))else if b=a then some (.frz { cls:=.type "list",data:=.seq vs.toArray } (.lst (ns.map V.int)))else none) ⟨if_pos rfl,fun b hbT=>?_⟩ (.inl (.inr ⟨{ cls:=.type "list",data:=.seq vs.toArray },(if_neg haT).trans (if_pos rfl)⟩)) (fun b u z=>?_) (fun b z=>?_) fun _=>hk
  ·by_cases hb:b=a
   ·exact .inr ⟨_,_,(if_neg hbT).trans (if_pos hb)⟩
   ·exact .inl ((if_neg hbT).trans (if_neg hb))
  ·by_cases hbT:b=T
   ·have z':=(if_pos hbT).symm.trans z;cases z';subst hbT;exact tok
   ·by_cases hb:b=a
    ·have z':=((if_neg hbT).trans (if_pos hb)).symm.trans z;cases z';subst hb;exact⟨ha,by rw[List.length_map];exact hl,vs,_,rv,ha⟩
    ·have z':=((if_neg hbT).trans (if_neg hb)).symm.trans z;cases z'
  ·by_cases hbT:b=T
   ·exact .inr hbT
   ·by_cases hb:b=a
    ·exact .inl hb
    ·exact absurd ((if_neg hbT).trans (if_neg hb)) z
end L2
namespace L2
open PySem PySem.Spec PySem.Calls PyProof.Rows
section
variable{prog:Program}{w:World}{A:Around}{s:Shared}
theorem xx{f c' b:Addr}{name qual x:Str}{params:Arguments}{scope:Scope}{clos:List (Str×Addr)}{pm ctv:Value}{p1 p2 p3:Pos}{kj:Nat}{j:Int}{t:Tok}{its:List Value}
  (hf:s.heap.get? f=some (PySem.W.kla_obj name qual params (.Subscript (.Name x p1) (.Constant (.int 1) kj p2) p3) scope clos pm c' ctv)) (hcd:s.heap.CodeRec (.ref c') qual) (hlim:s.heap.NoLimit) (hroom:A.depth<recursionLimit)
  (hbind:∀v,bindArgs (PySem.W.kla_fn name qual params (.Subscript (.Name x p1) (.Constant (.int 1) kj p2) p3) scope clos pm (.ref c') ctv) ⟨[v],[]⟩=pure [(x,v)])
  (hx:scope.names.lookup x=some .local) (hcell:∀y∈scope.names,y.2≠.cell) (hco:scope.isCoroutine=false) (hgen:scope.isGenerator=false) (hk:scope.kind=.function) (hd:(x==("__debug__":Str))=false)
  (hb:IsTup s.heap b its.toArray) (hz:its.length<1000) (hj:its[1]?=some (.int j t)) :
  wpAny (model prog w) A (call (.ref f) [.ref b]) (fun v s'=>∃h' tk,s'={ s with heap:=h',toks:=tk }/\v=.int j t/\∀a o,s.heap.get? a=some o->h'.get? a=some o) (fun _ _=>False) s:=by
 refine wpAny_call (PySem.W.kla_callFunE hroom hf rfl hco hgen rfl hcd ?_);rw[hbind];refine wpAny_pure (wpAny_newFunctionEnv hcell (fun y hy=>by rw[List.mem_singleton.mp hy];exact hx) (fun h₁ hns hsb=>⟨hlim.fresh _ hsb,?_⟩) hk);have hk₁:∀b o,s.heap.get? b=some o->h₁.get? b=some o:=fun b o e=>hsb.extBut b o (Nat.ne_of_lt (Heap.lt_size e)) (Heap.get?_push_of_some _ e);refine PySem.W.kla_codeExpr ?_;refine Subscript_ (wpAny_Name (wpAny_loadName_local (m:=fun y=>[(x,Value.ref b)].reverse.lookup y) (v:=.ref b) hk ?_ hns (by simp[List.lookup]) ?_) hd)
 ·exact hx
 ·refine wpAny_Constant_int ?_;have hb1:IsTup h₁ b its.toArray:=let⟨o,e,r⟩:=hb;⟨o,hk₁ b o e,r⟩
  have hi:1<its.length:=(List.getElem?_eq_some_iff.mp hj).1;refine subscriptTail_builtinR (x:=Value.int j t) hb1.typeIs slot_tuple_getitem.lookup (getItem_tuple (k:=1) (j:=1) hb1 (by decide) (by decide) (seqIndex_of (by decide) ?_) (by simpa using hj) ⟨rfl,h₁,_,rfl,rfl,hk₁⟩) rfl;simp;lia
theorem rC{l f L:Addr}{o:Obj}{n:Nat}{T:String}{vs:List Value}{kz:List Int}{m:Str->Option Value}{Q:Value->Shared->Prop}{E:Value->Shared->Prop}
  (hT:T="list"∨T="tuple") (hg:s.heap.get? l=some o) (hcl:o.cls=.type T) (hd:o.data=.seq vs.toArray n) (hL:s.heap.Ns L m) (bP:kz.length=vs.length) (h64:vs.length<64)
  (turn:∀ (i:Nat) (v:Value) (k:Int),vs[i]? = some v → kz[i]? = some k → ∀ (h:Heap) (tk:Nat),(∀ b o,b ≠ L → s.heap.get? b = some o → h.get? b = some o) →
   wpAny (model prog w) A.in1.in1 (call (.ref f) [v]) (fun u s'=>∃h' tk' t',s'={ s with heap:=h',toks:=tk' }/\u=.int k t'/\∀a o,h.get? a=some o->h'.get? a=some o) (fun _ _=>False) { s with heap:=h,toks:=tk })
  (h:∀(h1:Heap) (D:Addr) (h':Heap) (tk:Nat) (out:Array Value) (c:Nat),(∀b o,s.heap.get? b=some o->h1.get? b=some o)->(∀b o,b≠L->h1.get? b=some o->h'.get? b=some o)->h'.Ns L m->h1.objs.size<=D->h'.get? D=some (seqObj "list" out c)->KskOut false kz vs out.toList->Q (.ref D) { s with heap:=h',toks:=tk }) :
  wpAny (model prog w) A (call (.builtin "sorted") [.ref l] [(Str.ofString "key",.ref f)]) Q E s:=by
 refine call_function_entry_kw kind_sorted plain_sorted entry_sorted (ksk_s1 _ _) ?_;unfold Builtin.«sorted»;refine wpAny_bind (m:=checkCount "sorted" 1 1 _) (wpAny_pure ?_);refine wpAny_bind (wpAny_collect_seq l hT hg hcl hd (fun h1 kp0=>?_) (by rw[List.size_toArray,sizeLine_eq];lia));have kp:∀b u,s.heap.get? b=some u->h1.get? b=some u:=kp0;refine wpAny_bind (wpAny_newList ?_ (by rw[sizeLine_eq];simp;lia));have hoL:(h1.push (seqObj "list" vs.toArray 0)).get? h1.objs.size=some (seqObj "list" vs.toArray 0):=Heap.get?_push_size _ rfl;have keep:∀b u,s.heap.get? b=some u->(h1.push (seqObj "list" vs.toArray 0)).get? b=some u:=fun b u e=>Heap.get?_push_of_some _ (kp b u e);have hLs:=hL.keeps keep;have hLl:L<h1.objs.size:=(hL.keeps kp).lt;refine wpAny_bind (wpAny_holding (wpAny_call_entry_kw slot_list_sort ⟨_,hoL,rfl⟩ entry_list_sort ?body (ksk_l1 _ _)))
 case body =>
  show wpAny (model prog w) A.in1.in1 (Builtin.«list.sort» ⟨[.ref h1.objs.size],[(Str.ofString "key",.ref f)]⟩) _ _ _;rw[ksk_t1];refine ksk_sort (h₀:=Att.noObjs (h1.push (seqObj "list" vs.toArray 0))) (L:=L) (m:=m) (news:=kc (Att.noObjs (h1.push (seqObj "list" vs.toArray 0))) h1 L) (kz:=kz) (vs:=vs) (Att.fr_all hLs) (fun p hp=>?_) hoL ?_ (Att.noObjs_get _ _) (fun p hp=>?_) bP h64 (fun i v k hv hk hh tk own F' N'=>?_) fun h' tk out c F' N' k'=>⟨_,rfl,?_⟩
  ·obtain⟨a1,a2,a3⟩:=gp hp;exact⟨Heap.get?_push_of_some _ a3,a1,Att.noObjs_get _ _⟩
  ·exact Nat.ne_of_gt hLl
  ·exact Nat.ne_of_lt (Heap.lt_size (gp hp).2.2)
  ·refine wpAny_mono (turn i v k hv hk hh tk fun b u hb e=>(N' (b,u) (List.mem_append_left _ (jH hb (Att.noObjs_get _ _) (kp b u e)))).1) (fun u s' ⟨h',tk',t',e1,e2,e3⟩=>?_) fun _ _ z=>z;subst e2;exact⟨h',tk',t',e1,rfl,F'.kept e3,N'.grown e3⟩
  ·refine wpAny_pure ⟨_,rfl,h h1 _ h' tk out c kp (fun b u hb e=>(N' (b,u) (.tail _ (jH hb (Att.noObjs_get _ _) e))).1) F'.ns (Nat.le_refl _) (N' _ (.head _)).1 k'⟩
end
def jQ(P:Addr) (pos:Pos) (q:Str) (M M':DH):Prop:=M'=M∨∃c,M c=none/\M P=some (jK P pos none)/\M'=av (av M P (jK P pos (some c))) c (Bj c q)
theorem jQ.tab{P:Addr}{pos:Pos}{q:Str}{M M':DH}(h:jQ P pos q M M') (t:cL P pos q M):cL P pos q M':=by
 rcases h with rfl|⟨c,h1,h2,rfl⟩
 ·exact t
 ·refine .inr ⟨c,?_,ai⟩;have:P≠c:=fun z=>by rw[z,h1]at h2;cases h2
  rw[aq this,ai]
theorem jQ.keep{P:Addr}{pos:Pos}{q:Str}{M M':DH}(h:jQ P pos q M M') {a:Addr}{o:HD}(ha:a≠P) (e:M a=some o):M' a=some o:=by
 rcases h with rfl|⟨c,h1,h2,rfl⟩
 ·exact e
 ·have:a≠c:=fun z=>by rw[z,h1]at e;cases e
  rw[aq this,aq ha];exact e
section
variable{X:Cx}{ag:List (Addr×Obj)}{σ:St}{H:Hp}{s:Shared}{M:DH}{T c:Addr}{aY:Pos}{qual:Str}{params:Arguments}{body:Expr}{scope:Scope}{clos:List (Str×Addr)}{fl:Nat}
theorem vI{Q:Value->Shared->Prop}(I:Inv X ag σ H s) (hr:HR X.K M H) (hT:cL T aY qual M) (hC:PySem.W.CodeHd X.base c T) (hB:X.base.BuiltinsAt X.mg T) (hcode:X.env.code=.ref c) (hcl:closureFor scope X.env=pure clos)
  (h:∀(f c':Addr) (M':DH) (H':Hp) (s':Shared) (pm ctv:Value),Inv X ag σ H' s'->jQ T aY qual M M'->Ext M H M' H'->HR X.K M' H'->s'.heap.get? f=some (PySem.W.kla_obj "<lambda>" qual params body scope clos pm c' ctv)->s'.heap.CodeRec (.ref c') qual->Q (.ref f) s') :
  wpAny (model X.prog X.w) X.A (makeFunction "<lambda>" qual params (.expr body) scope X.env [] [] [] aY fl) Q X.xe s:=by
 have hgs:s.heap.Ns mainGlobals X.mg:=I.mod.glob.keeps I.bk;have hCs:=hC.keeps I.bk;have hBs:=hB.keeps I.bk;rcases hT with hT|⟨c',hT,hc'⟩
 ·obtain⟨vs,hH,hv⟩:=hr T _ hT;obtain⟨tE,_,_⟩:=I.hok T _ hH;have tE:s.heap.get? T=some (PySem.W.tabObj #[]):=tE;have hgP:mainGlobals≠T:=fun z=>by
   obtain⟨o,es,ep,e,hd,_⟩:=hgs;rw[z,tE]at e;cases e;cases hd
  refine PySem.W.kla_makeFunction (mg:=X.mg) hcl I.ok.glob hgs hcode hCs tE trivial rfl hgP hBs fun c' ctv h' tk hx hge hlt hrec htb=>?_;have nT:bB X.prog X.w (upd H T (.ext (ju T aY (some c')))) h' T (.ext (ju T aY (some c'))):=⟨htb,⟨_,htb⟩,fun h1 h2 e k=>k _ e⟩;have I1:Inv X ag σ (upd H T (.ext (ju T aY (some c')))) { s with heap:=h',toks:=tk }:=I.write (by rw[hH];trivial) (.inl rfl) (fun b u hb e=>hx b u hb e) ⟨_,htb⟩ nT;have hn:H c'=none:=I.hok.fresh hge;have hTc:c'≠T:=fun z=>by rw[z,hH]at hn;cases hn
  have hMn:M c'=none:=hr.fresh hn;obtain⟨c2,oc,ovs,t,e2,hoc,hd,hv2⟩:=id hrec;cases e2;have hz:X.s₀.heap.objs.size<=s.heap.objs.size:=I.sz;have I2:Inv X ag σ (upd (upd H T (.ext (ju T aY (some c')))) c' (.ext (Bz c' qual))) { s with heap:=h',toks:=tk }:=by
   refine I1.track (by rw[ax hTc];exact hn) ⟨⟨oc,ovs,t,hoc,hd,hv2⟩,⟨_,hoc⟩,fun h1 h2 ⟨o,vs,t,a1,a2,a3⟩ k=>⟨o,vs,t,k _ a1,a2,a3⟩⟩ ?_ ?_ ?_ ?_
   ·exact Heap.get?_none_of_le (Nat.le_trans hz hge)
   ·obtain⟨m,hm,_⟩:=I.loc;exact Nat.ne_of_gt (Nat.lt_of_lt_of_le hm.lt hge)
   ·intro x d e;obtain⟨v,o,ho,_⟩:=I.cell x d e;exact Nat.ne_of_lt (Nat.lt_of_lt_of_le (Heap.lt_size ho) hge)
   ·intro p hp;exact Nat.ne_of_lt (Nat.lt_of_lt_of_le (Heap.lt_size (I.pin p hp).1) hge)
  have I3:=I2.kept (h':=h'.push (PySem.W.kla_obj "<lambda>" qual params body scope clos ((X.mg "__name__").getD .none) c' ctv)) (t':=tk) fun b u e=>Heap.get?_push_of_some _ e;have e1:Ext M H (av M T (jK T aY (some c'))) (upd H T (.ext (ju T aY (some c')))):=Ext.write hT;have r1:=hr.put e1 ⟨[],aF,ar.nil⟩;have e2:Ext (av M T (jK T aY (some c'))) (upd H T (.ext (ju T aY (some c')))) (av (av M T (jK T aY (some c'))) c' (Bj c' qual)) (upd (upd H T (.ext (ju T aY (some c')))) c' (.ext (Bz c' qual))):=Ext.own (by rw[ax hTc];exact hn);have r2:=r1.put e2 ⟨[],aF,ar.nil⟩;exact h h'.objs.size c' _ _ _ _ _ I3 (.inr ⟨c',hMn,hT,rfl⟩) (e1.trans e2) r2 (Heap.get?_push_size _ rfl) (hrec.keeps fun b u e=>Heap.get?_push_of_some _ e)
 ·obtain⟨vs,hH,hv⟩:=hr T _ hT;obtain⟨tE,_,_⟩:=I.hok T _ hH;have tE:s.heap.get? T=some (PySem.W.tabObj #[rawInt aY.line,rawInt aY.col,.ref c']):=tE;obtain⟨vs',hH',hv'⟩:=hr c' _ hc';obtain⟨⟨oc,ovs,t,hoc,hd,hv2⟩,_,_⟩:=I.hok c' _ hH';have hf:codeAmong aY #[rawInt aY.line,rawInt aY.col,Value.ref c'].toList=some (.ref c'):=codeAmong_snoc [] trivial rfl;have ht:TriplesOk #[rawInt aY.line,rawInt aY.col,Value.ref c'].toList:=TriplesOk_snoc aY.line aY.col (.ref c') [] trivial;refine PySem.W.kla_makeFunctionHit (mg:=X.mg) hcl I.ok.glob hgs hcode hCs tE ht hf hBs fun ctv h' tk hk hsz=>?_;have I3:=I.kept (h':=h'.push (PySem.W.kla_obj "<lambda>" qual params body scope clos ((X.mg "__name__").getD .none) c' ctv)) (t':=tk) fun b u e=>Heap.get?_push_of_some _ (hk b u e);exact h h'.objs.size c' M H _ _ _ I3 (.inl rfl) (Ext.refl _ _) hr (Heap.get?_push_size _ rfl) ⟨c',oc,ovs,t,rfl,Heap.get?_push_of_some _ (hk _ _ hoc),hd,hv2⟩
end
def j4(a:Int×Int):D:=.tup [.int a.1,.int a.2]
def wo(T:Addr) (aY:Pos) (q:Str) (t:TAd):TEd:=fun Δ M Q=>t Δ M fun ds M1=>∃arcs:List (Int×Int),ds=[.tup (arcs.map j4)]/\arcs.length<64/\cL T aY q M1 /\
 ∀(arcs':List (Int×Int)) (M2:DH),arcs'.Perm arcs->arcs'.Pairwise (fun x y=>x.2<=y.2)->jQ T aY q M1 M2->Q (.lst (arcs'.map j4)) M2
theorem lX{α β:Type}{f:α->β}{l1 l2:List β}(h:l1.Perm l2):∀L:List α,l2=L.map f->∃L':List α,L'.Perm L/\l1=L'.map f:=by
 induction h with
 |nil=>intro L e;cases L with
  |nil=>exact⟨[],.nil,rfl⟩
  |cons a L=>cases e
 |cons x _ ih=>intro L e;cases L with
  |nil=>cases e
  |cons a L =>
   rw[List.map_cons,List.cons.injEq]at e;obtain⟨L',p,e2⟩:=ih L e.2;exact⟨a::L',p.cons a,by rw[List.map_cons,e.1,e2]⟩
 |swap x y l=>intro L e;cases L with
  |nil=>cases e
  |cons a L=>cases L with
   |nil=>simp at e
   |cons b L =>
    simp only[List.map_cons,List.cons.injEq]at e;exact⟨b::a::L,.swap a b L,by simp[e.1,e.2.1,e.2.2]⟩
 |trans _ _ ih1 ih2 =>
  intro L e;obtain⟨L2,p2,e2⟩:=ih2 L e;obtain⟨L1,p1,e1⟩:=ih1 L2 e2;exact⟨L1,p1.trans p2,e1⟩
section
variable{X:Cx}{ag:List (Addr×Obj)}{σ:St}{H:Hp}{s:Shared}{M:DH}
theorem yG{a:Int×Int}{v:V}{u:Value}(I:Inv X ag σ H s) (r:Rep X.K M H (j4 a) v) (ru:aE v u):∃b t1 t2,u=.ref b/\IsTup s.heap b [Value.int a.1 t1,Value.int a.2 t2].toArray:=by
 unfold j4 at r;rw[Rep]at r;obtain⟨b,vs,rfl,ta,rl⟩:=r;cases ru;obtain⟨v1,v2,rfl,r1,r2⟩:=rl.two;obtain rfl:v1=.int a.1:=by simpa only[Rep]using r1
 obtain rfl:v2=.int a.2:=by simpa only[Rep]using r2
 obtain⟨its,rv,ht,_⟩:=I.tuple ta.sq;obtain⟨u1,u2,rfl,⟨t1,rfl⟩,⟨t2,rfl⟩⟩:=ay.two rv;exact⟨b,t1,t2,rfl,ht⟩
theorem wk{K:PySem.W.Frag}:∀{arcs:List (Int×Int)}{vs:List V}{its:List Value},ar K M H (arcs.map j4) vs->ay vs its ->
  ∃L:List ((Int×Int)×V×Value),L.map (·.1)=arcs/\L.map (·.2.1)=vs/\L.map (·.2.2)=its/\∀x∈L,Rep K M H (j4 x.1) x.2.1/\aE x.2.1 x.2.2
 |[],vs,its,h,r=>by
  have:vs=[]:=by simpa[ar]using h
  subst this;cases r;exact⟨[],rfl,rfl,rfl,fun _ z=>by cases z⟩
 |a::arcs,vs,its,h,r=>by
  rw[List.map_cons,ar]at h;obtain⟨v,ws,rfl,h1,h2⟩:=h;cases r with
  |cons r1 r2 =>
   obtain⟨L,e1,e2,e3,hL⟩:=wk h2 r2;refine⟨(a,v,_)::L,by rw[List.map_cons,e1],by rw[List.map_cons,e2],by rw[List.map_cons,e3],fun x hx=>?_⟩;rcases List.mem_cons.mp hx with rfl|hx
   ·exact⟨h1,r1⟩
   ·exact hL x hx
theorem tR{K:PySem.W.Frag}:∀{L:List ((Int×Int)×V×Value)},(∀x∈L,Rep K M H (j4 x.1) x.2.1/\aE x.2.1 x.2.2)->ar K M H ((L.map (·.1)).map j4) (L.map (·.2.1))/\ay (L.map (·.2.1)) (L.map (·.2.2))
 |[],_=>⟨ar.nil,.nil⟩
 |x::L,h=>by
  obtain⟨a,b⟩:=tR (L:=L) fun y hy=>h y (.tail _ hy);exact⟨ar.cons (h x (.head _)).1 a,.cons (h x (.head _)).2 b⟩
end
theorem sD{α:Type}{a c:Nat}(hac:a<=c) {p:Nat->Bool}(hp:∀k,p k=(decide (a<=k)&&decide (k<c))):∀(xs:List α) (n:Nat),((xs.zipIdx n).filterMap fun q=>if p q.2=true then none else some q.1)=xs.take (a-n)++xs.drop (c-n)
 |[],n=>by simp
 |x::xs,n=>by
  rw[List.zipIdx_cons,List.filterMap_cons,sD hac hp xs (n+1),hp]
  by_cases h1:n<a
  ·rw[show a-n=(a-(n+1))+1 by lia,show c-n=(c-(n+1))+1 by lia,List.take_succ_cons,List.drop_succ_cons];simp[show ¬ a<=n by lia]
  ·by_cases h2:n<c
   ·rw[show a-n=0 by lia,show a-(n+1)=0 by lia,show c-n=(c-(n+1))+1 by lia,List.drop_succ_cons];simp[show a<=n by lia,h2]
   ·rw[show a-n=0 by lia,show a-(n+1)=0 by lia,show c-n=0 by lia,show c-(n+1)=0 by lia];simp[h2]
section
variable{prog:Program}{w:World}{A:Around}{s:Shared}{E:Value->Shared->Prop}
theorem mE{l sl:Addr}{items:List Value}{n:Nat}{vl vu:Value}{a c:Nat}{Q:Unit->Shared->Prop}
  (e:s.heap.get? l=some { cls:=.type "list",data:=.seq items.toArray n })
  (hs:s.heap.IsSliceOf sl vl vu .none) (pl:IsPart vl (some (a:Int))) (pu:IsPart vu (some (c:Int))) (hac:a<=c) (hc:c<=items.length)
  (hsz:items.length<=sizeLine) (h:∀f:Array Value->Array Value,f items.toArray=(items.take a++items.drop c).toArray->Q () { s with heap:=s.heap.update l (Obj.mapSeq f) }) :
  wpAny (model prog w) A (delItem (.ref l) (.ref sl)) Q E s:=by
 have hl:s.heap.IsList l items.toArray:=PySem.IsL.isList e;obtain⟨os,hos,hcs,hds⟩:=id hs;have hTs:s.TypeIs (.ref sl) "slice":=⟨os,hos,hcs⟩;have hstep:¬ ((rawPart none==rawInt 0)=true):=Bool.false_ne_true;refine wpAny_delItem_slot hl.typeIs (by decide) F.slot_list_delitem (wpAny_call_entry F.slot_list_delitem hl.typeIs F.entry_list_delitem ?_ (F.args_list_delitem_2 _ _));show wpAny _ _ (Builtin.List.listSubscript? (.ref sl) >>= _) _ _ s;refine wpAny_bind ?_;unfold Builtin.List.listSubscript?;refine wpAny_bind (wpAny_specialOf hTs slice_no_index ?_);simp only[Option.isNone_none,if_true];refine wpAny_pure ?_;show wpAny _ _ (typeOf (.ref sl) >>= _) _ _ s;refine wpAny_bind (wpAny_typeOf hTs ?_)
 first
  |rw[if_neg (by decide)]
  |refine PySem.W.KFB.if_not (by decide) ?_
 rw[listSliceParts_eq];refine wpAny_bind (wpAny_bind (wpAny_field hos hds (x:=.none) rfl (wpAny_bind (wpAny_listPart .none ?_))));rw[if_neg hstep];refine wpAny_bind (wpAny_field hos hds (x:=vl) rfl (wpAny_bind (wpAny_listPart pl ?_)));refine wpAny_bind (wpAny_field hos hds (x:=vu) rfl (wpAny_bind (wpAny_listPart pu (wpAny_pure ?_))));unfold Builtin.List.listItems;refine wpAny_bind (wpAny_bind (wpAny_seqItems e rfl (wpAny_pure ?_)));refine wpAny_bind (wpAny_of_eq ((sliceIndices_raw (some (a:Int)) (some (c:Int)) none items.toArray.size (by simp)).trans (congrArg (pure:Int×Int×Int->Sem (Int×Int×Int)) (rY hac (by simpa using hc)))) ?_);refine wpAny_bind (wpAny_rule ?_);have key:∀p:Nat->Bool,(∀k,p k=(decide (a<=k)&&decide (k<c)))->(List.filterMap (fun q:Value×Nat=>if p q.2=true then none else some q.1) items.zipIdx)=items.take a++items.drop c:=fun p hp=>sD hac hp items 0;refine wpAny_bind (listUpdate_at e rfl ?_ (by simpa using hsz) ?_)
 ·refine wpAny_bind (wpAny_letGo (wpAny_pure ⟨_,rfl,h _ ?_⟩));refine congrArg List.toArray (key _ fun k=>?_);show(if(1:Int) > 0 then(decide ((a:Int)<=(k:Int))&&decide ((k:Int)<(c:Int))&&((k:Int)-(a:Int)) % 1==0)else _)=_;rw[if_pos (by decide),Int.emod_one];rw[Bool.eq_iff_iff];simp
 ·refine Nat.le_trans (Nat.le_of_eq (congrArg (fun l:List Value=>l.toArray.size) (key _ fun k=>?_))) ?_
  ·show(if(1:Int) > 0 then(decide ((a:Int)<=(k:Int))&&decide ((k:Int)<(c:Int))&&((k:Int)-(a:Int)) % 1==0)else _)=_;rw[if_pos (by decide),Int.emod_one];rw[Bool.eq_iff_iff];simp
  ·rw[List.size_toArray,List.length_append,List.length_take,List.length_drop]
   lia
end
section
variable{X:Cx}{pos:Pos}
def Aj(to:TEd) (tl th:TOd):TSd:=fun E Δ M=>to Δ M fun o M2=>tl Δ M2 fun l M3=>th Δ M3 fun u M4=>∃a ds i j,o=.ref a/\l=some i/\u=some j/\M4 a=some (.lst ds)/\0<=i/\i<=j/\j<=ds.length/\E.nx Δ (av M4 a (.lst (ds.take i.toNat++ds.drop j.toNat)))
theorem Cc{o lo hi:Expr}{to:TEd}{tl th:TOd}{p p2:Pos}(ho:QEd X o to) (hl:QOd X (some lo) tl) (hu:QOd X (some hi) th):QSd X (.Delete [.Subscript o (.Slice (some lo) (some hi) none p2) p] pos) (Aj to tl th):=by
 simp only[QEd.eq,QSd.eq,QOd.eq]at *
 intro ag s σ H D I hh;obtain⟨Δ,M,E,sr,hr,q,kk⟩:=hh;refine wpAny_Delete (wpAny_deleteEach_cons ?_);rw[arm_delete_Subscript];refine wpAny_bind (thn (ho ag s σ H _ I ⟨Δ,M,_,sr,hr,q,fun o M1 ov H1 q1 e1 hr1 ro=>(⟨o,M1,q1,e1,hr1,ro⟩:∃o M1,(tl Δ M1 fun l M3=>th Δ M3 fun u M4=>∃a ds i j,o=.ref a/\l=some i/\u=some j/\M4 a=some (.lst ds)/\0<=i/\i<=j/\j<=ds.length/\E.nx Δ (av M4 a (.lst (ds.take i.toNat++ds.drop j.toNat))))/\Ext M H M1 H1/\HR X.K M1 H1/\Rep X.K M1 H1 o ov)⟩) fun ov s1 ⟨x,H1,I1,r1,od,M1,q1,e1,hr1,ro⟩=>?_);refine wpAny_bind (wpAny_holding (wpAny_Slice (thn (hl ag s1 σ H1 _ I1 ⟨Δ,M1,_,sr.ext e1,hr1,q1,fun l M3 H3 q3 e3 hr3=>(⟨M3,q3,e3,hr3⟩:∃M3,(th Δ M3 fun u M4=>∃a ds i j,od=.ref a/\l=some i/\u=some j/\M4 a=some (.lst ds)/\0<=i/\i<=j/\j<=ds.length/\E.nx Δ (av M4 a (.lst (ds.take i.toNat++ds.drop j.toNat))))/\Ext M1 H1 M3 H3/\HR X.K M3 H3)⟩) fun vl s2 ⟨l,H2,I2,pl,M3,q2,e2,hr2⟩ =>
  thn (hu ag s2 σ H2 _ I2 ⟨Δ,M3,_,(sr.ext e1).ext e2,hr2,q2,fun u M4 H4 q4 e4 hr4=>(⟨M4,q4,e4,hr4⟩:∃M4,(∃a ds i j,od=.ref a/\l=some i/\u=some j/\M4 a=some (.lst ds)/\0<=i/\i<=j/\j<=ds.length/\E.nx Δ (av M4 a (.lst (ds.take i.toNat++ds.drop j.toNat))))/\Ext M3 H2 M4 H4/\HR X.K M4 H4)⟩) fun vu s3 ⟨u,H3,I3,pu,M4,⟨a,ds,i,j,eo,el,eu,em,b1,b2,b3,q4⟩,e3,hr3⟩=>?_)))
 rw[evalPart_none];refine wpAny_pure ?_;have I4:Inv X ag σ H3 { s3 with heap:=s3.heap.push { cls:=.type "slice",data:=.fields #[vl,vu,.none] } }:=I3.kept (t':=s3.toks) fun b ob q=>Heap.get?_push_of_some _ q;subst eo;subst el;subst eu;simp only[Rep]at ro;subst ro;cases r1;obtain⟨vs,hv,rl⟩:=hr3 a _ em;obtain⟨z,its,n,r,hl2,e⟩:=I4.lstM hv;obtain⟨i',rfl⟩:=Int.eq_ofNat_of_zero_le b1;obtain⟨j',rfl⟩:=Int.eq_ofNat_of_zero_le (Int.le_trans b1 b2);have hln:its.length=ds.length:=by rw[<-r.length,<-rl.length]
 refine wpAny_bind (wpAny_standAt (wpAny_bind (wpAny_holding (mE e (Heap.IsSliceOf.new ..) pl pu (by lia) (by lia) (by rw[<-r.length];exact z) fun f hf=>wpAny_release (wpAny_deleteEach_nil ?_)))));have hzz:(vs.take i'++vs.drop j').length<=sizeLine:=by
  rw[List.length_append,List.length_take,List.length_drop];lia
 have I5:=I4.lset (t':=s3.toks) (ys:=vs.take i'++vs.drop j') hv e hf (ay.append (r.take _) (r.drop _)) hzz;simp only[Int.toNat_natCast]at q4;exact⟨σ,_,I5,kk.nx Δ _ σ _ q4 (((e1.trans e2).trans e3).trans (Ext.write em)) (hr3.write em ((rl.take _).append (rl.drop _))) ((((sr.ext e1).ext e2).ext e3).ext (Ext.write em))⟩
end
section
variable{P:Program}{w:World}{K:PySem.W.Frag}{mg:Str->Option Value}{base:Heap}{f:Addr}{fd:FuncData}
theorem Fun.okRC{x qual:Str}{st:Stmt}{f c:Addr}{fd:FuncData}{N ps:List Str}{k n:Nat}{S:SpD}(F:Fun K x qual st f fd) (hc:fd.code=.ref c) (hn:ps.length=n) (Sc:az N ps (am st))
  (hbody:∀ (A:Around) (outer:List Env) (s:Shared) (H:Hp) (E:XK),cw k (A.deeper (envOfC qual (am st) s.heap.objs.size f (.ref c))) →
   ∃t:TSd,QSs (n4 CX0 P w K mg base N qual (am st) f (.ref c) A outer s H E).nox (cK st) t/\∀ds M R (G:Prop),S ds M R->(t { nx:=fun _ M'=>R .non M',rt:=R } (e9 N ds) M->G)->G):bg P w K mg base CX0 (k+1) f fd ps (spD K n S):=by
 obtain⟨oc,od,kV,doc,pm,an,cdv,ct,osl,rfl,lk,hcd⟩:=F.ex;obtain rfl:cdv=.ref c:=hc;refine zV lk hcd Sc (fun vs H Q E h=>by rw[hn];exact sJ h) fun A outer s H vs Q E hr h=>?_;obtain⟨t,ht,hq⟩:=hbody A outer s H E hr;obtain⟨ds,M,R,hl,r,hrr,q,k'⟩:=h;refine⟨_,(show xi _ _ _ from tI ht).nox,e9 N ds,M,_,qj r,hrr,hq ds M R _ q id,⟨fun Δ' M' σ' H' q' e' hr' _=>k' .non M' .non H' q' e' hr' (by simp[Rep]),fun _ _ _ _ q'=>False.elim q',fun _ _ _ _ q'=>False.elim q',fun d M' v H' q' e' hr' rv=>k' d M' v H' q' e' hr' rv⟩⟩
theorem yM{h:Heap}{c T:Addr}{d:Option Addr}{vs:Array Value}{sl:Array (Option Value)}{file:Str}{tf tg tt:Tok}{flags text:Int}{inF:Bool}(X:(aV K T).In h) (hT:K.lookup T=some (PySem.W.tabObj #[])) (lc:K.lookup c=some ⟨.type "code",d,.fields vs,sl⟩)
  (h11:vs[11]?=some (.ref T)) (h18:vs.getD 18 .none=.str file tf) (h7:vs.getD 7 .none=.int flags tg) (h9:vs.getD 9 .none=.bool inF) (h10:vs.getD 10 .none=.int text tt):PySem.W.CodeHd h c T:=by
 have hne:c≠T:=fun z=>by rw[z,hT]at lc;cases lc
 exact⟨_,vs,file,tf,flags,tg,inF,text,tt,X c _ ((bG hne K).trans lc),rfl,rfl,h11,by rw[Array.getD_eq_getD_getElem?,h11];rfl,h18,h7,h9,h10,hne⟩
theorem zL{h:Heap}{fa f T c:Addr}{fd:FuncData}{st:Stmt}{sp:Sp}{lp:Program}{k:Nat}{p1:Str}{d:Option Addr}{vs:Array Value}{sl:Array (Option Value)}(X:K.In h) (G:h.Ns mainGlobals mg) (hfa:mg "law"=some (.ref fa)) (i:bC K "law" st f fd) (b:∀a,Bd "law" "law" st [p1] [a])
  (hT:K.lookup T=some (PySem.W.tabObj #[])) (lc:K.lookup c=some ⟨.type "code",d,.fields vs,sl⟩) (h11:vs[11]?=some (.ref T))
  (o:∀base:Heap,(aV K T).In base->base.BuiltinsAt mg T->bg lp w (aV K T) mg base CX0 k f fd [p1] sp) :
  ∃fd:FuncData,(∀(s:Shared) (v:Value),BindsTo s fd ⟨[v],[]⟩ [(p1,v)])/\isCodeTable h T/\∀base:Heap,(aV K T).In base->base.Ns mainGlobals mg->base.BuiltinsAt mg T->bg lp w (aV K T) mg base CX0 k fa fd [p1] sp:=by
 have e:=hfa.symm.trans (PySem.W.mg_of X G i.a);cases e;refine⟨fd,fun s v=>?_,⟨c,_,vs,X c _ lc,rfl,rfl,h11⟩,fun base hb _ hB=>o base hb hB⟩;obtain⟨oc,od,kV,doc,pm,an,cdv,ct,osl,rfl,lk,hcd⟩:=i.F.ex;exact .of_eq (b v kV doc pm an cdv ct)
end
def CG(pos:Pos) (q:Str) (S:Addr->SpD):Prop:=∀(T:Addr) (ns:List Int) (R:D->DH->Prop),ns.length<=63->(∀m∈ns,Few m)->(∀M',cL T pos q M'->R (.bl true) M')->S T [.scr (ns.map .int)] (av noM T (jK T pos none)) R
theorem rL{K:PySem.W.Frag}{H:Hp}{a T:Addr}{pos:Pos}{ns:List Int}(hO:wz T pos H) (hS:SqL K H a (ns.map V.int)):ar K (av noM T (jK T pos none)) H [.scr (ns.map D.int)] [.ref a]:=by
 refine ar.cons ?_ ar.nil;simp only[Rep];refine⟨a,ns.map V.int,rfl,?_,oT ns⟩;rcases hS with h|h
 ·left;have haT:a≠T:=fun z=>by
   rcases h with h|⟨o,h⟩<;>rw[z,hO.1]at h<;>cases h
  rcases h with h|h
  ·rcases hO.2 a haT with z|⟨o,xs,z⟩<;>(rw[h]at z;cases z)
  ·exact⟨h,by rw[aq haT]⟩
 ·right;exact .inr h
theorem A2{S:Addr->SpD}{pos:Pos}{qn:Str}(hS:CG pos qn S) {k:Nat}{x:Str}{l:PySem.W.OpenLaw}{q:Program}{loose:List Str}{XP:(Str->Option Value)->Heap->Prop}{YP:World->Heap->Prop}{d:DefRec}{K:Params->PySem.W.Frag}(hr:cw k callerA) (hn:l.most=some 63) (hdf:d.params.defaults=[])
  (hY:∀(w:World) (h:Heap),YP w h->(K w.params).In h)
  (F:∀ (w:World) (mg:Str → Option Value) (fa:Addr) (h:Heap),(K w.params).In h → h.Ns mainGlobals mg → mg d.name = some (.ref fa) →
   ∃T,(K w.params).lookup T=some (PySem.W.tabObj #[])/\∃fd:FuncData,(∀(s:Shared) (u:Value),BindsTo s fd ⟨[u],[]⟩ [(x,u)])/\isCodeTable h T/\∀base:Heap,(aV (K w.params) T).In base->base.Ns mainGlobals mg->base.BuiltinsAt mg T->bg l.prog w (aV (K w.params) T) mg base CX0 k fa fd [x] (spD (aV (K w.params) T) 1 (S T))) :
  PySem.W.WalkO q loose XP YP l.row.toRowW d [] (fun f vs=>PySem.call f vs):=by
 refine Att.attach_callB hn hdf fun w s₀ s₁ mg mb fa o pm cd doc a vs ns G Y ho hd hcd hmg hobj hints bP oM hg=>?_;have KX:=hY w _ Y;obtain⟨T,hT,fd,hb,hct,hF⟩:=F w mg fa _ KX G.T.g hmg;have hTo:=KX T _ hT;have hB:s₁.heap.BuiltinsAt mg T:=by
  obtain⟨bm,ob,b1,b2,b3,b4,b5,b6⟩:=G.T.bmain;refine⟨bm,ob,b1,b2,fun z=>?_,fun z=>?_,b3,b4,b5,b6⟩
  ·obtain⟨o,es,ep,e,hd,_⟩:=G.T.g;rw[z,e]at b3;cases b3;rw[hd]at b6;cases b6
  ·rw[z,hTo]at b3;cases b3;cases b4
 refine ui (pos:=pos) (CX:=CX0) (sp:=spD (aV (K w.params) T) 1 (S T)) KX G.T.g G.T.b G.T.builtins G.T.nolimit hg hobj hints (Nat.le_trans bP (by decide)) hr hT hct hB hF hb (fun H hO hq=>?_) fun _ _ _ z=>z;have hHR:HR (aV (K w.params) T) (av noM T (jK T pos none)) H:=fun a o e=>by
  by_cases z:a=T
  ·subst z;rw[ai]at e;cases e;exact⟨[],hO.1,ar.nil⟩
  ·rw[aq z]at e;cases e
 refine⟨[.scr (ns.map .int)],av noM T (jK T pos none),fun d M'=>d=.bl true/\cL T pos qn M',rfl,rL hO hq,hHR,hS T ns _ bP oM (fun _ h=>⟨rfl,h⟩),fun d M' v H' hd' _ hr' rv=>?_⟩;obtain⟨e,ht⟩:=hd';subst e;refine⟨by simpa only[Rep]using rv,?_⟩;rcases ht with ht|⟨c,ht,_⟩
 ·obtain⟨vs,hv,_⟩:=hr' T _ ht;exact⟨none,hv⟩
 ·obtain⟨vs,hv,_⟩:=hr' T _ ht;exact⟨some c,hv⟩
section
variable{X:Cx}{a:Expr}{t:TAd}{pos p kq aY p1 p2 p3:Pos}{kj:Nat}{T c:Addr}{qual x:Str}{params:Arguments}{scope:Scope}{clos:List (Str×Addr)}
theorem yZ(hu:X.A.units+64<cLine) (hdep:X.A.in1.in1.depth<recursionLimit) (hg:Gl X "sorted") (hm:X.mg "sorted"=none) (ha:QAd X [a] t) (hC:PySem.W.CodeHd X.base c T) (hB:X.base.BuiltinsAt X.mg T) (hcode:X.env.code=.ref c) (hcl:closureFor scope X.env=pure clos) (hq:X.env.qual++"<lambda>"=qual)
  (hdef:defaultsOf params X.env=([],[]))
  (hbind:∀pm c' ctv v,bindArgs (PySem.W.kla_fn "<lambda>" qual params (.Subscript (.Name x p1) (.Constant (.int 1) kj p2) p3) scope clos pm (.ref c') ctv) ⟨[v],[]⟩=pure [(x,v)])
  (hx:scope.names.lookup x=some .local) (hcell:∀y∈scope.names,y.2≠.cell) (hco:scope.isCoroutine=false) (hgen:scope.isGenerator=false) (hk:scope.kind=.function) (hd:(x==("__debug__":Str))=false)
  (he:backTo pos (starEach [a] X.env)=(false,eval a X.env)::backTo pos (starEach [] X.env):=by rfl) (hpl:(backTo pos (starEach [a] X.env)).any (·.1)=false:=by rfl)
  (hall:(backToKw pos (keywordEach [⟨some "key",.Lambda params (.Subscript (.Name x p1) (.Constant (.int 1) kj p2) p3) scope aY,kq⟩] X.env)).all (·.1.isSome)=true:=by rfl)
  (hkw:(backToKw pos (keywordEach [⟨some "key",.Lambda params (.Subscript (.Name x p1) (.Constant (.int 1) kj p2) p3) scope aY,kq⟩] X.env)).any (·.1.isNone)=false:=by rfl)
  (hnm:(backToKw pos (keywordEach [⟨some "key",.Lambda params (.Subscript (.Name x p1) (.Constant (.int 1) kj p2) p3) scope aY,kq⟩] X.env)).filterMap (·.1)=[Str.ofString "key"]:=by rfl) :
  QEd X (.Call (.Name "sorted" p) [a] [⟨some "key",.Lambda params (.Subscript (.Name x p1) (.Constant (.int 1) kj p2) p3) scope aY,kq⟩] pos) (wo T aY qual t):=by
 simp only[QEd.eq,QAd.eq]at *
 intro ag s σ H Q I hh;obtain⟨Δ,M,R,sr,hr,q,k⟩:=hh;refine wpAny_Call_Name_kw (e8 (u:=.builtin "sorted") I hg hm (by kernel_rfl) (callWith_kw ?_ he hpl hall hkw));refine thn (ha pos ag s σ H _ I ⟨Δ,M,_,sr,hr,q,fun ds M1 vs H1 hq1 e1 hr1 rv=>(⟨ds,M1,hq1,e1,hr1,rv⟩:∃ds M1,(∃arcs:List (Int×Int),ds=[.tup (arcs.map j4)]/\arcs.length<64/\cL T aY qual M1 /\
  ∀(arcs':List (Int×Int)) (M2:DH),arcs'.Perm arcs->arcs'.Pairwise (fun x y=>x.2<=y.2)->jQ T aY qual M1 M2->R (.lst (arcs'.map j4)) M2)/\Ext M H M1 H1/\HR X.K M1 H1/\ar X.K M1 H1 ds vs)⟩) fun us s1 ⟨vs,H1,I1,r1,ds,M1,⟨arcs,ed,h64,hT,q1⟩,e1,hr1,rv⟩=>?_
 subst ed;refine kws_cons (PySem.W.kla_eval hdef ?_);rw[hq];refine vI I1 hr1 hT hC hB hcode hcl fun f c' M2 H2 s2 pm ctv I2 ts e2 hr2 hf hcd=>kws_nil ?_;rw[hnm];obtain⟨v,rfl,r0⟩:=rv.one;have r0':=r0.ext e2;obtain⟨u,rfl,ru⟩:=ay.one r1;rw[Rep]at r0';obtain⟨l,ws,rfl,ta,rl⟩:=r0';cases ru;obtain⟨its,rvs,⟨o,hgo,hcl2,n,hdo⟩,hz⟩:=I2.tuple ta.sq;obtain⟨L,eL1,eL2,eL3,hL⟩:=wk rl rvs;obtain⟨m,hm2,_⟩:=id I2.loc;have bP:its.length=arcs.length:=by rw[<-eL3,<-eL1,List.length_map,List.length_map]
 show wpAny _ _ (call (.builtin "sorted") [.ref l] [(Str.ofString "key",.ref f)]) _ _ _;refine rC (L:=X.env.locals) (m:=m) (kz:=arcs.map (·.2)) (.inr rfl) hgo hcl2 hdo hm2 (by rw[List.length_map,bP]) (by lia) ?turn ?fin
 case turn =>
  intro i v kk hv hkk h tk keep;have hLd:∀(b:Addr) (ob:Obj),s2.heap.get? b=some ob->(∀es ep,ob.data≠.dict es ep)->b≠X.env.locals:=fun b ob e nd z=>by
   obtain⟨ol,es,ep,el,dl,_⟩:=hm2;rw[z,el]at e;cases e;exact nd es ep dl
  obtain⟨x0,hx0,ex0⟩:∃x0,L[i]?=some x0/\x0.2.2=v:=by
   rw[<-eL3,List.getElem?_map]at hv;cases e:L[i]? with
   |none=>rw[e]at hv;cases hv
   |some x0=>rw[e]at hv;exact⟨x0,rfl,Option.some.inj hv⟩
  have ek:x0.1.2=kk:=by
   rw[<-eL1,List.map_map,List.getElem?_map,hx0]at hkk;exact Option.some.inj hkk
  obtain⟨hx1,hx2⟩:=hL x0 (List.mem_of_getElem? hx0);obtain⟨b,t1,t2,eb,⟨ob,hob,hoc,hod⟩⟩:=yG I2 hx1 hx2;rw[<-ex0,eb,<-ek];obtain⟨no,hod⟩:=hod;have hbL:=hLd b ob hob fun es ep z=>by rw[hod]at z;cases z
  have hfL:=hLd f _ hf fun es ep z=>by cases z
  obtain⟨c2,oc,ovs,tc,ec,hoc2,hdc,hvc⟩:=id hcd;cases ec;have hcL:=hLd c' oc hoc2 fun es ep z=>by rw[hdc]at z;cases z
  have hlim:h.NoLimit:=by
   obtain⟨mc,h1,h2⟩:=I2.mod.nolimit;obtain⟨os0,es,ep,e0,d0⟩:=h1;have b1:=I2.ok.bs _ _ e0;have:cStatics≠X.env.locals:=Nat.ne_of_lt (Nat.lt_of_lt_of_le (Heap.lt_size b1.1) I2.ok.above);exact⟨mc,⟨os0,es,ep,keep _ _ this (I2.bk _ _ e0),d0⟩,h2⟩
  refine wpAny_mono (xx (s:={ s2 with heap:=h,toks:=tk }) (its:=[Value.int x0.1.1 t1,Value.int x0.1.2 t2]) (keep f _ hfL hf) ⟨c',oc,ovs,tc,rfl,keep _ _ hcL hoc2,hdc,hvc⟩ hlim ?_ (hbind pm c' ctv) hx hcell hco hgen hk hd ⟨ob,keep _ _ hbL hob,hoc,no,hod⟩ (by simp) rfl) (fun u s' ⟨h',tk',e1,e2,e3⟩=>⟨h',tk',t2,e1,e2,e3⟩) fun _ _ z=>z;exact hdep
 case fin =>
  intro h1 D h' tk out cc kp keep hns hge hD hout;have I3:Inv X ag σ H2 { s2 with heap:=h1,toks:=tk }:=I2.kept kp;obtain⟨ps,hp,eo,hpw⟩:=hout;have ez:(arcs.map (·.2)).zip its=L.map fun x=>(x.1.2,x.2.2):=by
   rw[<-eL1,<-eL3,List.map_map,List.zip_map'];rfl
  rw[ez]at hp;obtain⟨L',pL,ePs⟩:=lX hp L rfl;have hL':∀x∈L',Rep X.K M2 H2 (j4 x.1) x.2.1/\aE x.2.1 x.2.2:=fun x hx=>hL x (pL.mem_iff.mp hx);obtain⟨rp,rvv⟩:=tR hL';have eo':out.toList=L'.map (·.2.2):=by rw[eo,ePs,List.map_map];rfl
  have hDn:H2 D=none:=I3.hok.fresh hge;have hLn:∀b,H2 b≠none->b≠X.env.locals:=fun b hb z=>hb (z▸I3.free);have hzl:(L'.map (·.2.1)).length<=sizeLine:=by rw[List.length_map,pL.length_eq,<-List.length_map (f:=(·.1)),eL1,sizeLine_eq];lia
  have hlt:∀b o,h1.get? b=some o->b≠D:=fun b o e z=>Nat.lt_irrefl _ (Nat.lt_of_lt_of_le (Heap.lt_size (z▸e)) hge);have newD:bB X.prog X.w (upd H2 D (.lst (L'.map (·.2.1)))) h' D (.lst (L'.map (·.2.1))):=⟨hzl,L'.map (·.2.2),cc,rvv,by rw[hD,<-eo',Array.toArray_toList]⟩;have I4:Inv X ag σ (upd H2 D (.lst (L'.map (·.2.1)))) { s2 with heap:=h',toks:=tk }:=by
   refine Inv.step (s:={ s2 with heap:=h1,toks:=tk }) (h':=h') (g':=s2.gens) (d':=s2.drawn) (t':=tk) (ch:=[]) I3 (fun _ z=>nomatch z) (fun b o hb _ _ e n=>keep b o hb e) (fun b o hb _ _ e n=>⟨o.slots,keep b o hb e⟩) (fun b o _ e n=>?_) (fun b o _ e=>?_) (fun b xs e=>?_) (fun b o u e=>?_) (fun b ps e=>?_) (fun m' hm'=>?_) (fun b o e=>?_) I2.bare
   ·rw[ax (hlt b o e)];exact n
   ·by_cases hb:b=X.env.locals
    ·obtain⟨ol,_,_,el,_⟩:=hns;exact⟨ol,hb▸el⟩
    ·exact⟨o,keep b o hb e⟩
   ·rw[ax (aX e hDn)];exact e
   ·rw[ax (aX e hDn)];exact e
   ·exact⟨#[],by rw[ax (aX e hDn),e];simp⟩
   ·have q1:=(hm2.keeps kp).eq_nsMap;have q2:=hm'.eq_nsMap;rw[q2,<-q1];exact hns
   ·by_cases hb:b=D
    ·subst hb;rw[aF]at e;cases e;exact newD
    ·rw[ax hb]at e;refine(I3.hok b o e).stay (fun b' u hb' eb=>keep b' u ?_ eb) (fun b' eb=>?_) fun b' xs eb=>?_
     ·rcases hb' with rfl|hb'
      ·exact hLn _ (by rw[e];simp)
      ·exact hLn _ (by rw[hb'];simp)
     ·rw[ax (aX eb hDn)];exact eb
     ·rw[ax (aX eb hDn)];exact eb
  have hr4:HR X.K M2 (upd H2 D (.lst (L'.map (·.2.1)))):=hr2.new hDn;have e4:Ext M2 H2 M2 (upd H2 D (.lst (L'.map (·.2.1)))):=Ext.new hr2 hDn;refine⟨.ref D,_,I4,rfl,k _ M2 _ _ (q1 (L'.map (·.1)) M2 (by rw[<-eL1];exact pL.map _) ?_ ts) ((e1.trans e2).trans e4) hr4 ?_⟩
  ·rw[ePs,List.pairwise_map]at hpw;rw[List.pairwise_map];exact hpw.imp fun h=>by simpa using h
  ·rw[Rep];exact⟨D,_,rfl,⟨aF,hr2.fresh hDn⟩,rp.ext e4⟩
end
end L2
namespace L2
open PySem PySem.Spec PyProof.Rows
section
variable{X:Cx}{a:Expr}{p p2 pos pos2:Pos}
def Cz(ta:TAd):TEd:=fun Δ M Q=>ta Δ M fun ds M1=>∃j:Int,ds=[.int j]/\0<=j/\j<=1000000/\∀l,M1 l=none->Q (.ref l) (av M1 l (.lst (i5 0 j.toNat)))
theorem ot{ta:TAd}(bA:X.calm=true) (hg:Gl X "list") (hm:X.mg "list"=none) (hg2:Gl X "range") (hm2:X.mg "range"=none) (ha:QAd X [a] ta) (hs:starEach [a] X.env=[(false,eval a X.env)]:=by rfl)
  (hs2:starEach [.Call (.Name "range" p2) [a] [] pos2] X.env=[(false,eval (.Call (.Name "range" p2) [a] [] pos2) X.env)]:=by rfl):QEd X (.Call (.Name "list" p) [.Call (.Name "range" p2) [a] [] pos2] [] pos) (Cz ta):=by
 simp only[QEd.eq,QAd.eq]at *
 exact(oO bA hg hm hg2 hm2 ha hs hs2).conv fun σ H Q hup=>hup.el fun Δ M R sr hr q k=>⟨Δ,M,_,sr,hr,q,fun ds M1 vs H1 ⟨j,e,h0,h1,q2⟩ e1 hr1 rp=>by
   subst e;obtain⟨v,ev,rv1⟩:=rp.one;have ev1:v=.int j:=by simpa only[Rep]using rv1
   subst ev1;subst ev;exact⟨j,rfl,h0,h1,fun l hl=>k _ _ _ _ (q2 l (hr1.fresh hl)) (e1.trans (Ext.own hl)) (hr1.own hl (pP _)) (by simp only[Rep])⟩⟩
end
end L2
namespace My
open PySem PySem.Spec PyProof.Rows L2
noncomputable def top(i:Nat):Stmt:=PySem.Challenge.pw_wordwishes_k33_whole_comes_goes_on.main.body.getD i (.Pass ⟨0,0,0,0⟩)
abbrev cN:Stmt:=top 1
abbrev gb:Stmt:=top 2
abbrev bX:Stmt:=top 3
abbrev dG:Stmt:=top 5
abbrev gT:Stmt:=top 6
abbrev cI:Stmt:=top 7
abbrev cE:Stmt:=top 9
abbrev fj:Stmt:=top 10
abbrev bo:Stmt:=top 11
abbrev dj:Stmt:=top 12
abbrev cD:Stmt:=top 13
abbrev eB:Stmt:=top 14
abbrev eK:Stmt:=top 15
abbrev eF:Stmt:=top 16
abbrev dH:Stmt:=top 18
abbrev cW:Stmt:=top 19
abbrev bQ:Stmt:=top 20
abbrev cY:Stmt:=top 21
abbrev jn:Stmt:=top 22
abbrev i3:Stmt:=top 24
abbrev ko:Stmt:=top 25
abbrev lC:Stmt:=top 26
abbrev ji:Stmt:=top 27
abbrev gu:Stmt:=top 28
abbrev je:Stmt:=top 29
abbrev ja:Stmt:=top 30
abbrev gm:Stmt:=top 31
abbrev nM:Stmt:=top 32
abbrev eN:Stmt:=top 33
abbrev lG:Stmt:=top 34
abbrev lN:Stmt:=top 35
abbrev iB:Stmt:=top 36
abbrev jk:Stmt:=top 37
abbrev dB:Stmt:=top 38
abbrev gw:Stmt:=top 39
abbrev xF:Stmt:=top 40
noncomputable abbrev jq:List Str:=["pairs","mark","reached","at","low","high"]
theorem eE:az jq ["pairs","mark"] (am cN):=fsc
abbrev p9:List Str:=["order","one","other"]
theorem il:az p9 ["order","one","other"] (am gb):=fsc
abbrev bW:List Str:=["order","mark"]
theorem dZ:az bW ["order","mark"] (am bX):=fsc
abbrev kB:List Str:=["order","turn","one","other"]
theorem fD:az kB ["order","turn","one","other"] (am dG):=fsc
abbrev rJ:List Str:=["order","one","other"]
theorem jv:az rJ ["order","one","other"] (am gT):=fsc
abbrev cG:List Str:=["row"]
theorem fM:az cG ["row"] (am cI):=fsc
abbrev cC:List Str:=["order","row","many"]
theorem gR:az cC ["order","row"] (am cE):=fsc
abbrev hV:List Str:=["mates","counts","begin","end"]
theorem jz:az hV ["mates","counts","begin","end"] (am fj):=fsc
abbrev a6:List Str:=["mates","many","counts","length","begin","end"]
theorem dq:az a6 ["mates"] (am bo):=fsc
abbrev jV:List Str:=["counts","row"]
theorem eM:az jV ["counts","row"] (am dj):=fsc
abbrev cy:List Str:=["order","row","mates","counts","arcs","stretches","begin","end","mate"]
theorem fN:az cy ["order","row"] (am cD):=fsc
abbrev eC:List Str:=["marks","row"]
theorem ig:az eC ["marks","row"] (am eB):=fsc
abbrev mG:List Str:=["order","row","mark"]
theorem fU:az mG ["order","row","mark"] (am eK):=fsc
abbrev eh:List Str:=["order","row","counts","mark","turn"]
theorem iL:az eh ["order","row"] (am eF):=fsc
abbrev kT:List Str:=["arcs","many","left","walk","begin","end","place"]
theorem fL:az kT ["arcs","many"] (am dH):=fsc
abbrev ck:List Str:=["strands","one","other"]
theorem gh:az ck ["strands","one","other"] (am cW):=fsc
abbrev bE:List Str:=["strands","pairs","other","there","walk","left","right","place"]
theorem fI:az bE ["strands","pairs","other"] (am bQ):=fsc
abbrev bU:List Str:=["arcs","one","other","many","last","strands","pairs"]
theorem ip:az bU ["arcs","one","other"] (am cY):=fsc
abbrev tY:List Str:=["order","one","other","together","arcs"]
theorem k8:az tY ["order","one","other"] (am jn):=fsc
abbrev uQ:List Str:=["_law_cell"]
theorem kn:az uQ ["_law_cell"] (am i3):=fsc
abbrev wA:List Str:=["_law_script","_law_k","_law_found","_law_cell"]
theorem nt:az wA ["_law_script","_law_k"] (am ko):=fsc
abbrev xa:List Str:=["_law_pack_here","_law_size","_law_digit"]
theorem mP:az xa ["_law_pack_here","_law_size"] (am lC):=fsc
noncomputable abbrev uc:List Str:=["_law_pack_here","_law_some"]
theorem lz:az uc ["_law_pack_here"] (am ji):=fsc
abbrev jo:List Str:=["_law_pack_here","_law_marks_here","_law_found","_law_k","_law_start"]
theorem k9:az jo ["_law_pack_here","_law_marks_here"] (am gu):=fsc
noncomputable abbrev uW:List Str:=["_law_order_here","_law_mark","_law_found","_law_k","_law_low","_law_high"]
theorem kC:az uW ["_law_order_here","_law_mark"] (am je):=fsc
abbrev uH:List Str:=["_law_order_here","_law_one","_law_other"]
theorem lV:az uH ["_law_order_here","_law_one","_law_other"] (am ja):=fsc
abbrev qf:List Str:=["_law_order_here","_law_one","_law_other"]
theorem ic:az qf ["_law_order_here","_law_one","_law_other"] (am gm):=fsc
abbrev ze:List Str:=["_law_pack_here","_law_marks_here","_law_size","_law_turns","_law_found","_law_k","_law_mark"]
theorem pI:az ze ["_law_pack_here","_law_marks_here","_law_size","_law_turns"] (am nM):=fsc
abbrev dM:List Str:=["_law_pack_here","_law_order_here","_law_marks_here","_law_row_here","_law_most","_law_way","_law_places","_law_place","_law_sign","_law_some","_law_one","_law_other"]
theorem ni:az dM ["_law_pack_here","_law_order_here","_law_marks_here","_law_row_here","_law_most"] (am eN):=fsc
abbrev wa:List Str:=["_law_row_here","_law_step_here","_law_place"]
theorem ng:az wa ["_law_row_here","_law_step_here"] (am lG):=fsc
abbrev vU:List Str:=["_law_pack_here","_law_order_here","_law_marks_here","_law_row_here","_law_steps","_law_most","_law_walk_here","_law_k","_law_step_here"]
theorem nF:az vU ["_law_pack_here","_law_order_here","_law_marks_here","_law_row_here","_law_steps","_law_most"] (am lN):=fsc
abbrev iD:List Str:=["_law_row_here","_law_by"]
theorem nG:az iD ["_law_row_here","_law_by"] (am iB):=fsc
abbrev uI:List Str:=["_law_order_here","_law_one","_law_other"]
theorem lh:az uI ["_law_order_here","_law_one","_law_other"] (am jk):=fsc
abbrev dA:List Str:=["_law_row_here"]
theorem gS:az dA ["_law_row_here"] (am dB):=fsc
noncomputable abbrev jm:List Str:=["_law_order_here","_law_one","_law_other","_law_ahead","_law_later","_law_due","_law_some","_law_by"]
theorem ll:az jm ["_law_order_here","_law_one","_law_other","_law_ahead","_law_later"] (am gw):=fsc
abbrev Dx:List Str:=["_law_script","_law_pack_here","_law_marks_here","_law_order_here","_law_rows","_law_k","_law_digits","_law_ahead","_law_later","_law_first","_law_second"]
theorem vA:az Dx ["_law_script"] (am xF):=fsc
structure Txt(mg:Str->Option Value):Prop where
 b_len:mg "len"=none
 b_tuple:mg "tuple"=none
 b_reversed:mg "reversed"=none
 b_range:mg "range"=none
 b_sum:mg "sum"=none
 b_sorted:mg "sorted"=none
 b_list:mg "list"=none
 b_enumerate:mg "enumerate"=none
 b_divmod:mg "divmod"=none
 b_max:mg "max"=none
set_option hygiene false in
local macro_rules|`(tactic| walk_at "rd")=>`(tactic| simp only[Cz,wo,Aj,E6,zR,sF,xX,AF,CN,v7,eG,dC,BS,wj,D1,z7,Al,dOp,dUn,oa,DJ,vw,Ai,dCB,ef,qI,CT,zO,yE,A8,vQ,CF,D0,dIf,kW,D3,xo,z6,vL,Dc,vf,zW,Ag,z4,BD,yC,vN,wQ,Au,Ab,Ar,Aq,xJ,C1,C0,xy,HD.dKr.injEq,Ak,DY,dDc,yD,HD.dT.injEq,HD.dK.injEq,C3,Ej,A3,B5,nW,wC,dLc,wV,DN,
 sE,BF,yJ,yF,yu,yc,xP,zC,xp,yl,yb,yA,yo,DL,Dd,CD,wF,Af,DM,wW,Ck,AN,Ay,AU,A9,Cq,BZ,AC,xf,vJ,md,Di,sC,Dv,CM,Bl,Cj,DF,C9,Do,xN,xH,wc,wD,CS,D8,Dm,CV,Ef,Eb,DO,DZ,D4,yO,ux,Bb,ai,aD,
 e9,List.map_cons,List.map_nil,List.cons_append,List.nil_append,List.length_cons,List.length_nil,List.replicate,List.set_cons_zero,List.set_cons_succ,List.getElem?_cons_zero,List.getElem?_cons_succ,Option.some.injEq,exists_eq_left',exists_eq_left,D.int.injEq,D.bl.injEq,D.str.injEq,D.ref.injEq,D.tup.injEq,D.lst.injEq,true_and,and_true,if_true,decide_eq_true_eq,exists_and_left,Nat.zero_add,Nat.reduceAdd,Nat.reduceSub,CZ,Eh,wd,Dr,HD.lst.injEq,List.cons.injEq,or_true,true_or,and_self,↓reduceIte,Int.reduceLT,Int.reduceLE,Int.reducePow,Int.reduceNeg,Int.reduceToNat,Nat.reducePow,Nat.reduceLT,Nat.reduceLeDiff,Int.reduceAdd,Int.reduceMul,Int.reduceSub,Bool.false_eq_true,Bool.true_eq_false,if_false])
section
variable{P:Program}{w:World}{K:PySem.W.Frag}{mg:Str->Option Value}{base:Heap}{f:Addr}{fd:FuncData}
def aA(x:Str×Str):D:=.tup [.str x.1,.str x.2]
theorem c9{bM:List Str}{v:Int}(h0:0<=v) (h1:v<(bM.length:Int)):∃m∈bM,atI (bM.map D.str) v=some (.str m):=by
 obtain⟨n,rfl⟩:=Int.eq_ofNat_of_zero_le h0;have hn:n<bM.length:=by lia
 exact⟨bM[n],List.getElem_mem hn,dw (by simp[hn])⟩
theorem cT{M:DH}{p q:Addr}{a b:HD}(h:p≠q):av (av M p a) q b=av (av M q b) p a:=by
 funext c;unfold av
 by_cases h1:c=q
 ·subst h1;simp[Ne.symm h]
 ·by_cases h2:c=p
  ·subst h2;simp[h]
  ·simp[h1,h2]
theorem rP{xs:List D}{n:Nat}:L2.du xs none (some (n:Int))=xs.take n:=by
 unfold L2.du;rw[HT.sIx_none,HT.sIx_nat,List.drop_zero,Nat.sub_zero]
 by_cases h:n<=xs.length
 ·rw[Nat.min_eq_left h]
 ·rw[Nat.min_eq_right (by lia),List.take_length,List.take_of_length_le (by lia)]
theorem oU{xs:List D}{n:Nat}:L2.du xs (some (n:Int)) none=xs.drop n:=by
 unfold L2.du;rw[HT.sIx_none,HT.sIx_nat]
 by_cases h:n<=xs.length
 ·rw[Nat.min_eq_left h,List.take_of_length_le (by simp)]
 ·rw[Nat.min_eq_right (by lia),Nat.sub_self,List.take_zero,List.drop_of_length_le (by lia)]
theorem Bk{ws:List Str}{n:Nat}:slE (.lst (ws.map .str)) none (some (n:Int))=some (.lst ((ws.take n).map .str)):=by rw[sC,rP,List.map_take]
theorem c8{lo:Int}{n:Nat}:(i5 lo n).length=n:=by simp[i5]
section
variable{σ:Type}
noncomputable def fP:List σ->List (List σ×σ×List σ)
 |[]=>[]
 |y::ys=>([],y,ys)::(fP ys).map fun c=>(y::c.1,c.2.1,c.2.2)
theorem gr{xs:List σ}:∀{c:List σ×σ×List σ},c∈fP xs->c.1.length+c.2.2.length+1=xs.length:=by
 induction xs with
 |nil=>intro c h;cases h
 |cons y ys ih =>
  intro c h;rcases List.mem_cons.mp h with rfl|h
  ·simp
  ·obtain⟨d,hd,rfl⟩:=List.mem_map.mp h;have:=ih hd;simp;lia
theorem zz{xs:List σ}:∀{c:List σ×σ×List σ},c∈fP xs->c.1++c.2.1::c.2.2=xs:=by
 induction xs with
 |nil=>intro c h;cases h
 |cons y ys ih =>
  intro c h;rcases List.mem_cons.mp h with rfl|h
  ·rfl
  ·obtain⟨d,hd,rfl⟩:=List.mem_map.mp h;simp[ih hd]
theorem wm(xs ys:List σ):fP (xs++ys)=((fP xs).map fun c=>(c.1,c.2.1,c.2.2++ys))++(fP ys).map fun c=>(xs++c.1,c.2.1,c.2.2):=by
 induction xs with
 |nil=>simp[fP]
 |cons x xs ih=>simp[fP,ih,List.map_map,Function.comp_def]
def Wf(R:σ->σ->Bool):Nat->List σ->Nat
 |_,[]=>1
 |0,_::_=>0
 |k+1,x::xs=>((fP xs).map fun c=>if R x c.2.1 then Wf R k c.1*Wf R k c.2.2 else 0).sum
def W(R:σ->σ->Bool) (xs:List σ):Nat:=Wf R xs.length xs
theorem Ad{R:σ->σ->Bool}:∀{k:Nat}{xs:List σ},xs.length<=k->Wf R k xs=W R xs:=by
 have key:∀(n k j:Nat) (xs:List σ),xs.length<=n->xs.length<=k->xs.length<=j->Wf R k xs=Wf R j xs:=by
  intro n
  induction n with
  |zero =>
   intro k j xs h _ _;have:xs=[]:=List.eq_nil_of_length_eq_zero (by lia);subst this;simp[Wf]
  |succ n ih =>
   intro k j xs h hk hj;cases xs with
   |nil=>simp[Wf]
   |cons x xs =>
    simp only[List.length_cons]at h hk hj;obtain⟨k,rfl⟩:∃m,k=m+1:=⟨k-1,by lia⟩;obtain⟨j,rfl⟩:∃m,j=m+1:=⟨j-1,by lia⟩;simp only[Wf];congr 1;apply List.map_congr_left;intro c hc;have:=gr hc;rw[ih k j c.1 (by lia) (by lia) (by lia),ih k j c.2.2 (by lia) (by lia) (by lia)]
 intro k xs h;exact key k k xs.length xs h h (Nat.le_refl _)
theorem sX{R:σ->σ->Bool}:W R []=1:=by simp[W,Wf]
theorem nO{R:σ->σ->Bool}{x:σ}{xs:List σ}:W R (x::xs)=((fP xs).map fun c=>if R x c.2.1 then W R c.1*W R c.2.2 else 0).sum:=by
 show Wf R (xs.length+1) (x::xs)=_;simp only[Wf];congr 1;apply List.map_congr_left;intro c hc;have:=gr hc;rw[Ad (by lia),Ad (by lia)]
theorem iQ{α:Type}{f:α->Nat}:∀{l:List α},(∀x∈l,f x=0)->(l.map f).sum=0
 |[],_=>by simp
 |x::l,h=>by
  simp only[List.map_cons,List.sum_cons,h x (.head _),iQ fun y hy=>h y (.tail _ hy)]
theorem vV{R:σ->σ->Bool}:∀(n:Nat) (xs:List σ),xs.length<=n->xs.length % 2=1->W R xs=0:=by
 intro n
 induction n with
 |zero=>intro xs h o;lia
 |succ n ih =>
  intro xs h o;cases xs with
  |nil=>simp at o
  |cons x xs =>
   simp only[List.length_cons]at h o;rw[nO];refine iQ fun c hc=>?_;have:=gr hc
   by_cases e:c.1.length % 2=1
   ·rw[ih c.1 (by lia) e];simp
   ·rw[ih c.2.2 (by lia) (by lia)];simp
theorem ny{α:Type}{f:α->Nat}{m:Nat}:∀{l:List α},(∀x∈l,f x<=m)->(l.map f).sum<=l.length*m
 |[],_=>by simp
 |x::l,h=>by
  simp only[List.map_cons,List.sum_cons,List.length_cons,Nat.add_mul,Nat.one_mul];have:=ny (l:=l) fun y hy=>h y (.tail _ hy);have:=h x (.head _)
  lia
theorem o8{xs:List σ}:(fP xs).length=xs.length:=by
 induction xs with
 |nil=>rfl
 |cons x xs ih=>simp[fP,ih]
theorem DW{R:σ->σ->Bool}:∀(n:Nat) (xs:List σ),xs.length<=n->n<=100->W R xs<=100 ^ xs.length:=by
 intro n
 induction n with
 |zero =>
  intro xs h _;have:xs=[]:=List.eq_nil_of_length_eq_zero (by lia);subst this;simp[sX]
 |succ n ih =>
  intro xs h hn;cases xs with
  |nil=>simp[sX]
  |cons x xs =>
   simp only[List.length_cons]at h ⊢;rw[nO];refine Nat.le_trans (ny (m:=100 ^ xs.length) fun c hc=>?_) ?_
   ·have:=gr hc
    by_cases e:R x c.2.1=true
    ·rw[if_pos e];refine Nat.le_trans (Nat.mul_le_mul (ih c.1 (by lia) (by lia)) (ih c.2.2 (by lia) (by lia))) ?_;rw[<-Nat.pow_add];exact Nat.pow_le_pow_right (by decide) (by lia)
    ·rw[if_neg e];exact Nat.zero_le _
   ·rw[o8,Nat.pow_succ,Nat.mul_comm];exact Nat.mul_le_mul_left _ (by lia)
end
inductive bI (ord:List (Str×Str)) (a:Str):Str->Prop
 |refl:bI ord a a
 |step {b c:Str}:bI ord a b->(b,c)∈ord->bI ord a c
theorem pW{ord:List (Str×Str)}{a x:Str}{L:List Str}(h0:a∈L) (hc:∀y∈ord,y.1∈L->y.2∈L) (h:bI ord a x):x∈L:=by
 induction h with
 |refl=>exact h0
 |step _ hm ih=>exact hc _ hm ih
def cP:SpD:=fun ds M R=>∃(ord:List (Str×Str)) (a:Str),ds=[.tup (ord.map aA),.str a]/\ord.length<=500 /\
 ∀L:List Str,a∈L->(∀y∈ord,y.1∈L->y.2∈L)->(∀x∈L,bI ord a x)->L.length<=ord.length+1->R (.lst (L.map .str)) M
abbrev tIn:TSd:=BS (vw (oa (dOp eqF (eG 4) (dOp ixD (eG 2) (eG 3)))) (oa (dOp (inE true) (eG 5) (eG 2)))) (vQ (A8 (eG 2) (eG 5))) wj
theorem gG{q:Addr}{E:fF}{M:DH}(hq:M q=none) (ps:D) (a:Str) (ord:List (Str×Str)) (hord:ord.length<=500) (i:Nat) (L0:List Str) (hi:i<L0.length):∀(todo done:List (Str×Str)) (x4 x5:Option D) (L:List Str),ord=done++todo->(∃t,L=L0++t)->L.Nodup->(∀x∈L,bI ord a x)->(∀x∈L,x∈a::ord.map (·.2))->(∀y∈done,y.1=L0[i]->y.2∈L) ->
  (∀(y4 y5:Option D) (L':List Str),(∃t,L'=L0++t)->L'.Nodup->(∀x∈L',bI ord a x)->(∀x∈L',x∈a::ord.map (·.2))->(∀y∈ord,y.1=L0[i]->y.2∈L')->E.nx [some ps,some (.str a),some (.ref q),some (.int i),y4,y5] (av M q (.lst (L'.map .str)))) ->
  cR (jF (fo (bL 4) (fo (bL 5) mI)) 2) tIn E (todo.map aA) [some ps,some (.str a),some (.ref q),some (.int i),x4,x5] (av M q (.lst (L.map .str)))
 |[],done,x4,x5,L,ho,ht,hn,hs,hb,hd,k=>by
  simp only[List.map_nil,cR];exact k x4 x5 L ht hn hs hb (by rw[ho,List.append_nil];exact hd)
 |(b,c)::todo,done,x4,x5,L,ho,⟨t,ht⟩,hn,hs,hb,hd,k=>by
  have hiL:i<L.length:=by rw[ht];simp;lia
  have eL:L[i]=L0[i]:=by subst ht;simp[hi]
  have eat:atI (L.map D.str) (i:Int)=some (.str L[i]):=dw (by simp[hiL]);have bP:L.length<=ord.length+1:=by
   have:=eX L (a::ord.map (·.2)) hn hb;simpa using this
  simp only[List.map_cons,aA,cR,jF,fo,bL,mI,Option.bind_some];refine⟨_,rfl,?_⟩;walk_at "rd";refine⟨_,eat,?_⟩;walk_at "rd";have ho':ord=(done++[(b,c)])++todo:=by rw[ho];simp
  have hmem:(b,c)∈ord:=by rw[ho];simp
  refine eJ (fun h=>?_) (fun h=>?_)
  ·have hbe:b=L0[i]:=by rw[<-eL];simpa using h
   refine⟨_,if_pos ⟨rfl,dJ⟩,_,rfl,?_⟩;rw[da]
   by_cases hc:c∈L
   ·simp only[hc,decide_true,Bool.xor_true,Bool.not_true,Bool.false_eq_true,if_false];exact gG hq ps a ord hord i L0 hi todo (done++[(b,c)]) _ _ L ho' ⟨t,ht⟩ hn hs hb (fun y hy hy1=>by
     rcases List.mem_append.mp hy with h|h
     ·exact hd y h hy1
     ·have:y=(b,c):=by simpa using h
      subst this;exact hc) k
   ·simp only[hc,decide_false,Bool.xor_false,if_true];refine⟨by rw[List.length_map];exact Nat.lt_of_lt_of_le (by lia:L.length<1000) (sz3 1000),?_⟩;have ea:L.map D.str++[D.str c]=(L++[c]).map D.str:=by simp
    rw[ea];refine gG hq ps a ord hord i L0 hi todo (done++[(b,c)]) _ _ (L++[c]) ho' ⟨t++[c],by rw[ht];simp⟩ ?_ (fun x hx=>?_) (fun x hx=>?_) (fun y hy hy1=>?_) k
    ·rw[List.nodup_append];refine⟨hn,by simp,fun u hu v hv=>?_⟩;have:v=c:=by simpa using hv
     subst this;rintro rfl;exact hc hu
    ·rcases List.mem_append.mp hx with h|h
     ·exact hs x h
     ·have:x=c:=by simpa using h
      subst this;exact bI.step (hs b (by rw[hbe,<-eL];exact List.getElem_mem hiL)) hmem
    ·rcases List.mem_append.mp hx with h|h
     ·exact hb x h
     ·have:x=c:=by simpa using h
      subst this;exact List.mem_cons_of_mem _ (List.mem_map.mpr ⟨_,hmem,rfl⟩)
    ·rcases List.mem_append.mp hy with h|h
     ·exact List.mem_append_left _ (hd y h hy1)
     ·have:y=(b,c):=by simpa using h
      subst this;simp
  ·exact gG hq ps a ord hord i L0 hi todo (done++[(b,c)]) _ _ L ho' ⟨t,ht⟩ hn hs hb (fun y hy hy1=>by
    rcases List.mem_append.mp hy with h'|h'
    ·exact hd y h' hy1
    ·have:y=(b,c):=by simpa using h'
     subst this;exact absurd (by rw[eL];simpa using hy1) h) k
theorem iA(F:Fun K "reached_from" "reached_from" cN f fd) (T:Txt mg) :bg P w K mg base CX0 1 f fd ["pairs","mark"] (spD K 2 cP):=by
 have nd:=eE.nd;refine F.okR rfl eE (fun cdv A outer s H E hr=>⟨_,(ak (aI (i:=2) nd rfl (Or.inl rfl) (dn (ae (af 1) ah)))
   (ak (aI (i:=3) nd rfl (Or.inl rfl) ao)
   (ak (sj PassesOwn.never (aN rX (af 3) (aH bS rfl T.b_len (by kernel_rfl) (ae (af 2) ah)) nbh) (ak (dP PassesOwn.never rfl (bz (af 0)) (mL rfl (dh (bu (i:=4) nd rfl (Or.inl rfl)) (dh (bu (i:=5) nd rfl (Or.inl rfl)) nj))) (aw (bN (qR (gU (aN (jR hr.units) (af 4) (aL aM (af 2) (af 3) (fun _ _=>rfl)) nbh) (gz (aN o9 (af 5) (af 2) rfl)))) (aw (cH (fE (af 2) (af 5)))) bp)))
   (aw (Dj (i:=3) nd rfl (Or.inl rfl) ao AH))))
   (aw (vE (af 2)))))),fun ds M R _ hS bk=>?_⟩)
 obtain⟨ord,a,rfl,ho,k⟩:=hS;refine bk ?_;clear bk;walk_at "rd";refine⟨sz3 1,fun q hq=>?_⟩;refine⟨fun m Δ M'=>∃(i:Nat) (L:List Str) (x4 x5:Option D),Δ=[some (D.tup (ord.map aA)),some (D.str a),some (D.ref q),some (D.int i),x4,x5]/\M'=av M q (.lst (L.map .str))/\i<=L.length/\L.Nodup/\a∈L/\(∀x∈L,bI ord a x)/\(∀x∈L,x∈a::ord.map (·.2))/\(∀y∈ord,∀j,j<i->L[j]?=some y.1->y.2∈L)/\m=ord.length+1-i,
  ⟨_,0,[a],none,none,rfl,rfl,Nat.zero_le _,by simp,by simp,fun x hx=>by
   have:x=a:=by simpa using hx
   subst this;exact bI.refl,fun x hx=>by
   have:x=a:=by simpa using hx
   subst this;simp,fun y _ j hj=>absurd hj (by lia),rfl⟩,?_⟩
 intro m Δ M' hI;refine shr fun _ bk=>?_;obtain⟨i,L,x4,x5,rfl,rfl,hiL,hn,ha,hs,hb,hp,rfl⟩:=hI;refine bk ?_;clear bk;have bP:L.length<=ord.length+1:=by
  have:=eX L (a::ord.map (·.2)) hn hb;simpa using this
 walk_at "rd";rw[List.length_map];refine eJ (fun h=>?_) (fun h=>?_)
 ·have hi:i<L.length:=by lia
  intro hz;refine gG hq _ a ord ho i L hi ord [] x4 x5 L rfl ⟨[],by simp⟩ hn hs hb (fun y hy=>absurd hy (by simp)) (fun y4 y5 L' hL' hn' hs' hb' hd'=>?_);obtain⟨t,rfl⟩:=hL';walk_at "rd";refine⟨ord.length+1-(i+1),by lia,i+1,L++t,y4,y5,?_,rfl,by simp;lia,hn',List.mem_append_left _ ha,hs',hb',fun y hy j hj hjy=>?_,rfl⟩
  ·simp
  ·by_cases hji:j=i
   ·subst hji;refine hd' y hy ?_;rw[List.getElem?_append_left hi,List.getElem?_eq_getElem hi]at hjy;exact(Option.some.inj hjy).symm
   ·rw[List.getElem?_append_left (by lia)]at hjy;exact List.mem_append_left _ (hp y hy j (by lia) hjy)
 ·rw[kS hq];refine k L ha (fun y hy hy1=>?_) hs bP;obtain⟨j,hj,e⟩:=List.mem_iff_getElem.mp hy1;exact hp y hy j (by lia) (by rw[List.getElem?_eq_getElem hj,e])
def au(x:Str×Int):D:=.tup [.str x.1,.int x.2]
theorem ka{α:Type}{f:α->D}(hf:∀x y,f x=f y->x=y):∀{xs ys:List α},xs.map f=ys.map f->xs=ys
 |[],[],_=>rfl
 |[],_::_,h=>by simp at h
 |_::_,[],h=>by simp at h
 |x::xs,y::ys,h=>by
  simp only[List.map_cons,List.cons.injEq]at h;rw[hf _ _ h.1,ka hf h.2]
theorem iZ:∀x y,aA x=aA y->x=y:=fun⟨a,b⟩ ⟨c,d⟩ h=>by simpa[aA]using h
def jE(ord:List (Str×Str)) (t:Int) (a b:Str):Prop:=if t % 2=0 then bI ord a b else bI ord b a
open Classical in
def rB(ord:List (Str×Str)) (a b:Str):Bool:=decide (bI ord a b)
open Classical in
def lB(ord:List (Str×Str)) (t:Int) (a b:Str):Bool:=decide (jE ord t a b)
theorem og{ord:List (Str×Str)}{a b:Str}:rB ord a b=true↔bI ord a b:=by simp[rB]
theorem iW{ord:List (Str×Str)}{t:Int}{a b:Str}:lB ord t a b=true↔jE ord t a b:=by simp[lB]
theorem sW{ord:List (Str×Str)}{t:Int}{a b:Str}(h:t % 2=0):lB ord t a b=rB ord a b:=by rw[Bool.eq_iff_iff,iW,og,jE,if_pos h]
theorem vP{ord:List (Str×Str)}{t:Int}{a b:Str}(h:¬ t % 2=0):lB ord t a b=rB ord b a:=by rw[Bool.eq_iff_iff,iW,og,jE,if_neg h]
def gd:SpD:=fun ds M R=>∃(ord:List (Str×Str)) (a b:Str),ds=[.tup (ord.map aA),.str a,.str b]/\ord.length<=500/\R (.bl (rB ord a b)) M
def dS:SpD:=fun ds M R=>∃(ord:List (Str×Str)) (t:Int) (a b:Str),ds=[.tup (ord.map aA),.int t,.str a,.str b]/\ord.length<=500/\R (.bl (lB ord t a b)) M
def fq:SpD:=fun ds M R=>∃(ord:List (Str×Str)) (x y:Str×Int),ds=[.tup (ord.map aA),au x,au y]/\ord.length<=500/\R (.bl (x.2+1==y.2&&lB ord x.2 x.1 y.1)) M
theorem mm{ord:List (Str×Str)}{a b:Str}{M:DH}{R:D->DH->Prop}:gd [.tup (ord.map aA),.str a,.str b] M R↔ord.length<=500/\R (.bl (rB ord a b)) M :=
 ⟨fun⟨o,c,d,e,h1,h2⟩=>by
  simp only[List.cons.injEq,D.tup.injEq,D.str.injEq,and_true]at e;obtain⟨e1,e2,e3⟩:=e;rw[ka iZ e1,e2,e3];exact⟨h1,h2⟩,fun h=>⟨ord,a,b,rfl,h⟩⟩
theorem jl{ord:List (Str×Str)}{t:Int}{a b:Str}{M:DH}{R:D->DH->Prop}:dS [.tup (ord.map aA),.int t,.str a,.str b] M R↔ord.length<=500/\R (.bl (lB ord t a b)) M :=
 ⟨fun⟨o,u,c,d,e,h1,h2⟩=>by
  simp only[List.cons.injEq,D.tup.injEq,D.str.injEq,D.int.injEq,and_true]at e;obtain⟨e1,e0,e2,e3⟩:=e;rw[ka iZ e1,e0,e2,e3];exact⟨h1,h2⟩,fun h=>⟨ord,t,a,b,rfl,h⟩⟩
theorem nK{ord:List (Str×Str)}{a b:Str}{t u:Int}{M:DH}{R:D->DH->Prop}:fq [.tup (ord.map aA),.tup [.str a,.int t],.tup [.str b,.int u]] M R↔ord.length<=500/\R (.bl (t+1==u&&lB ord t a b)) M :=
 ⟨fun⟨o,⟨c,v⟩,⟨d,w⟩,e,h1,h2⟩=>by
  simp only[au,List.cons.injEq,D.tup.injEq,D.str.injEq,D.int.injEq,and_true]at e;obtain⟨e1,⟨e2,e3⟩,e4,e5⟩:=e;rw[ka iZ e1,e2,e3,e4,e5];exact⟨h1,h2⟩,fun h=>⟨ord,(a,t),(b,u),rfl,h⟩⟩
theorem nX(F:Fun K "at_most" "at_most" gb f fd) (T:Txt mg) (G3:FnD P w K mg base "reached_from" 1 2 cP):bg P w K mg base CX0 2 f fd ["order","one","other"] (spD K 3 gd):=by
 have nd:=il.nd;refine F.okR rfl il (fun cdv A outer s H E hr=>⟨_,(aw (aU (lE qo (af 2) (qd G3 hr (ae (af 0) (ae (af 1) ah))) rfl))),fun ds M R _ hS bk=>?_⟩);obtain⟨ord,a,b,rfl,ho,k⟩:=hS;refine bk ?_;clear bk;walk_at "rd";refine⟨ord,a,rfl,ho,fun L h1 h2 h3 h4=>?_⟩;refine⟨_,if_pos ⟨rfl,dJ⟩,?_⟩;rw[da];have e:(false ^^ decide (b∈L))=rB ord a b:=by
  rw[Bool.false_xor,Bool.eq_iff_iff,og,decide_eq_true_eq];exact⟨fun h=>h3 b h,fun h=>pW h1 h2 h⟩
 rw[e];exact k
theorem jY(F:Fun K "mark_leads" "mark_leads" dG f fd) (T:Txt mg) (Y7:FnD P w K mg base "at_most" 2 3 gd):bg P w K mg base CX0 3 f fd ["order","turn","one","other"] (spD K 4 dS):=by
 have nd:=fD.nd;refine F.okR rfl fD (fun cdv A outer s H E hr=>⟨_,(ak (bN (aN (jR hr.units) (aP tV (af 1) ao) ao nbh) (aw (aU (qd Y7 hr (ae (af 0) (ae (af 2) (ae (af 3) ah)))))) bp)
   (aw (aU (qd Y7 hr (ae (af 0) (ae (af 3) (ae (af 2) ah))))))),fun ds M R _ hS bk=>?_⟩)
 obtain⟨ord,t,a,b,rfl,ho,k⟩:=hS;refine bk ?_;clear bk;walk_at "rd";simp only[mm];refine eJ (fun h=>?_) (fun h=>?_)
 ·have h':t % 2=0:=by simpa using h
  rw[sW h']at k;exact⟨ho,k⟩
 ·have h':¬ t % 2=0:=by simpa using h
  rw[vP h']at k;exact⟨ho,k⟩
theorem pk(F:Fun K "cancel" "cancel" gT f fd) (T:Txt mg) (Y4:FnD P w K mg base "mark_leads" 3 4 dS):bg P w K mg base CX0 4 f fd ["order","one","other"] (spD K 3 fq):=by
 have nd:=jv.nd;refine F.okR rfl jv (fun cdv A outer s H E hr=>⟨_,(aw (aU (zN (lE (jR hr.units) (aP aS (aL aM (af 1) ao (fun _ _=>rfl)) ao) (aL aM (af 2) ao (fun _ _=>rfl)) nbh) (zU (qd Y4 hr (ae (af 0) (ae (aL aM (af 1) ao (fun _ _=>rfl)) (ae (aL aM (af 1) ao (fun _ _=>rfl)) (ae (aL aM (af 2) ao (fun _ _=>rfl)) ah))))))))),fun ds M R _ hS bk=>?_⟩);obtain⟨ord,⟨a,t⟩,⟨b,u⟩,rfl,ho,k⟩:=hS;refine bk ?_;clear bk;simp only[au];walk_at "rd";simp only[jl];refine eJ (fun h=>?_) (fun h=>?_)
 ·simp only[h,Bool.true_and]at k;exact⟨ho,k⟩
 ·simp only[h,Bool.false_and]at k;exact k
theorem jx{ord:List (Str×Str)}{a b c:Str}(h1:bI ord a b) (h2:bI ord b c):bI ord a c:=by
 induction h2 with
 |refl=>exact h1
 |step _ hm ih=>exact bI.step ih hm
theorem oh{ord:List (Str×Str)}{t:Int}{a:Str}:lB ord t a a=true:=by
 rw[iW,jE];split<;>exact bI.refl
theorem oY{ord:List (Str×Str)}{t:Int}{a b c:Str}(h1:lB ord t a b=true) (h2:lB ord t b c=true):lB ord t a c=true:=by
 rw[iW,jE]at *
 split at h1
 ·rename_i h;rw[if_pos h]at h2 ⊢;exact jx h1 h2
 ·rename_i h;rw[if_neg h]at h2 ⊢;exact jx h2 h1
theorem iO{ord:List (Str×Str)}{t u:Int}{a b:Str}(h:¬ t % 2=u % 2):lB ord t a b=lB ord u b a:=by
 rw[Bool.eq_iff_iff,iW,iW,jE,jE]
 by_cases h1:t % 2=0
 ·have h2:¬ u % 2=0:=by lia
  rw[if_pos h1,if_neg h2]
 ·have h2:u % 2=0:=by lia
  rw[if_neg h1,if_pos h2]
theorem aT{α:Type}{g:GD}{tc:TTd}{te:TEd}{M:DH}{Q:List D->DH->Prop}(enc:α->D) (b:α->Bool) (y:α->D) (Ok:DE->Prop):∀(xs:List α) (Δ:DE) (acc:List D),
  (∀x∈xs,∀ Δ,Ok Δ->∃ Δ',g (enc x) Δ=some Δ'/\Ok Δ'/\(∀Q1:Bool->DH->Prop,Q1 (b x) M->tc Δ' M Q1)/\(b x=true->∀Q2:D->DH->Prop,Q2 (y x) M->te Δ' M Q2))->Ok Δ ->
  Q (acc++(xs.filter b).map y) M->cx g tc te (xs.map enc) Δ M acc Q
 |[],Δ,acc,_,_,q=>by simpa[cx]using q
 |x::xs,Δ,acc,h,hΔ,q=>by
  rw[List.map_cons];simp only[cx];obtain⟨Δ',e,hΔ',h1,h2⟩:=h x (.head _) Δ hΔ;refine⟨Δ',e,h1 _ ?_⟩;have ih:=fun acc' q'=>aT (Q:=Q) enc b y Ok xs Δ' acc' (fun z hz=>h z (.tail _ hz)) hΔ' q';cases hb:b x with
  |true =>
   simp only[if_true];refine h2 hb _ (ih _ ?_);rw[List.filter_cons_of_pos hb]at q;simpa using q
  |false =>
   simp only[Bool.false_eq_true,if_false];refine ih _ ?_;rw[List.filter_cons_of_neg (by simp[hb])]at q;exact q
def cB(ord:List (Str×Str)) (x y:Str×Int):Bool:=x.2+1==y.2&&lB ord x.2 x.1 y.1
theorem oV{ord:List (Str×Str)}{x y:Str×Int}{M:DH}{R:D->DH->Prop}:fq [.tup (ord.map aA),au x,au y] M R↔ord.length<=500/\R (.bl (cB ord x y)) M:=nK (a:=x.1) (b:=y.1) (t:=x.2) (u:=y.2)
def sg(row:List (Str×Int)) (i:Nat):Str×Int:=row.getD i ("",0)
theorem k7{row:List (Str×Int)}{i:Nat}(h:i<row.length):atI (row.map au) (i:Int)=some (au (sg row i)):=by
 refine dw ?_;rw[List.getElem?_map,List.getElem?_eq_getElem h];simp[sg,h]
def stD(s:Nat×Nat):D:=.tup [.int (s.1:Int),.int (s.2:Int)]
def stI(s:Nat×Nat):Int×Int:=((s.1:Int),(s.2:Int))
def kP(s:Nat×Nat):List KD:=[.int s.1,.int s.2]
theorem sL(l:List (Nat×Nat)):(l.map kP).map dY=l.map stD:=by
 rw[List.map_map];refine List.map_congr_left fun s _=>?_;show D.tup (kds _)=_;rw[j7];rfl
theorem B9{l:List (Nat×Nat)}:Rws (l.map kP):=⟨fun k hk=>by
 obtain⟨r,_,rfl⟩:=List.mem_map.mp hk;intro j hj;simp only[kP,List.mem_cons,List.not_mem_nil,or_false]at hj;rcases hj with rfl|rfl<;>trivial,fun a ha b hb=>by
 obtain⟨r,_,rfl⟩:=List.mem_map.mp ha;obtain⟨s,_,rfl⟩:=List.mem_map.mp hb;simp[kP,Cms,Cm]⟩
theorem oj(l:List (Nat×Nat)):∃L:List (Nat×Nat),g8 (.lst (l.map stD))=some (.lst (L.map stD))/\L.Perm l/\L.Pairwise fun a b=>a.1<=b.1:=by
 obtain⟨L,p,e⟩:=lX (kH (l.map kP)) l rfl;have h:=oS (l.map kP);rw[e,List.pairwise_map]at h;refine⟨L,by rw[<-sL,uX B9,e,sL],p,h.imp fun {a b} z=>?_⟩;rcases Nat.lt_or_ge b.1 a.1 with y|y
 ·have hn:¬ (KD.int (b.1:Int)=KD.int (a.1:Int)):=fun q=>by
   have:(b.1:Int)=(a.1:Int):=by simpa using q
   lia
  have:bj (kP b) (kP a)=true:=by
   simp only[kP,bj,if_neg hn,ltK];exact decide_eq_true (by lia)
  simp[leK,this]at z
 ·exact y
structure oy(R:Str×Int->Str×Int->Bool) (row:List (Str×Int)) (arcs:List (Nat×Nat)):Prop where
 len:2*arcs.length=row.length
 arc:∀a∈arcs,a.1<a.2/\a.2<row.length/\R (sg row a.1) (sg row a.2)=true
 pw:arcs.Pairwise fun a b=>a.1<b.1/\b.1≠a.2/\b.2≠a.2/\¬ (b.1<a.2/\a.2<b.2)
inductive Gp {T:Type}(c:T->T->Bool):List T->Prop
 |nil:Gp c []
 |step {a b:T} {xs ys:List T}:c a b=true->Gp c xs->Gp c ys->Gp c (a::(xs++b::ys))
inductive Kp {T:Type}(c:T->T->Bool):List T->List T->Prop
 |nil {g:List T}:Gp c g->Kp c g []
 |cons {t:T} {g r ts:List T}:Gp c g->Kp c r ts->Kp c (g++t::r) (t::ts)
def Cn{T:Type}(c:T->T->Bool) (r s:List T):Prop:=∃xs a b ys,r=xs++a::b::ys/\c a b=true/\s=xs++ys
def Rt{T:Type}(c:T->T->Bool):Nat->List T->List T->Prop
 |0,r,s=>r=s
 |n+1,r,s=>∃m,Rt c n r m/\Cn c m s
section
variable{T:Type}{c:T->T->Bool}
theorem gD{α:Type}{p q xs ys:List α}(h:p++q=xs++ys):(∃z,p=xs++z/\ys=z++q)∨∃z,xs=p++z/\q=z++ys:=by
 rcases List.append_eq_append_iff.mp h with⟨z,h1,h2⟩|⟨z,h1,h2⟩
 ·exact .inr ⟨z,h1,h2⟩
 ·exact .inl ⟨z,h1,h2⟩
theorem Gp.ins{a b:T}(hc:c a b=true):∀{g:List T},Gp c g->∀xs ys,g=xs++ys->Gp c (xs++a::b::ys):=by
 intro g hg
 induction hg with
 |nil =>
  intro xs ys e;obtain⟨rfl,rfl⟩:=List.append_eq_nil_iff.mp e.symm;exact Gp.step (xs:=[]) (ys:=[]) hc .nil .nil
 |@step u v p q huv hp hq ihp ihq =>
  intro xs ys e;cases xs with
  |nil =>
   rw[List.nil_append]at e ⊢;rw[<-e];exact Gp.step (xs:=[]) hc .nil (.step huv hp hq)
  |cons x xs =>
   rw[List.cons_append]at e;obtain⟨rfl,e1⟩:=List.cons.inj e;rcases gD e1 with⟨z,rfl,rfl⟩|⟨z,rfl,e2⟩
   ·have:=Gp.step huv (ihp xs z rfl) hq;simpa using this
   ·cases z with
    |nil =>
     rw[List.nil_append]at e2;subst e2;have:=Gp.step huv (ihp p [] (by simp)) hq;simpa using this
    |cons y z =>
     rw[List.cons_append]at e2;obtain⟨rfl,e3⟩:=List.cons.inj e2;have:=Gp.step huv hp (ihq z ys e3);simpa using this
theorem Kp.ins{a b:T}(hc:c a b=true):∀{r told:List T},Kp c r told->∀xs ys,r=xs++ys->Kp c (xs++a::b::ys) told:=by
 intro r told h
 induction h with
 |nil hg=>intro xs ys e;exact .nil (hg.ins hc xs ys e)
 |@cons t g r ts hg hr ih =>
  intro xs ys e;rcases gD e with⟨z,rfl,rfl⟩|⟨z,rfl,e2⟩
  ·have:=Kp.cons (t:=t) (hg.ins hc xs z rfl) hr;simpa using this
  ·cases z with
   |nil =>
    rw[List.nil_append]at e2;subst e2;have:=Kp.cons (t:=t) (hg.ins hc g [] (by simp)) hr;simpa using this
   |cons y z =>
    rw[List.cons_append]at e2;obtain⟨rfl,e3⟩:=List.cons.inj e2;have:=Kp.cons (t:=t) hg (ih z ys e3);simpa using this
theorem Kp.self:∀r:List T,Kp c r r
 |[]=>.nil .nil
 |t::r=>Kp.cons (g:=[]) .nil (Kp.self r)
theorem Rt.kp:∀{n:Nat}{r m told:List T},Rt c n r m->Kp c m told->Kp c r told
 |0,r,m,told,h,k=>by cases h;exact k
 |n+1,r,m,told,⟨m',h1,xs,a,b,ys,e1,hc,e2⟩,k=>by
  subst e1;exact h1.kp (k.ins hc xs ys e2)
theorem Rt.trans:∀{n m:Nat}{r s t:List T},Rt c n r s->Rt c m s t->Rt c (n+m) r t
 |n,0,r,s,t,h1,h2=>by cases h2;exact h1
 |n,m+1,r,s,t,h1,⟨x,h2,h3⟩=>⟨x,Rt.trans h1 h2,h3⟩
theorem Rt.ctx(xs ys:List T):∀{n:Nat}{r s:List T},Rt c n r s->Rt c n (xs++r++ys) (xs++s++ys)
 |0,r,s,h=>by cases h;rfl
 |n+1,r,s,⟨m,h1,us,a,b,vs,e1,hc,e2⟩=>⟨_,Rt.ctx xs ys h1,xs++us,a,b,vs++ys,by rw[e1];simp,hc,by rw[e2];simp⟩
theorem Gp.rt{g:List T}(h:Gp c g):∃n,Rt c n g []:=by
 induction h with
 |nil=>exact⟨0,rfl⟩
 |@step a b p q hc hp hq ihp ihq =>
  obtain⟨n,h1⟩:=ihp;obtain⟨m,h2⟩:=ihq;have r1:=h1.ctx [a] (b::q);have r2:Rt c 1 ([a]++[]++b::q) q:=⟨_,rfl,[],a,b,q,rfl,hc,rfl⟩;have e:a::(p++b::q)=[a]++p++b::q:=by simp
  exact⟨_,e▸(r1.trans r2).trans h2⟩
theorem Kp.rt{r told:List T}(h:Kp c r told):∃n,Rt c n r told:=by
 induction h with
 |nil hg=>exact hg.rt
 |@cons t g r ts hg hr ih =>
  obtain⟨n,h1⟩:=hg.rt;obtain⟨m,h2⟩:=ih;have r1:=h1.ctx [] (t::r);have r2:=h2.ctx [t] [];rw[List.append_nil,List.append_nil]at r2;exact⟨n+m,Rt.trans (s:=t::r) (by simpa using r1) (by simpa using r2)⟩
theorem Cb{r told:List T}:(∃n,Rt c n r told)↔Kp c r told:=⟨fun⟨_,h⟩=>h.kp (Kp.self told),Kp.rt⟩
theorem Cn.len{r s:List T}(h:Cn c r s):r.length=s.length+2:=by
 obtain⟨xs,a,b,ys,rfl,_,rfl⟩:=h;simp;lia
theorem Rt.len:∀{n:Nat}{r s:List T},Rt c n r s->r.length=s.length+2*n
 |0,_,_,h=>by cases h;rfl
 |n+1,_,_,⟨m,h1,h2⟩=>by have:=h1.len;have:=h2.len;lia
end
def oi(n i:Nat):List Nat:=(List.range ((n-i) / 2)).map fun k=>i+1+2*k
def mts(R:Str×Int->Str×Int->Bool) (row:List (Str×Int)) (i:Nat):List Nat:=(oi row.length i).filter fun m=>R (sg row i) (sg row m)
def jw(l:List Nat):D:=.lst (l.map fun(m:Nat)=>D.int (m:Int))
def uT(ms:List (List Nat)):D:=.lst (ms.map jw)
def fk:SpD:=fun ds M R=>∃(ord:List (Str×Str)) (row:List (Str×Int)),ds=[.tup (ord.map aA),.tup (row.map au)]/\ord.length<=500/\row.length<=24/\R (uT ((List.range row.length).map (mts (cB ord) row))) M
theorem xQ{n i m:Nat}(h:m∈oi n i):m<n:=by
 unfold oi at h;obtain⟨k,hk,rfl⟩:=List.mem_map.mp h;have:=List.mem_range.mp hk
 lia
theorem Eu{i n:Nat}(h:i<n):szR ((i:Int)+1) n 2=(n-i) / 2:=by
 unfold szR Builtin.Range.rangeSize;simp
 lia
theorem uG{i n:Nat}(h:i<n):nU ((i:Int)+1) 2 (szR ((i:Int)+1) n 2)=(oi n i).map fun(m:Nat)=>D.int (m:Int):=by
 rw[Eu h];unfold nU oi;rw[List.map_map];apply List.map_congr_left;intro k _;simp;lia
theorem mB(F:Fun K "mates_in" "mates_in" cE f fd) (T:Txt mg) (G6:FnD P w K mg base "cancel" 4 3 fq):bg P w K mg base CX0 5 f fd ["order","row"] (spD K 2 fk):=by
 have nd:=gR.nd;refine F.okR rfl gR (fun cdv A outer s H E hr=>⟨_,(ak (aI (i:=2) nd rfl (Or.inr rfl) (aH bS rfl T.b_len (by kernel_rfl) (ae (af 1) ah)))
   (aw (aU (CB (ms:=[true,true,true]) (aj:=["at"]) (qA rfl (show gk (am cE) cC _ _=true from by decide +kernel)) rfl (cJ rfl T.b_range (ae (af 2) ah)) (w6 (i:=3) (show(cC++_).Nodup from by decide +kernel) rfl rfl rfl) (fun S _ _ _ _=>fC) (fun S _ _ _ _=>(jT (ms:=[true,true,false,true]) (aj:=["mate"]) (uu S (show aQ (ku _ (am cE)) (cC++(["at"]:List Str)) _ _=true from by decide +kernel)) rfl (tq rfl T.b_range (ae (aP aS (af 3) ao) (ae (af 2) (ae ao ah)))) (aC (i:=4) (show((cC++(["at"]:List Str))++_).Nodup from by decide +kernel) rfl rfl) (fun _ _ _ _=>(dm (dI (qd G6 hr (ae (af 0) (ae (aL aM (af 1) (af 3) (fun _ _=>rfl)) (ae (aL aM (af 1) (af 4) (fun _ _=>rfl)) ah))))))) (fun _ _ _ _=>(af 4)))))))),fun ds M R _ hS bk=>?_⟩)
 obtain⟨ord,row,rfl,ho,hl,k⟩:=hS;refine bk ?_;clear bk;walk_at "rd";rw[List.length_map];have hl':(i5 0 (row.length:Int).toNat)=(List.range row.length).map fun(k:Nat)=>D.int (0+(k:Int)):=rfl;rw[hl'];refine⟨by lia,by lia,by rw[List.length_map,List.length_range];exact sz3 _ (by lia),?_⟩;refine aT (fun(k:Nat)=>D.int (0+(k:Int))) (fun _=>true) (fun i=>jw (mts (cB ord) row i)) (fun Δ=>∃x,Δ=[some (D.tup (ord.map aA)),some (D.tup (row.map au)),some (D.int row.length),x]) _ _ _ (fun i hi Δ hΔ=>?_) ⟨none,rfl⟩ ?_
 ·obtain⟨x,rfl⟩:=hΔ;have hi':=List.mem_range.mp hi;refine⟨_,rfl,⟨_,rfl⟩,fun Q1 q=>q,fun _ Q2 q=>?_⟩;rw[Int.zero_add];walk_at "rd";refine⟨_,_,_,⟨rfl,rfl,rfl⟩,Or.inl rfl,⟨by lia,by lia,by lia,by lia⟩,?_⟩;rw[uG hi'];refine⟨by rw[List.length_map];unfold oi;rw[List.length_map,List.length_range];exact sz3 _ (by lia),?_⟩;refine aT (fun(m:Nat)=>D.int (m:Int)) (fun m=>cB ord (sg row i) (sg row m)) (fun(m:Nat)=>D.int (m:Int)) (fun Δ=>∃x,Δ=[some (D.tup (ord.map aA)),some (D.tup (row.map au)),none,some (D.int i),x]) _ _ _ (fun m hm Δ hΔ=>?_) ⟨none,rfl⟩ q;obtain⟨y,rfl⟩:=hΔ;have hm':m<row.length:=xQ hm;refine⟨_,rfl,⟨_,rfl⟩,fun Q1 q1=>?_,fun _ Q2 q2=>?_⟩
  ·walk_at "rd";refine⟨_,k7 hi',_,k7 hm',?_⟩;exact oV.mpr ⟨ho,_,rfl,q1⟩
  ·walk_at "rd";exact q2
 ·rw[List.nil_append,List.filter_eq_self.mpr (fun _ _=>rfl)];have e:(List.range row.length).map (fun i=>jw (mts (cB ord) row i))=((List.range row.length).map (mts (cB ord) row)).map jw:=by rw[List.map_map];rfl
  rw[e];exact k
def hJ:SpD:=fun ds M R=>∃(ms:List (List Nat)) (p:Addr) (kvs:List (List Key×D)) (b e:Nat) (C:Nat->Nat->Nat),ds=[uT ms,.ref p,.int b,.int e]/\M p=some (.dT kvs) /\
 ∃hb:b<ms.length,(∀m∈ms[b],m<e->df kvs [.inl ((b:Int)+1),.inl (m:Int)]=some (.int (C (b+1) m))/\df kvs [.inl ((m:Int)+1),.inl (e:Int)]=some (.int (C (m+1) e))/\Few (C (b+1) m:Nat)/\Few (C (m+1) e:Nat))/\ms[b].length<=1000 /\
 R (.lst ((ms[b].filter fun m=>decide (m<e)).map fun(m:Nat)=>pD ((m:Int),(C (b+1) m*C (m+1) e:Nat)))) M
theorem o5(F:Fun K "splits" "splits" fj f fd) (T:Txt mg) :bg P w K mg base CX0 1 f fd ["mates","counts","begin","end"] (spD K 4 hJ):=by
 have nd:=jz.nd;refine F.okR rfl jz (fun cdv A outer s H E hr=>⟨_,(aw (aU (jT (ms:=[false,true,true,true]) (aj:=["mate"]) (aK rfl (show aQ (am fj) hV _ _=true from by decide +kernel)) rfl (bz (aL aM (af 0) (af 2) (fun _ _=>rfl))) (aC (i:=4) (show(hV++_).Nodup from by decide +kernel) rfl rfl) (fun _ _ _ _=>(dm (aN rX (af 4) (af 3) nbh))) (fun _ _ _ _=>(aZ (ae (af 4) (ae (aP qw (sM hr.units1 (af 1) (ae (aP aS (af 2) ao) (ae (af 4) ah)) (fun _ _=>rfl)) (sM hr.units1 (af 1) (ae (aP aS (af 4) ao) (ae (af 3) ah)) (fun _ _=>rfl))) ah))))))),fun ds M R _ hS bk=>?_⟩);obtain⟨ms,p,kvs,b,e,C,rfl,hM,hb,hC,hlb,k⟩:=hS;refine bk ?_;clear bk;walk_at "rd";have e1:ixD (rdM M (uT ms)) (D.int b)=some (jw ms[b]):=by
  show atI (ms.map jw) (b:Int)=_;exact dw (by rw[List.getElem?_map,List.getElem?_eq_getElem hb];rfl)
 refine⟨_,e1,_,rfl,fun hz=>⟨hz,?_⟩⟩;refine aT (fun(m:Nat)=>D.int (m:Int)) (fun m=>decide (m<e)) (fun(m:Nat)=>pD ((m:Int),(C (b+1) m*C (m+1) e:Nat))) (fun Δ=>∃x,Δ=[none,some (D.ref p),some (D.int b),some (D.int e),x]) _ _ _ (fun m hm Δ hΔ=>?_) ⟨none,rfl⟩ ?_
 ·obtain⟨x,rfl⟩:=hΔ;refine⟨_,rfl,⟨_,rfl⟩,fun Q1 q=>?_,fun hme Q2 q=>?_⟩
  ·walk_at "rd";have:decide ((m:Int)<(e:Int))=decide (m<e):=by simp
   rw[this];exact q
  ·obtain⟨c1,c2,c3,c4⟩:=hC m hm (by simpa using hme);walk_at "rd";simp only[hM];walk_at "rd";simp only[c1,c2];walk_at "rd";have hcm:gL (C (b+1) m:Int) (C (m+1) e:Int)=True:=we ⟨c3,c4⟩;simp only[hcm];walk_at "rd";refine⟨sz3 2,sz3 2,sz3 2,?_⟩;rw[Int.natCast_mul]at q;exact q
 ·exact k
theorem ft{α:Type}{p:α->Bool}{g:α->Nat}:∀{l:List α},((l.filter p).map g).sum=(l.map fun x=>if p x=true then g x else 0).sum
 |[]=>rfl
 |x::l=>by
  cases h:p x with
  |true=>rw[List.filter_cons_of_pos h];simp[h,ft (l:=l)]
  |false=>rw[List.filter_cons_of_neg (by simp[h])];simp[h,ft (l:=l)]
theorem gi{f:Nat->Nat}{a:Nat}:∀{d:Nat},(∀k,a<=k->k<a+d->f k=0)->((List.range (a+d)).map f).sum=((List.range a).map f).sum
 |0,_=>rfl
 |d+1,h=>by
  rw[<-Nat.add_assoc,List.range_succ,List.map_append,List.sum_append,gi (d:=d) fun k h1 h2=>h k h1 (by lia)];simp[h (a+d) (by lia) (by lia)]
theorem pB{f:Nat->Nat}:∀(L:Nat),(∀k,k<L->k % 2=1->f k=0)->((List.range L).map f).sum=((List.range ((L+1) / 2)).map fun j=>f (2*j)).sum
 |0,_=>rfl
 |1,_=>by simp
 |L+2,h=>by
  rw[List.range_succ,List.range_succ,List.map_append,List.map_append,List.sum_append,List.sum_append,pB L fun k h1 h2=>h k (by lia) h2];rw[show(L+2+1) / 2=(L+1) / 2+1 by lia,List.range_succ,List.map_append,List.sum_append];simp only[List.map_cons,List.map_nil,List.sum_cons,List.sum_nil,Nat.add_zero]
  by_cases e:L % 2=1
  ·rw[h L (by lia) e,show 2*((L+1) / 2)=L+1 by lia];lia
  ·rw[h (L+1) (by lia) (by lia),show 2*((L+1) / 2)=L by lia];lia
theorem lI{σ:Type}(d:σ):∀(xs:List σ),fP xs=(List.range xs.length).map fun k=>(xs.take k,xs.getD k d,xs.drop (k+1))
 |[]=>rfl
 |x::xs=>by
  rw[fP,lI d xs,List.length_cons,List.range_succ_eq_map,List.map_cons,List.map_map,List.map_map];rfl
def seg(row:List (Str×Int)) (b e:Nat):List (Str×Int):=(row.drop b).take (e-b)
theorem fw{row:List (Str×Int)}{b e:Nat}(h:e<=row.length):(seg row b e).length=e-b:=by
 unfold seg;rw[List.length_take,List.length_drop];lia
theorem wn{row:List (Str×Int)}{b:Nat}:seg row b b=[]:=by unfold seg;simp
theorem tG{row:List (Str×Int)}:seg row 0 row.length=row:=by unfold seg;simp
theorem xr{row:List (Str×Int)}{b e:Nat}(h:b<e) (he:e<=row.length):seg row b e=sg row b::seg row (b+1) e:=by
 unfold seg;have hb:b<row.length:=by lia
 rw[List.drop_eq_getElem_cons hb,show e-b=(e-(b+1))+1 by lia,List.take_succ_cons];simp[sg,hb]
theorem xK{row:List (Str×Int)}{b e k:Nat}(h:b+k<=e):(seg row b e).take k=seg row b (b+k):=by
 unfold seg;rw[List.take_take,Nat.min_eq_left (by lia),show b+k-b=k by lia]
theorem wK{row:List (Str×Int)}{b e k:Nat}:(seg row b e).drop k=seg row (b+k) e:=by
 unfold seg;rw[List.drop_take,List.drop_drop,show e-b-k=e-(b+k)by lia]
theorem Bw{row:List (Str×Int)}{b e k:Nat}(h:b+k<e):(seg row b e).getD k ("",0)=sg row (b+k):=by
 unfold seg sg;rw[List.getD_eq_getElem?_getD,List.getElem?_take,if_pos (by lia),List.getElem?_drop,List.getD_eq_getElem?_getD]
section
variable{R:Str×Int->Str×Int->Bool}{row:List (Str×Int)}
theorem Ek{b e:Nat}(h:b<e) (he:e<=row.length):W R (seg row b e)=((List.range ((e-b) / 2)).map fun j=>if R (sg row b) (sg row (b+1+2*j))=true then W R (seg row (b+1) (b+1+2*j))*W R (seg row (b+1+2*j+1) e)else 0).sum:=by
 rw[xr h he,nO,lI (σ:=Str×Int) ("",0),List.map_map,fw he];have e1:((List.range (e-(b+1))).map ((fun c=>if R (sg row b) c.2.1=true then W R c.1*W R c.2.2 else 0)∘fun k=>((seg row (b+1) e).take k,(seg row (b+1) e).getD k ("",0),(seg row (b+1) e).drop (k+1)))).sum
  =((List.range (e-(b+1))).map fun k=>if R (sg row b) (sg row (b+1+k))=true then W R (seg row (b+1) (b+1+k))*W R (seg row (b+1+k+1) e)else 0).sum:=by
  congr 1;apply List.map_congr_left;intro k hk;have hk':=List.mem_range.mp hk;simp only[Function.comp_def];rw[Bw (by lia),xK (by lia),wK];rfl
 rw[e1,pB _ fun k hk ho=>?_,show(e-(b+1)+1) / 2=(e-b) / 2 by lia]
 by_cases c:R (sg row b) (sg row (b+1+k))=true
 ·rw[if_pos c,vV _ (seg row (b+1) (b+1+k)) (Nat.le_refl _) (by rw[fw (by lia)];lia),Nat.zero_mul]
 ·rw[if_neg c]
theorem tT{b e:Nat}(h:b<e) (he:e<=row.length):(((mts R row b).filter fun m=>decide (m<e)).map fun m=>W R (seg row (b+1) m)*W R (seg row (m+1) e)).sum=W R (seg row b e):=by
 rw[Ek h he,ft];unfold mts;rw[ft];unfold oi;rw[List.map_map];rw[show(row.length-b) / 2=(e-b) / 2+((row.length-b) / 2-(e-b) / 2)by lia,gi fun k h1 h2=>?_]
 ·congr 1;apply List.map_congr_left;intro k hk;have hk':=List.mem_range.mp hk;simp only[Function.comp_def];rw[if_pos (show decide (b+1+2*k<e)=true by simp;lia)]
 ·simp only[Function.comp_def];rw[if_neg (show ¬ decide (b+1+2*k<e)=true by simp;lia),ite_self]
end
def tab(R:Str×Int->Str×Int->Bool) (row:List (Str×Int)) (L j b e:Nat):Option D:=if b<=e/\e<=row.length/\(e-b) % 2=0/\(e-b<L∨(e-b=L/\b<j))then some (.int (W R (seg row b e):Nat))else none
def Tab(R:Str×Int->Str×Int->Bool) (row:List (Str×Int)) (L j:Nat) (kvs:List (List Key×D)):Prop:=∀b e:Nat,df kvs [.inl (b:Int),.inl (e:Int)]=tab R row L j b e
def iH(kvs:List (List Key×D)):Prop:=(kvs.map (·.1)).Nodup/\∀x∈kvs,∃(b e:Nat) (v:Int),x=([.inl (b:Int),.inl (e:Int)],.int v)
theorem iH.nil:iH []:=⟨by simp,fun x h=>absurd h (by simp)⟩
theorem iH.put{kvs:List (List Key×D)}{b e:Nat}{v:Int}(h:iH kvs):iH (j3 kvs [.inl (b:Int),.inl (e:Int)] (.int v)):=by
 unfold j3
 split
 ·refine⟨?_,fun x hx=>?_⟩
  ·rw[List.map_map];have e1:((fun x:List Key×D=>x.1)∘fun kv:List Key×D=>if kv.1=[Sum.inl (b:Int),Sum.inl (e:Int)]then(kv.1,D.int v)else kv)=fun x=>x.1:=by
    funext kv;simp only[Function.comp_def]
    split<;>rfl
   rw[e1];exact h.1
  ·obtain⟨y,hy,rfl⟩:=List.mem_map.mp hx;obtain⟨b',e',v',rfl⟩:=h.2 y hy
   split
   ·exact⟨_,_,_,rfl⟩
   ·exact⟨_,_,_,rfl⟩
 ·rename_i hn;refine⟨?_,fun x hx=>?_⟩
  ·rw[List.map_append,List.nodup_append];refine⟨h.1,by simp,fun u hu w hw=>?_⟩;obtain rfl:w=[Sum.inl (b:Int),Sum.inl (e:Int)]:=by simpa using hw
   rintro rfl;obtain⟨y,hy,ey⟩:=List.mem_map.mp hu;exact hn (List.any_eq_true.mpr ⟨y,hy,by simpa using ey⟩)
  ·rcases List.mem_append.mp hx with z|z
   ·exact h.2 x z
   ·exact⟨b,e,v,by simpa using z⟩
def cv:SpD:=fun ds M Q=>∃(R:Str×Int->Str×Int->Bool) (row:List (Str×Int)),ds=[uT ((List.range row.length).map (mts R row))]/\row.length<=24 /\
 ∀p kvs,M p=none->Tab R row (row.length+1) 0 kvs->iH kvs/\kvs.length<=325->Q (.ref p) (av M p (.dT kvs))
theorem i4{R:Str×Int->Str×Int->Bool}{row:List (Str×Int)}{L j L' j' b e:Nat}(h:∀d,d=e-b->b+d<=row.length->d % 2=0->((d<L∨(d=L/\b<j))↔(d<L'∨(d=L'/\b<j')))):tab R row L j b e=tab R row L' j' b e:=by
 unfold tab;have q:b<=e->e<=row.length->b+(e-b)<=row.length:=fun h1 h2=>by rw[Nat.add_sub_cancel' h1];exact h2
 exact ite_congr (propext ⟨fun⟨x,y,z,d⟩=>⟨x,y,z,(h _ rfl (q x y) z).mp d⟩,fun⟨x,y,z,d⟩=>⟨x,y,z,(h _ rfl (q x y) z).mpr d⟩⟩) (fun _=>rfl) fun _=>rfl
theorem Bn{R:Str×Int->Str×Int->Bool}{row:List (Str×Int)}{L b:Nat}(h1:b+L<=row.length) (h2:L % 2=0):tab R row L (b+1) b (b+L)=some (.int (W R (seg row b (b+L)):Nat)):=by
 unfold tab;have e:b+L-b=L:=Nat.add_sub_cancel_left ..;exact if_pos ⟨Nat.le_add_right _ _,h1,by rw[e];exact h2,.inr ⟨e,Nat.lt_succ_self b⟩⟩
theorem nR{b e b' e':Nat}:([Sum.inl (b:Int),Sum.inl (e:Int)]:List Key)=[Sum.inl (b':Int),Sum.inl (e':Int)]↔b=b'/\e=e':=by
 simp only[List.cons.injEq,Sum.inl.injEq,and_true,Int.natCast_inj]
theorem o3{α:Type}{f:α->Nat}:∀{l:List α},(l.map fun x=>((f x:Nat):Int)).sum=(((l.map f).sum:Nat):Int)
 |[]=>rfl
 |x::l=>by simp only[List.map_cons,List.sum_cons,o3 (l:=l),Int.natCast_add]
theorem nV{R:Str×Int->Str×Int->Bool}{row:List (Str×Int)}{i m:Nat}(h:m∈mts R row i):i+1<=m/\m<row.length/\(m-i) % 2=1:=by
 unfold mts oi at h;obtain⟨k,hk,rfl⟩:=List.mem_map.mp (List.mem_filter.mp h).1;have:=List.mem_range.mp hk
 lia
theorem tu{R:Str×Int->Str×Int->Bool}{row:List (Str×Int)}{i:Nat}:(mts R row i).length<=row.length:=by
 unfold mts;refine Nat.le_trans (List.length_filter_le _ _) ?_;unfold oi;rw[List.length_map,List.length_range]
 lia
theorem sy{R:Str×Int->Str×Int->Bool}{xs:List (Str×Int)}(h:xs.length<=24):Few (W R xs:Nat):=by
 have h1:=DW (R:=R) 24 xs h (by decide);have h2:(100:Nat) ^ xs.length<=100 ^ 24:=Nat.pow_le_pow_right (by decide) h;have h3:W R xs<10 ^ 60:=Nat.lt_of_le_of_lt (Nat.le_trans h1 h2) (by decide);exact vT (by lia) (by lia)
theorem sh{p:Addr}{M:DH}{Q:DH->Prop}:∀(k done:Nat) (x:Option D) (kvs:List (List Key×D)),(∀b e:Nat,df kvs [.inl (b:Int),.inl (e:Int)]=if b=e/\b<done then some (.int 1)else none)->kvs.length<=done->iH kvs->done+k<=100 ->
  (∀kvs',(∀b e:Nat,df kvs' [.inl (b:Int),.inl (e:Int)]=if b=e/\b<done+k then some (.int 1)else none)->kvs'.length<=done+k->iH kvs'->Q (av M p (.dT kvs'))) ->
  kJ (bL 6) (ef (eG 6) (ef (eG 6) qI)) (dC (D.int 1)) p ((List.range' done k).map fun(j:Nat)=>D.int (0+(j:Int))) [none,none,none,none,none,none,x] (av M p (.dT kvs)) Q
 |0,done,x,kvs,h,hl,hk,hz,q=>by simpa[kJ]using q kvs h hl hk
 |k+1,done,x,kvs,h,hl,hk,hz,q=>by
  rw[List.range'_succ,List.map_cons];simp only[kJ];refine⟨_,rfl,?_⟩;rw[Int.zero_add];walk_at "rd";refine⟨sz3 2,Nat.lt_of_lt_of_le (by lia:kvs.length<1000) (sz3 1000),?_⟩;refine sh k (done+1) _ _ (fun b e=>?_) (Nat.le_trans (jG _ _ _) (by lia)) hk.put (by lia) fun kvs' h' hl' hk'=>q kvs' (fun b e=>by rw[h' b e,show done+1+k=done+(k+1)by lia]) (by lia) hk';rw[qu,h b e]
  by_cases c:b=done/\e=done
  ·rw[if_pos (nR.mpr c),if_pos (by lia)]
  ·rw[if_neg (fun z=>c (nR.mp z))]
   by_cases g:b=e/\b<done
   ·rw[if_pos g,if_pos (by lia)]
   ·rw[if_neg g,if_neg (by lia)]
theorem gJ(F:Fun K "stretch_counts" "stretch_counts" bo f fd) (T:Txt mg) (G8:FnD P w K mg base "splits" 1 4 hJ):bg P w K mg base CX0 2 f fd ["mates"] (spD K 1 cv):=by
 have nd:=dq.nd;refine F.okR rfl dq (fun cdv A outer s H E hr=>⟨_,(ak (aI (i:=1) nd rfl (Or.inl rfl) (aH bS rfl T.b_len (by kernel_rfl) (ae (af 0) ah)))
   (ak (yU (i:=2) (ms:=[false,false,false,false,false,false]) (aj:=["at"]) hr.units0 nd rfl rfl rfl (aK (n0:=0) rfl (show aQ (am bo) a6 _ _=true from by decide +kernel)) rfl (cJ rfl T.b_range (ae (aP aS (af 1) ao) ah)) (aC (i:=6) (show(a6++_).Nodup from by decide +kernel) rfl rfl) (fun _ _ _ _=>(ae (af 6) (ae (af 6) ah))) (fun _ _ _ _=>ao))
   (ak (dP PassesOwn.never rfl (tq rfl T.b_range (ae ao (ae (aP aS (af 1) ao) (ae ao ah)))) (bu (i:=3) nd rfl (Or.inl rfl)) (aw (dP PassesOwn.never rfl (cJ rfl T.b_range (ae (aP aS (aP fH (af 1) (af 3)) ao) ah)) (bu (i:=4) nd rfl (Or.inl rfl)) (ak (aI (i:=5) nd rfl (Or.inl rfl) (aP aS (af 4) (af 3)))
   (aw (BU hr.units1 (af 2) (ae (af 4) (ae (af 5) ah)) (aH (zZ rfl) rfl T.b_sum (by kernel_rfl) (ae (jT (ms:=[false,false,false,false,false,false]) (aj:=["mate","count"]) (aK (n0:=0) rfl (show aQ (am bo) a6 _ _=true from by decide +kernel)) rfl (bz (qd G8 hr (ae (af 0) (ae (af 2) (ae (af 4) (ae (af 5) ah)))))) (cO (n:=2) rfl (aO (aC (i:=6) (show(a6++_).Nodup from by decide +kernel) rfl rfl) (aO (aC (i:=7) (show(a6++_).Nodup from by decide +kernel) rfl rfl) cV))) (fun _ _ _ _=>fC) (fun _ _ _ _=>(af 7))) ah))))))))
   (aw (aU (af 2)))))),fun ds M R _ hS bk=>?_⟩)
 obtain⟨r,row,rfl,hl,k⟩:=hS;refine bk ?_;clear bk;simp only[uT];walk_at "rd";simp only[List.length_map,List.length_range];refine⟨by lia,by lia,fun p hp=>?_⟩;have e0:i5 0 ((row.length:Int)+1).toNat=(List.range' 0 (row.length+1)).map fun(j:Nat)=>D.int (0+(j:Int)):=by
  rw[<-List.range_eq_range'];rfl
 rw[e0];refine sh (row.length+1) 0 none [] (fun b e=>by rw[if_neg (by lia)];rfl) (Nat.le_refl _) iH.nil (by lia) fun kvs h0 hl0 hk0=>?_;refine⟨_,_,_,⟨rfl,rfl,rfl⟩,Or.inl rfl,⟨by lia,by lia,by lia,by lia⟩,?_⟩;have hsz:szR 2 ((row.length:Int)+1) 2=row.length / 2:=by
  unfold szR Builtin.Range.rangeSize;simp
  lia
 rw[hsz];have hms:∀b,b<row.length->∃hb:b<((List.range row.length).map (mts r row)).length,((List.range row.length).map (mts r row))[b]=mts r row b:=fun b hb=>⟨by simpa using hb,by simp⟩;refine a7 (fun i Δ M'=>∃(kvs:List (List Key×D)) (x3 x4 x5:Option D),Δ=[some (D.lst (((List.range row.length).map (mts r row)).map jw)),some (D.int row.length),some (D.ref p),x3,x4,x5]/\M'=av M p (.dT kvs)/\Tab r row (2+2*i) 0 kvs/\kvs.length<=25+25*i/\iH kvs)
  ⟨kvs,none,none,none,rfl,rfl,fun b e=>?_,by lia,hk0⟩ ?_ ?_
 ·rw[h0 b e];unfold tab
  by_cases c:b=e/\b<0+(row.length+1)
  ·rw[if_pos c,if_pos (by lia),c.1,wn,sX];rfl
  ·rw[if_neg c,if_neg (by lia)]
 ·intro i d Δ M' X hd hI' k';refine shr fun _ bk=>?_;obtain⟨kvs,x3,x4,x5,rfl,rfl,hT,hkl,hki⟩:=hI';refine bk ?_;clear bk;obtain⟨hi,rfl⟩:=oX hd;have eL:(2:Int)+(i:Int)*2=((2+2*i:Nat):Int):=by lia
  rw[eL];generalize hL:2+2*i=L at *
  have hLn:L<=row.length:=by lia
  simp only[bL];walk_at "rd";refine⟨by lia,by lia,?_⟩;have e1:((row.length:Int)-(L:Int)+1).toNat=row.length-L+1:=by lia
  rw[e1];refine a7 (fun j Δ M'=>∃(kvs:List (List Key×D)) (x4 x5:Option D),Δ=[some (D.lst (((List.range row.length).map (mts r row)).map jw)),some (D.int row.length),some (D.ref p),some (D.int L),x4,x5]/\M'=av M p (.dT kvs)/\Tab r row L j kvs/\kvs.length<=25+25*i+j/\iH kvs)
   ⟨kvs,_,_,rfl,rfl,hT,hkl,hki⟩ ?_ ?_
  ·intro j d Δ M' X' hd2 hI' k2;refine shr fun _ bk=>?_;obtain⟨kvs,x4,x5,rfl,rfl,hT,hkl,hki⟩:=hI';refine bk ?_;clear bk;obtain⟨hj,rfl⟩:=cF hd2;rw[Int.zero_add];simp only[bL];walk_at "rd";have ej:(j:Int)+(L:Int)=((j+L:Nat):Int):=by lia
   rw[ej];obtain⟨hb,em⟩:=hms j (by lia);refine⟨_,p,kvs,j,j+L,fun b e=>W r (seg row b e),rfl,ai,hb,?_,?_,?_⟩
   ·intro m hm hme;rw[em]at hm;obtain⟨m1,m2,m3⟩:=nV hm;refine⟨?_,?_,sy (by rw[fw (by lia)];lia),sy (by rw[fw (by lia)];lia)⟩
    ·have h:=hT (j+1) m;rw[Int.natCast_add]at h;refine h.trans ?_;unfold tab;rw[if_pos (by lia)]
    ·have h:=hT (m+1) (j+L);rw[Int.natCast_add]at h;refine h.trans ?_;unfold tab;rw[if_pos (by lia)]
   ·rw[em];exact Nat.le_trans tu (by lia)
   ·rw[em];refine⟨_,rfl,fun hz=>⟨hz,?_⟩⟩;refine aT (fun(m:Nat)=>pD ((m:Int),(W r (seg row (j+1) m)*W r (seg row (m+1) (j+L)):Nat))) (fun _=>true) (fun(m:Nat)=>D.int (W r (seg row (j+1) m)*W r (seg row (m+1) (j+L)):Nat)) (fun Δ=>∃x y,Δ=[none,none,none,none,none,none,x,y]) _ _ _ (fun m hm Δ hΔ=>?_) ⟨none,none,rfl⟩ ?_
    ·obtain⟨x,y,rfl⟩:=hΔ;refine⟨_,rfl,⟨_,_,rfl⟩,fun Q1 q=>q,fun _ Q2 q=>?_⟩;walk_at "rd";exact q
    ·rw[List.nil_append,List.filter_eq_self.mpr (fun _ _=>rfl)];have es:vG (.lst (((mts r row j).filter fun m=>decide (m<j+L)).map fun(m:Nat)=>D.int (W r (seg row (j+1) m)*W r (seg row (m+1) (j+L)):Nat)))=some (.int (W r (seg row j (j+L)):Nat)):=by
      rw[<-tT (show j<j+L by lia) (show j+L<=row.length by lia),<-o3,<-u0,List.map_map];rfl
     refine⟨_,es,sz3 2,kvs,ai,Nat.lt_of_lt_of_le (by lia:kvs.length<16000000) (szB 16000000),?_⟩;rw[aD];refine k2 _ _ ⟨_,_,_,rfl,rfl,fun b e=>?_,Nat.le_trans (jG _ _ _) (by lia),hki.put⟩;rw[qu,hT b e]
     by_cases c:b=j/\e=j+L
     ·rw[if_pos (nR.mpr c)];obtain⟨rfl,rfl⟩:=c;exact(Bn (by lia) (by lia)).symm
     ·rw[if_neg (fun z=>c (nR.mp z))];exact i4 fun d hd _ _=>or_congr_right (and_congr_right fun h=>⟨fun h'=>Nat.lt_succ_of_lt h',fun h'=>Nat.lt_of_le_of_ne (Nat.le_of_lt_succ h') fun z=>c ⟨z,by clear c;lia⟩⟩)
  ·intro Δ M' hI';refine shr fun _ bk=>?_;obtain⟨kvs,x4,x5,rfl,rfl,hT,hkl,hki⟩:=hI';refine bk ?_;clear bk;have e2:(i5 0 (row.length-L+1)).length=row.length-L+1:=by simp[i5]
   rw[e2]at hT hkl;refine k' _ _ ⟨kvs,_,_,_,rfl,rfl,fun b e=>?_,by lia,hki⟩;rw[hT b e];refine i4 fun d hd hb h2=>⟨fun h=>.inl ?_,fun h=>?_⟩
   ·rcases h with h|⟨h,_⟩<;>lia
   ·rcases h with h|⟨_,h⟩
    ·rcases Nat.lt_or_ge d L with z|z
     ·exact .inl z
     ·have hdL:d=L:=by clear hd;lia
      exact .inr ⟨hdL,by clear hd h2 h;lia⟩
    ·exact absurd h (Nat.not_lt_zero _)
 ·intro Δ M' hI';refine shr fun _ bk=>?_;obtain⟨kvs,x3,x4,x5,rfl,rfl,hT,hkl,hki⟩:=hI';refine bk ?_;clear bk;walk_at "rd";have e2:(nU 2 2 (row.length / 2)).length=row.length / 2:=by simp[nU]
  rw[e2]at hT hkl;refine k p kvs hp (fun b e=>?_) ⟨hki,by lia⟩;rw[hT b e];refine i4 fun d hd hb h2=>⟨fun h=>.inl (Nat.lt_succ_of_le (Nat.le_trans (Nat.le_add_left _ _) hb)),fun h=>.inl (by clear hd h hkl;lia)⟩
def di:SpD:=fun ds M Q=>∃(R:Str×Int->Str×Int->Bool) (row:List (Str×Int)) (p:Addr) (kvs:List (List Key×D)),ds=[.ref p,.tup (row.map au)]/\M p=some (.dT kvs)/\row.length<=24/\Tab R row (row.length+1) 0 kvs/\Q (.int (W R row:Nat)) M
theorem jr(F:Fun K "whole_count" "whole_count" dj f fd) (T:Txt mg) :bg P w K mg base CX0 1 f fd ["counts","row"] (spD K 2 di):=by
 have nd:=eM.nd;refine F.okR rfl eM (fun cdv A outer s H E hr=>⟨_,(aw (aU (zk hr.units1 (af 0) (ae ao (ae (aH bS rfl T.b_len (by kernel_rfl) (ae (af 1) ah)) ah)) ao ⟨rfl,rfl,rfl,rfl⟩))),fun ds M R _ hS bk=>?_⟩);obtain⟨r,row,p,kvs,rfl,hM,hl,hT,k⟩:=hS;refine bk ?_;clear bk;walk_at "rd";refine⟨kvs,hM,sz3 2,kvs,hM,?_⟩;rw[List.length_map];have h:=hT 0 row.length;have e:tab r row (row.length+1) 0 0 row.length=if row.length % 2=0 then some (.int (W r row:Nat))else none:=by
  unfold tab;rw[tG]
  by_cases c:row.length % 2=0
  ·rw[if_pos c,if_pos (by lia)]
  ·rw[if_neg c,if_neg (by lia)]
 have h':df kvs [Sum.inl 0,Sum.inl (row.length:Int)]=_:=h.trans e;rw[h']
 by_cases c:row.length % 2=0
 ·rw[if_pos c];exact k
 ·rw[if_neg c];rw[vV _ row (Nat.le_refl _) (by lia)]at k;exact k
def Ncr(a b:Nat×Nat):Prop:=a.1≠b.1/\a.1≠b.2/\a.2≠b.1/\a.2≠b.2/\¬ (a.1<b.1/\b.1<a.2/\a.2<b.2)/\¬ (b.1<a.1/\a.1<b.2/\b.2<a.2)
theorem Ncr.symm{a b:Nat×Nat}(h:Ncr a b):Ncr b a:=⟨h.1.symm,h.2.2.1.symm,h.2.1.symm,h.2.2.2.1.symm,h.2.2.2.2.2,h.2.2.2.2.1⟩
def stW(l:List (Nat×Nat)):Nat:=(l.map fun s=>s.2-s.1).sum
structure HDr(R:Str×Int->Str×Int->Bool) (row:List (Str×Int)) (arcs sts:List (Nat×Nat)):Prop where
 len:2*arcs.length+stW sts=row.length
 arc:∀a∈arcs,a.1<a.2/\a.2<row.length/\R (sg row a.1) (sg row a.2)=true
 pw:arcs.Pairwise Ncr
 out:∀a∈arcs,∀s∈sts,(a.1<s.1∨s.2<=a.1)/\(a.2<s.1∨s.2<=a.2)
 ap:sts.Pairwise fun s t=>s.2<=t.1∨t.2<=s.1
theorem tM{l l':List (Nat×Nat)}:stW (l++l')=stW l+stW l':=by simp[stW]
theorem HDr.drop{R:Str×Int->Str×Int->Bool}{row:List (Str×Int)}{arcs sts:List (Nat×Nat)}{b:Nat}(h:HDr R row arcs (sts++[(b,b)])):HDr R row arcs sts :=
 ⟨by have:=h.len;rw[tM]at this;simpa[stW]using this,h.arc,h.pw,fun a ha s hs=>h.out a ha s (List.mem_append_left _ hs),(List.pairwise_append.mp h.ap).1⟩
theorem HDr.more{R:Str×Int->Str×Int->Bool}{row:List (Str×Int)}{arcs sts:List (Nat×Nat)}{b m e:Nat}(h:HDr R row arcs (sts++[(b,e)])) (h1:b+1<=m) (h2:m<e) (h3:e<=row.length) (hR:R (sg row b) (sg row m)=true):HDr R row (arcs++[(b,m)]) (sts++[(b+1,m),(m+1,e)]):=by
 obtain⟨p1,-,p3⟩:=List.pairwise_append.mp h.ap;have hl:=h.len;have hap:∀s∈sts,s.2<=b∨e<=s.1:=fun s hs=>p3 s hs (b,e) (by simp);have hin:∀a∈arcs,(a.1<b∨e<=a.1)/\(a.2<b∨e<=a.2):=fun a ha=>h.out a ha (b,e) (by simp);refine⟨?_,fun a ha=>?_,List.pairwise_append.mpr ⟨h.pw,List.pairwise_singleton _ _,fun a ha c hc=>?_⟩,fun a ha s hs=>?_,List.pairwise_append.mpr ⟨p1,?_,fun s hs t ht=>?_⟩⟩
 ·rw[tM]at hl ⊢;have e1:stW [(b,e)]=e-b:=by simp[stW]
  have e2:stW [(b+1,m),(m+1,e)]=(m-(b+1))+(e-(m+1)):=by simp[stW]
  rw[List.length_append,List.length_singleton];lia
 ·rcases List.mem_append.mp ha with z|z
  ·exact h.arc a z
  ·obtain rfl:a=(b,m):=by simpa using z
   exact⟨h1,by show m<_;lia,hR⟩
 ·obtain rfl:c=(b,m):=by simpa using hc
  have:=hin a ha;have:=h.arc a ha;simp only[Ncr];lia
 ·have hs':s∈sts∨s=(b+1,m)∨s=(m+1,e):=by simpa using hs
  rcases List.mem_append.mp ha with z|z
  ·have:=hin a z;rcases hs' with y|rfl|rfl
   ·exact h.out a z s (List.mem_append_left _ y)
   ·simp only;lia
   ·simp only;lia
  ·obtain rfl:a=(b,m):=by simpa using z
   rcases hs' with y|rfl|rfl
   ·have:=hap s y;simp only;lia
   ·simp only;lia
   ·simp only;lia
 ·simp
 ·have:=hap s hs;have ht':t=(b+1,m)∨t=(m+1,e):=by simpa using ht
  rcases ht' with rfl|rfl
  ·simp only;lia
  ·simp only;lia
theorem HDr.done{R:Str×Int->Str×Int->Bool}{row:List (Str×Int)}{arcs:List (Nat×Nat)}(h:HDr R row arcs []):∃l,oy R row l/\g8 (.lst (arcs.map stD))=some (.lst (l.map stD)):=by
 obtain⟨L,e,hP,hs⟩:=oj arcs;have hq:L.Pairwise Ncr:=(hP.pairwise_iff Ncr.symm).mpr h.pw;refine⟨L,⟨by have:=h.len;rw[hP.length_eq];simpa[stW]using this,fun a ha=>h.arc a (hP.mem_iff.mp ha),(hq.and hs).imp fun {a b} ⟨n,l⟩=>?_⟩,e⟩;have lt:a.1<b.1:=by have:=n.1;lia
 exact⟨lt,n.2.2.1.symm,n.2.2.2.1.symm,fun h=>n.2.2.2.2.1 ⟨lt,h.1,h.2⟩⟩
def gf:SpD:=fun ds M Q=>∃(ord:List (Str×Str)) (row:List (Str×Int)),ds=[.tup (ord.map aA),.tup (row.map au)]/\ord.length<=500/\row.length<=24/\(W (cB ord) row=0->Q .non M)/\(0<W (cB ord) row->∀arcs:List (Nat×Nat),oy (cB ord) row arcs->Q (.tup (arcs.map stD)) M)
def stM(l:List (Nat×Nat)):Nat:=(l.map fun s=>2*(s.2-s.1)+1).sum
theorem zK{l:List (Nat×Nat)}:l.length<=stM l:=by
 induction l with
 |nil=>simp
 |cons x l ih =>
  have:stM (x::l)=2*(x.2-x.1)+1+stM l:=by simp[stM]
  rw[this,List.length_cons];lia
theorem DV{X:DH}{p q:Addr}{A A' B B':HD}(h:p≠q):av (av (av (av X p A) q B) p A') q B'=av (av X p A') q B':=by
 funext c;unfold av
 by_cases h1:c=q
 ·simp[h1]
 ·by_cases h2:c=p
  ·simp[h1,h2,h]
  ·simp[h1,h2]
theorem iJ{l l':List (Nat×Nat)}:stM (l++l')=stM l+stM l':=by simp[stM]
theorem jW(F:Fun K "drawing_of" "drawing_of" cD f fd) (T:Txt mg) (G5:FnD P w K mg base "mates_in" 5 2 fk) (G2:FnD P w K mg base "stretch_counts" 2 1 cv) (G4:FnD P w K mg base "whole_count" 1 2 di) (G8:FnD P w K mg base "splits" 1 4 hJ):bg P w K mg base CX0 6 f fd ["order","row"] (spD K 2 gf):=by
 have nd:=fN.nd;refine F.okR rfl fN (fun cdv A outer s H E hr=>⟨_,(ak (aI (i:=2) nd rfl (Or.inl rfl) (qd G5 hr (ae (af 0) (ae (af 1) ah))))
   (ak (aI (i:=3) nd rfl (Or.inl rfl) (qd G2 hr (ae (af 2) ah)))
   (bt (ak (bN (aN (jR hr.units) (qd G4 hr (ae (af 3) (ae (af 1) ah))) ao nbh) (aw (dX vD)) bp)
   (bt (ak (aI (i:=4) nd rfl (Or.inl rfl) (dn ah))
   (ak (aI (i:=5) nd rfl (Or.inl rfl) (dn (ae (aZ (ae ao (ae (aH bS rfl T.b_len (by kernel_rfl) (ae (af 1) ah)) ah))) ah)))
   (ak (sj PassesOwn.never (aN um (aH bS rfl T.b_len (by kernel_rfl) (ae (af 5) ah)) ao nbh) (ak (CQ (C8 (af 5)) (mL rfl (dh (bu (i:=6) nd rfl (Or.inl rfl)) (dh (bu (i:=7) nd rfl (Or.inl rfl)) nj))))
   (bt (aw (bN (aN rX (af 6) (af 7) nbh) (ak (aI (i:=8) nd rfl (Or.inl rfl) (aL aM (jT (ms:=[false,false,false,false,false,false,false,false,false]) (aj:=["at","count"]) (aK (n0:=0) rfl (show aQ (am cD) cy _ _=true from by decide +kernel)) rfl (bz (qd G8 hr (ae (af 2) (ae (af 3) (ae (af 6) (ae (af 7) ah)))))) (cO (n:=2) rfl (aO (aC (i:=9) (show(cy++_).Nodup from by decide +kernel) rfl rfl) (aO (aC (i:=10) (show(cy++_).Nodup from by decide +kernel) rfl rfl) cV))) (fun _ _ _ _=>(dm (aN um (af 10) ao nbh))) (fun _ _ _ _=>(af 9))) ao (fun _ _=>rfl)))
   (bt (ak (cH (fE (af 4) (aZ (ae (af 6) (ae (af 8) ah)))))
   (aw (cH (Aa (af 5) (gQ (ae (aZ (ae (aP aS (af 6) ao) (ae (af 8) ah))) (ae (aZ (ae (aP aS (af 8) ao) (ae (af 7) ah))) ah))))))))) bp)))))
   (n8 4 (aw (dX (cj cX rfl T.b_tuple (by kernel_rfl) (ae (aH (oA hr.units) rfl T.b_sorted (by kernel_rfl) (ae (af 4) ah)) ah))))))))))))),fun ds M R _ hS bk=>?_⟩)
 obtain⟨ord,row,rfl,ho,hl,k0,k1⟩:=hS;refine bk ?_;clear bk;walk_at "rd";refine⟨ord,row,rfl,ho,hl,cB ord,row,rfl,hl,fun pc kvs hpc hT _=>aG ?_⟩;walk_at "rd";refine⟨cB ord,row,pc,kvs,rfl,ai,hl,hT,?_⟩;walk_at "rd";refine eJ (fun h=>?_) (fun h=>?_)
 ·exact⟨_,ff hpc,k0 (by simpa using h)⟩
 ·have hW:0<W (cB ord) row:=by
   have:¬ (W (cB ord) row:Int)=0:=by simpa using h
   lia
  refine aG ?_;walk_at "rd";refine⟨sz3 0,fun p hp=>⟨sz3 2,sz3 1,fun q hq=>?_⟩⟩;have npc:p≠pc:=by rintro rfl;rw[ai]at hp;cases hp
  have npq:q≠p:=by rintro rfl;rw[ai]at hq;cases hq
  have nqc:q≠pc:=by rintro rfl;rw[aq (Ne.symm npc),ai]at hq;cases hq
  rw[List.length_map];refine⟨fun m Δ M'=>∃(arcs:List (Nat×Nat)) (sts:List (Nat×Nat)) (x6 x7 x8:Option D),Δ=[some (D.tup (ord.map aA)),some (D.tup (row.map au)),some (uT ((List.range row.length).map (mts (cB ord) row))),some (D.ref pc),some (D.ref p),some (D.ref q),x6,x7,x8]/\M'=av (av (av M pc (.dT kvs)) p (.lst (arcs.map stD))) q (.lst (sts.map stD))/\(∀s∈sts,s.1<=s.2/\s.2<=row.length/\0<W (cB ord) (seg row s.1 s.2))/\m=stM sts/\arcs.length+m<=49/\HDr (cB ord) row arcs sts,
   ⟨_,[],[(0,row.length)],none,none,none,rfl,rfl,fun s hs=>?_,rfl,?_,⟨by simp[stW],fun a ha=>by simp at ha,.nil,fun a ha=>by simp at ha,List.pairwise_singleton _ _⟩⟩,?_⟩
  ·obtain rfl:s=(0,row.length):=by simpa using hs
   exact⟨Nat.zero_le _,Nat.le_refl _,by rw[tG];exact hW⟩
  ·simp[stM];lia
  ·rintro m Δ M' ⟨arcs,sts,x6,x7,x8,rfl,rfl,hs,rfl,hm,hH⟩;walk_at "rd";rw[List.length_map];refine eJ (fun h1=>?_) (fun h1=>?_)
   ·obtain⟨st',⟨b,e⟩,rfl⟩:∃st' s,sts=st'++[s]:=by
     refine⟨sts.dropLast,sts.getLast (by rintro rfl;simp at h1),(List.dropLast_concat_getLast _).symm⟩
    refine⟨st'.map stD,stD (b,e),by rw[List.map_append];rfl,?_⟩;obtain⟨be,en,hWs⟩:=hs (b,e) (by simp);simp only at be en hWs;have hs':∀s∈st',s.1<=s.2/\s.2<=row.length/\0<W (cB ord) (seg row s.1 s.2):=fun s h=>hs s (List.mem_append_left _ h);rw[iJ]at hm;have e1:stM [(b,e)]=2*(e-b)+1:=by simp[stM]
    refine⟨_,rfl,aG ?_⟩;walk_at "rd";refine eJ (fun hbe=>?_) (fun hbe=>?_)
    ·have hbe':b<e:=by lia
     have hbn:b<((List.range row.length).map (mts (cB ord) row)).length:=by simp;lia
     have em:((List.range row.length).map (mts (cB ord) row))[b]=mts (cB ord) row b:=by simp
     have hev:(e-b) % 2=0:=by
      rcases Nat.mod_two_eq_zero_or_one (e-b)with z|z
      ·exact z
      ·rw[vV _ _ (Nat.le_refl _) (by rw[fw en];exact z)]at hWs;lia
     refine⟨_,pc,kvs,b,e,fun b e=>W (cB ord) (seg row b e),rfl,by rw[aq (Ne.symm nqc),aq (Ne.symm npc),ai],hbn,?_,?_,?_⟩
     ·intro m hm' hme;rw[em]at hm';obtain⟨m1,m2,m3⟩:=nV hm';refine⟨?_,?_,sy (by rw[fw (by lia)];lia),sy (by rw[fw (by lia)];lia)⟩
      ·have h:=hT (b+1) m;rw[Int.natCast_add]at h;refine h.trans ?_;unfold tab;rw[if_pos (by lia)]
      ·have h:=hT (m+1) e;rw[Int.natCast_add]at h;refine h.trans ?_;unfold tab;rw[if_pos (by lia)]
     ·rw[em];exact Nat.le_trans tu (by lia)
     ·rw[em];refine⟨_,rfl,fun hz=>⟨hz,?_⟩⟩;refine aT (fun(m:Nat)=>pD ((m:Int),(W (cB ord) (seg row (b+1) m)*W (cB ord) (seg row (m+1) e):Nat))) (fun m=>decide (0<W (cB ord) (seg row (b+1) m)*W (cB ord) (seg row (m+1) e))) (fun(m:Nat)=>D.int (m:Int)) (fun Δ=>∃x y,Δ=[none,none,none,none,none,none,none,none,none,x,y]) _ _ _ (fun m hm Δ hΔ=>?_) ⟨none,none,rfl⟩ ?_
      ·obtain⟨x,y,rfl⟩:=hΔ;refine⟨_,rfl,⟨_,_,rfl⟩,fun Q1 q=>?_,fun _ Q2 q=>?_⟩
       ·walk_at "rd";have ez:decide ((0:Int)<((W (cB ord) (seg row (b+1) m)*W (cB ord) (seg row (m+1) e):Nat):Int))=decide (0<W (cB ord) (seg row (b+1) m)*W (cB ord) (seg row (m+1) e)):=decide_eq_decide.mpr (by lia);rw[ez];exact q
       ·walk_at "rd";exact q
      ·rw[List.nil_append];have hF:∀m∈(((mts (cB ord) row b).filter fun m=>decide (m<e)).filter fun m=>decide (0<W (cB ord) (seg row (b+1) m)*W (cB ord) (seg row (m+1) e))),b+1<=m/\m<e/\0<W (cB ord) (seg row (b+1) m)/\0<W (cB ord) (seg row (m+1) e)/\cB ord (sg row b) (sg row m)=true:=fun m hm=>by
        obtain⟨g1,g2⟩:=List.mem_filter.mp hm;obtain⟨g3,g4⟩:=List.mem_filter.mp g1;have g5:=nV g3;have g2':0<W (cB ord) (seg row (b+1) m)*W (cB ord) (seg row (m+1) e):=by simpa using g2
        exact⟨g5.1,by simpa using g4,Nat.pos_of_mul_pos_right g2',Nat.pos_of_mul_pos_left g2',by unfold mts at g3;exact(List.mem_filter.mp g3).2⟩
       have hne:(((mts (cB ord) row b).filter fun m=>decide (m<e)).filter fun m=>decide (0<W (cB ord) (seg row (b+1) m)*W (cB ord) (seg row (m+1) e)))≠[]:=fun z=>by
        rw[<-tT hbe' en,iQ fun m hm=>?_]at hWs
        ·lia
        ·have:=List.filter_eq_nil_iff.mp z m hm;simpa using this
       cases hFe:(((mts (cB ord) row b).filter fun m=>decide (m<e)).filter fun m=>decide (0<W (cB ord) (seg row (b+1) m)*W (cB ord) (seg row (m+1) e)))with
       |nil=>exact absurd hFe hne
       |cons m0 br =>
        obtain⟨w1,w2,w3,w4,w5⟩:=hF m0 (by rw[hFe];exact List.mem_cons_self);rw[List.map_cons];refine⟨_,wF,aG ?_⟩;walk_at "rd";have a1:av (av (av M pc (.dT kvs)) p (.lst (arcs.map stD))) q (.lst (st'.map stD)) p=some (.lst (arcs.map stD)):=by rw[aq (Ne.symm npq),ai]
        have a2:∀A,av (av (av (av M pc (.dT kvs)) p (.lst (arcs.map stD))) q (.lst (st'.map stD))) p A q=some (.lst (st'.map stD)):=fun A=>by rw[aq npq,ai]
        have a3:=zK (l:=st');have e2:stM [(b+1,m0),(m0+1,e)]=2*(m0-(b+1))+1+(2*(e-(m0+1))+1):=by simp[stM]
        refine⟨_,a1,sz3 2,_,a1,?_,_,a2 _,sz3 2,sz3 2,sz3 2,_,a2 _,?_,stM (st'++[(b+1,m0),(m0+1,e)]),?_,arcs++[(b,m0)],st'++[(b+1,m0),(m0+1,e)],_,_,_,⟨rfl,rfl,rfl⟩,?_,?_,rfl,?_,hH.more w1 w2 en w5⟩
        ·rw[List.length_map];exact Nat.lt_of_lt_of_le (by lia:arcs.length<1000) (sz3 1000)
        ·rw[List.length_map];exact sz3 _ (by lia)
        ·rw[iJ,iJ];lia
        ·rw[DV (Ne.symm npq),List.map_append,List.map_append];rfl
        ·intro s hs2;rcases List.mem_append.mp hs2 with z|z
         ·exact hs' s z
         ·have:s=(b+1,m0)∨s=(m0+1,e):=by simpa using z
          rcases this with rfl|rfl
          ·exact⟨w1,by show m0<=_;lia,w3⟩
          ·exact⟨w2,en,w4⟩
        ·rw[iJ,List.length_append,List.length_cons,List.length_nil];lia
    ·obtain rfl:b=e:=by lia
     exact⟨stM st',by rw[iJ];lia,arcs,st',_,_,_,⟨rfl,rfl,rfl⟩,rfl,hs',rfl,by lia,hH.drop⟩
   ·have hMp:M p=none:=by rw[aq npc]at hp;exact hp
    have hMq:M q=none:=by rw[aq npq,aq nqc]at hq;exact hq
    obtain rfl:sts=[]:=by
     cases sts with
     |nil=>rfl
     |cons s l=>exact absurd (by simp) h1
    obtain⟨L,hL,eL⟩:=hH.done;refine⟨arcs.map stD,by rw[aq (Ne.symm npq),ai],_,eL,_,rfl,M,fun a u ha=>?_,k1 hW _ hL⟩;have n1:a≠p:=by rintro rfl;rw[hMp]at ha;cases ha
    have n2:a≠q:=by rintro rfl;rw[hMq]at ha;cases ha
    have n3:a≠pc:=by rintro rfl;rw[hpc]at ha;cases ha
    rw[ie n1,aq n2,aq n1,aq n3];exact ha
def wsh(row:List (Str×Int)):List (Str×Int):=row.reverse.map fun x=>(x.1,x.2+1)
def gg:SpD:=fun ds M Q=>∃row:List (Str×Int),ds=[.tup (row.map au)]/\row.length<=24/\Q (.tup ((wsh row).map au)) M
theorem jZ(F:Fun K "right_wish" "right_wish" cI f fd) (T:Txt mg) :bg P w K mg base CX0 1 f fd ["row"] (spD K 1 gg):=by
 have nd:=fM.nd;refine F.okR rfl fM (fun cdv A outer s H E hr=>⟨_,(aw (aU (cj cX rfl T.b_tuple (by kernel_rfl) (ae (jT (ms:=[false]) (aj:=["mark","turn"]) (aK (n0:=0) rfl (show aQ (am cI) cG _ _=true from by decide +kernel)) rfl (AO rfl T.b_reversed (ae (af 0) ah)) (cO (n:=2) rfl (aO (aC (i:=1) (show(cG++_).Nodup from by decide +kernel) rfl rfl) (aO (aC (i:=2) (show(cG++_).Nodup from by decide +kernel) rfl rfl) cV))) (fun _ _ _ _=>fC) (fun _ _ _ _=>(aZ (ae (af 1) (ae (aP aS (af 2) ao) ah))))) ah)))),fun ds M R _ hS bk=>?_⟩);obtain⟨row,rfl,hl,k⟩:=hS;refine bk ?_;clear bk;walk_at "rd";intro hz;refine⟨by rw[List.length_reverse];exact hz,?_⟩;rw[<-List.map_reverse];refine aT au (fun _=>true) (fun x=>au (x.1,x.2+1)) (fun Δ=>∃x y,Δ=[none,x,y]) _ _ _ (fun m hm Δ hΔ=>?_) ⟨none,none,rfl⟩ ?_
 ·obtain⟨x,y,rfl⟩:=hΔ;refine⟨_,rfl,⟨_,_,rfl⟩,fun Q1 q=>q,fun _ Q2 q=>?_⟩;walk_at "rd";exact⟨sz3 2,q⟩
 ·rw[List.nil_append,List.filter_eq_self.mpr (fun _ _=>rfl)];unfold wsh at k;rw[List.map_map]at k;exact k
abbrev Sg:=Str×Int
theorem oG{T:Type}{c:T->T->Bool}{g h:List T}(hg:Gp c g) (hh:Gp c h):Gp c (g++h):=by
 induction hg with
 |nil=>exact hh
 |step hc hx _ _ ih=>rw[List.cons_append,List.append_assoc,List.cons_append];exact .step hc hx ih
theorem xv{α:Type}{f:α->Nat}:∀{l:List α}{x:α},x∈l->f x<=(l.map f).sum
 |y::l,x,h=>by
  rw[List.map_cons,List.sum_cons];rcases List.mem_cons.mp h with rfl|h
  ·lia
  ·have:=xv (f:=f) h;lia
theorem vt{T:Type}{c:T->T->Bool}:∀(n:Nat) (xs:List T),xs.length<=n->(0<W c xs↔Gp c xs)
 |n,[],_=>by rw[sX];exact⟨fun _=>.nil,fun _=>by decide⟩
 |0,x::xs,h=>by simp at h
 |n+1,x::xs,h=>by
  rw[List.length_cons]at h;rw[nO];constructor
  ·intro hp;have:∃d∈fP xs,(if c x d.2.1 then W c d.1*W c d.2.2 else 0)≠0:=by
    by_cases z:∃d∈fP xs,(if c x d.2.1 then W c d.1*W c d.2.2 else 0)≠0
    ·exact z
    ·rw[iQ fun d hd=>by
      by_cases y:(if c x d.2.1 then W c d.1*W c d.2.2 else 0)=0
      ·exact y
      ·exact absurd ⟨d,hd,y⟩ z]at hp
     lia
   obtain⟨d,hd,hne⟩:=this;have hl:=gr hd
   split at hne
   ·rename_i hc;have h1:0<W c d.1:=Nat.pos_of_ne_zero fun z=>hne (by rw[z,Nat.zero_mul]);have h2:0<W c d.2.2:=Nat.pos_of_ne_zero fun z=>hne (by rw[z,Nat.mul_zero]);rw[<-zz hd];exact .step hc ((vt n _ (by lia)).mp h1) ((vt n _ (by lia)).mp h2)
   ·exact absurd rfl hne
  ·intro hg;cases hg with
   |step hc hx hy =>
    rename_i b as bs;have hm:(as,b,bs)∈fP (as++b::bs):=by
     rw[wm];refine List.mem_append_right _ ?_;rw[fP];simp
    rw[List.length_append,List.length_cons]at h;have h1:=(vt n as (by lia)).mpr hx;have h2:=(vt n bs (by lia)).mpr hy;refine Nat.lt_of_lt_of_le (Nat.mul_pos h1 h2) ?_;have:=xv (f:=fun d:List T×T×List T=>if c x d.2.1 then W c d.1*W c d.2.2 else 0) hm;simpa[hc]using this
theorem yt{ord:List (Str×Str)}{r t:List Sg}(h:Kp (cB ord) r t):Gp (cB ord) (r++wsh t):=by
 induction h with
 |nil hg=>rw[show wsh []=[]from rfl,List.append_nil];exact hg
 |@cons t g r ts hg _ ih =>
  have e:wsh (t::ts)=wsh ts++[(t.1,t.2+1)]:=by unfold wsh;simp
  rw[e,List.append_assoc,List.cons_append,<-List.append_assoc];refine oG hg ?_;refine .step (ys:=[]) ?_ ih .nil;simp[cB,oh]
def mf(x:Sg):Sg:=(x.1,-x.2)
def mir(row:List Sg):List Sg:=row.reverse.map mf
theorem tm(r:List Sg):mir (mir r)=r:=by
 unfold mir;rw[<-List.map_reverse,List.reverse_reverse,List.map_map];refine(List.map_congr_left fun x _=>?_).trans (List.map_id _);simp[mf]
theorem sZ{r:List Sg}:(mir r).length=r.length:=by unfold mir;simp
theorem oD{a b:List Sg}:mir (a++b)=mir b++mir a:=by unfold mir;simp
theorem Bo{ord:List (Str×Str)}{a b:Sg}:cB ord (mf b) (mf a)=cB ord a b:=by
 unfold cB mf;simp only
 by_cases h:a.2+1=b.2
 ·have h1:(-b.2+1==-a.2)=true:=by simp;lia
  have h2:(a.2+1==b.2)=true:=by simp;lia
  rw[h1,h2,iO (t:=a.2) (u:=-b.2) (by lia)]
 ·have h1:(-b.2+1==-a.2)=false:=by simp;lia
  have h2:(a.2+1==b.2)=false:=by simp;lia
  rw[h1,h2];rfl
theorem om{ord:List (Str×Str)}{r:List Sg}(h:Gp (cB ord) r):Gp (cB ord) (mir r):=by
 induction h with
 |nil=>exact .nil
 |@step a b xs ys hc _ _ ihx ihy =>
  have e:mir (a::(xs++b::ys))=mir ys++mf b::(mir xs++mf a::[]):=by unfold mir;simp
  rw[e];exact oG ihy (.step (Bo.trans hc) ihx .nil)
theorem BP{T:Type}{c:T->T->Bool}{r:List T}:Kp c r []↔Gp c r:=⟨fun h=>by cases h;assumption,.nil⟩
def up2(r:List Sg):List Sg:=r.map fun x=>(x.1,x.2+2)
section
variable{ord:List (Str×Str)}
theorem DU{x b:Sg}(h:cB ord x b=true):cB ord b (x.1,x.2+2)=true:=by
 unfold cB at h ⊢;rw[Bool.and_eq_true,beq_iff_eq]at h;obtain⟨h1,h2⟩:=h;simp only;rw[Bool.and_eq_true,beq_iff_eq];exact⟨by lia,by rw[iO (u:=x.2) (by lia)];exact h2⟩
theorem E3{x:Sg}{r:List Sg}(h:Gp (cB ord) (x::r)):Gp (cB ord) (r++[(x.1,x.2+2)]):=by
 cases h with
 |@step _ b xs ys hc hx hy =>
  rw[List.append_assoc,List.cons_append];exact oG hx (.step (ys:=[]) (DU hc) hy .nil)
theorem Cy:∀{X Y:List Sg},Gp (cB ord) (X++Y)->Gp (cB ord) (Y++up2 X)
 |[],Y,h=>by simpa[up2]using h
 |x::X,Y,h=>by
  have h1:=E3 (show Gp (cB ord) (x::(X++Y))from h);rw[List.append_assoc]at h1;have h2:=Cy h1;rw[List.append_assoc]at h2;exact h2
theorem yh{X:List Sg}:up2 (mir (up2 X))=mir X:=by
 unfold up2 mir;rw[<-List.map_reverse,List.map_map,List.map_map];refine List.map_congr_left fun x _=>?_;simp only[Function.comp,mf];congr 1;lia
theorem rot{X Y:List Sg}:Gp (cB ord) (X++Y)↔Gp (cB ord) (Y++up2 X):=by
 refine⟨Cy,fun h=>?_⟩;have h1:=om h;rw[oD]at h1;have h2:=Cy h1;rw[yh,<-oD]at h2;have h3:=om h2
 rwa [tm]at h3
theorem z9{A I B:List Sg}(h:Gp (cB ord) (A++B)) (hI:Gp (cB ord) I):Gp (cB ord) (A++I++B):=by
 obtain⟨n,hn⟩:=hI.rt;obtain⟨m,hm⟩:=h.rt;have h1:=Rt.ctx A B hn;rw[List.append_nil]at h1;exact BP.mp (Cb.mp ⟨_,h1.trans hm⟩)
def wB(b:Int) (r:List Sg):List Sg:=r.reverse.map fun x=>(x.1,x.2+b)
theorem n6{a b:List Sg}:wsh (a++b)=wsh b++wsh a:=by unfold wsh;simp
theorem jf{b:Int}{r:List Sg}:(wB b r).length=r.length:=by unfold wB;simp
theorem su{r:List Sg}:wsh (wB 1 r)=up2 r:=by
 unfold wsh wB up2;rw[<-List.map_reverse,List.reverse_reverse,List.map_map];refine List.map_congr_left fun x _=>?_;simp only[Function.comp];congr 1;lia
theorem yX{r:List Sg}:wsh (wB (-1) r)=r:=by
 unfold wsh wB;rw[<-List.map_reverse,List.reverse_reverse,List.map_map];refine(List.map_congr_left fun x _=>?_).trans (List.map_id _);simp only[Function.comp,id];have:x.2+-1+1=x.2:=by lia
 rw[this]
theorem tL{r:List Sg}:up2 (wB (-1) r)=wsh r:=by
 unfold wsh wB up2;rw[List.map_map];refine List.map_congr_left fun x _=>?_;simp only[Function.comp];congr 1;lia
theorem Bt{r:List Sg}:up2 (mir (wsh r))=wsh (mir r):=by
 unfold wsh mir up2;rw[<-List.map_reverse,<-List.map_reverse,List.map_map,List.map_map,List.map_map];refine List.map_congr_left fun x _=>?_;simp only[Function.comp,mf];congr 1;lia
theorem rE{r:List Sg}:Gp (cB ord) (r++wsh r):=yt (Kp.self r)
theorem ym{a b:List Sg}:Gp (cB ord) (wB 1 b++wsh (wB 1 a))↔Gp (cB ord) (a++wsh b):=by
 rw[su];exact rot.symm
theorem yv{a b:List Sg}:Gp (cB ord) (wB (-1) b++wsh (wB (-1) a))↔Gp (cB ord) (a++wsh b):=by
 rw[yX,rot,tL]
theorem CY{a b:List Sg}:Gp (cB ord) (mir a++wsh (mir b))↔Gp (cB ord) (a++wsh b):=by
 rw[<-Bt,<-rot,<-oD];exact⟨fun h=>by have:=om h;rwa [tm]at this,om⟩
theorem BB{a b:List Sg}:Gp (cB ord) ((wB (-1) b++a)++wsh [])↔Gp (cB ord) (a++wsh b):=by
 rw[show wsh []=[]from rfl,List.append_nil,rot,tL]
theorem yY{a b:List Sg}:Gp (cB ord) ([]++wsh (wB 1 a++b))↔Gp (cB ord) (a++wsh b):=by
 rw[List.nil_append,n6,su];exact rot.symm
theorem CA{a b x y:List Sg}(h:Gp (cB ord) (a++wsh b)):Gp (cB ord) ((x++a++y)++wsh (x++b++y)):=by
 have h1:=z9 (rE (ord:=ord) (r:=x)) (z9 h (rE (r:=y)));rw[n6,n6];simpa[List.append_assoc]using h1
theorem ES{a q b:Sg}(h1:a.2=q.2) (h2:lB ord a.2 a.1 q.1=true) (h:cB ord q b=true):cB ord a b=true:=by
 unfold cB at h ⊢;rw[Bool.and_eq_true,beq_iff_eq]at h ⊢;exact⟨by lia,oY h2 (h1▸h.2)⟩
theorem DR{a q x:Sg}(h1:a.2=q.2) (h2:lB ord a.2 a.1 q.1=true) (h:cB ord x q=true):cB ord x a=true:=by
 unfold cB at h ⊢;rw[Bool.and_eq_true,beq_iff_eq]at h ⊢;refine⟨by lia,?_⟩;rw[iO (u:=a.2) (by lia)];have h3:=h.2;rw[iO (u:=a.2) (by lia)]at h3;exact oY h2 h3
theorem repl{a q:Sg}(h1:a.2=q.2) (h2:lB ord a.2 a.1 q.1=true):∀{g:List Sg},Gp (cB ord) g->∀X Z,g=X++q::Z->Gp (cB ord) (X++a::Z):=by
 intro g hg
 induction hg with
 |nil=>intro X Z e;cases X<;>cases e
 |@step a0 b0 xs ys hc hx hy ihx ihy =>
  intro X Z e;cases X with
  |nil =>
   rw[List.nil_append,List.cons.injEq]at e;obtain⟨e1,rfl⟩:=e;subst e1;exact .step (ES h1 h2 hc) hx hy
  |cons x X' =>
   rw[List.cons_append,List.cons.injEq]at e;obtain⟨rfl,e⟩:=e;rcases gD e with⟨z,ez1,ez2⟩|⟨z,ez1,ez2⟩
   ·cases z with
    |nil =>
     rw[List.nil_append,List.cons.injEq]at ez2;obtain⟨e3,rfl⟩:=ez2;subst e3;rw[List.append_nil]at ez1;subst ez1;exact .step (DR h1 h2 hc) hx hy
    |cons w z' =>
     rw[List.cons_append,List.cons.injEq]at ez2;obtain⟨e3,rfl⟩:=ez2;subst e3;have:=ihx X' z' ez1;rw[List.cons_append,show X'++a::(z'++b0::ys)=(X'++a::z')++b0::ys by simp];exact .step hc this hy
   ·cases z with
    |nil =>
     rw[List.nil_append,List.cons.injEq]at ez2;obtain⟨e3,rfl⟩:=ez2;subst e3;rw[List.append_nil]at ez1;subst ez1;exact .step (DR h1 h2 hc) hx hy
    |cons w z' =>
     rw[List.cons_append,List.cons.injEq]at ez2;obtain⟨e3,e4⟩:=ez2;subst e3;have:=ihy z' Z e4;subst ez1;rw[List.cons_append,show(xs++b0::z')++a::Z=xs++b0::(z'++a::Z)by simp];exact .step hc hx this
theorem vz{g:List Sg}(h:Gp (cB ord) g):g=[]∨∃xs a b ys,g=xs++a::b::ys/\cB ord a b=true/\Gp (cB ord) (xs++ys):=by
 induction h with
 |nil=>exact .inl rfl
 |@step a b xs ys hc hx hy ihx _ =>
  right;rcases ihx with rfl|⟨u,a1,b1,v,rfl,hc1,hg⟩
  ·exact⟨[],a,b,ys,rfl,hc,hy⟩
  ·refine⟨a::u,a1,b1,v++b::ys,by simp,hc1,?_⟩;rw[show a::u++(v++b::ys)=a::((u++v)++b::ys)by simp];exact .step hc hg hy
theorem BR:∀(n:Nat) {X Z:List Sg}{p q:Sg},(X++p::q::Z).length<=n->p.1=q.1->p.2=q.2+1->Gp (cB ord) (X++p::q::Z)->Gp (cB ord) (X++Z)
 |0,X,Z,p,q,hn,_,_,_=>by simp at hn
 |n+1,X,Z,p,q,hn,e1,e2,h=>by
  have no:¬ cB ord p q=true:=fun z=>by
   unfold cB at z;rw[Bool.and_eq_true,beq_iff_eq]at z
   lia
  rcases vz h with z|⟨xs,a,b,ys,e,hc,hg⟩
  ·simp at z
  ·rcases gD e with⟨z,ez1,ez2⟩|⟨z,ez1,ez2⟩
   ·match z,ez1,ez2 with
    |[],ez1,ez2 =>
     simp only[List.nil_append,List.cons.injEq]at ez2;obtain⟨rfl,rfl,_⟩:=ez2;exact absurd hc no
    |[w],ez1,ez2 =>
     simp only[List.cons_append,List.nil_append,List.cons.injEq]at ez2;obtain⟨rfl,rfl,rfl⟩:=ez2;subst ez1;have hl:a.2=q.2/\lB ord a.2 a.1 q.1=true:=by
      unfold cB at hc;rw[Bool.and_eq_true,beq_iff_eq]at hc;exact⟨by lia,e1▸hc.2⟩
     rw[List.append_assoc];exact repl hl.1 hl.2 hg xs Z rfl
    |w1::w2::z',ez1,ez2 =>
     simp only[List.cons_append,List.cons.injEq]at ez2;obtain⟨rfl,rfl,rfl⟩:=ez2;subst ez1;rw[<-List.append_assoc]at hg;have:=BR n (by simp at hn ⊢;lia) e1 e2 hg;rw[List.append_assoc]at this;have h2:=Gp.ins hc this xs (z'++Z) rfl;simpa using h2
   ·match z,ez1,ez2 with
    |[],ez1,ez2 =>
     simp only[List.nil_append,List.cons.injEq]at ez2;obtain⟨rfl,rfl,_⟩:=ez2;exact absurd hc no
    |[w],ez1,ez2 =>
     simp only[List.cons_append,List.nil_append,List.cons.injEq]at ez2;obtain⟨rfl,rfl,rfl⟩:=ez2;subst ez1;have hl:b.2=p.2/\lB ord b.2 b.1 p.1=true:=by
      unfold cB at hc;rw[Bool.and_eq_true,beq_iff_eq]at hc;refine⟨by lia,?_⟩;rw[iO (u:=q.2) (by lia),e1];exact hc.2
     rw[List.append_assoc]at hg;exact repl hl.1 hl.2 hg X ys rfl
    |w1::w2::z',ez1,ez2 =>
     simp only[List.cons_append,List.cons.injEq]at ez2;obtain⟨rfl,rfl,rfl⟩:=ez2;subst ez1;have hg':Gp (cB ord) (X++p::q::(z'++ys)):=by simpa using hg
     have:=BR n (by simp at hn ⊢;lia) e1 e2 hg';rw[<-List.append_assoc]at this;have h2:=Gp.ins hc this (X++z') ys rfl;simpa using h2
theorem CP:∀(b:List Sg) {A Z:List Sg},Gp (cB ord) (A++wsh b++b++Z)->Gp (cB ord) (A++Z)
 |[],A,Z,h=>by simpa[wsh]using h
 |s::b,A,Z,h=>by
  have e:wsh (s::b)=wsh b++[(s.1,s.2+1)]:=by unfold wsh;simp
  have h1:Gp (cB ord) ((A++wsh b)++(s.1,s.2+1)::s::(b++Z)):=by rw[e]at h;simpa using h
  have h2:=BR _ (X:=A++wsh b) (p:=(s.1,s.2+1)) (q:=s) (Z:=b++Z) (Nat.le_refl _) rfl rfl h1;exact CP b (by simpa using h2)
theorem zu{a b c:List Sg}(h1:Gp (cB ord) (a++wsh b)) (h2:Gp (cB ord) (b++wsh c)):Gp (cB ord) (a++wsh c):=by
 have:=oG h1 h2;exact CP b (by simpa using this)
end
abbrev aY:Pos:=⟨70,39,70,57⟩
abbrev lq:Str:="cancels_by.<locals>."++"<lambda>"
theorem jt{T p:Addr}{pos:Pos}{q:Str}{M:DH}{o:HD}(h:cL T pos q M) (hp:M p=none):cL T pos q (av M p o):=by
 rcases h with h|⟨c,h1,h2⟩
 ·exact .inl (by rw[aq (fun z=>by rw[z,hp]at h;cases h)];exact h)
 ·exact .inr ⟨c,by rw[aq (fun z=>by rw[z,hp]at h1;cases h1)];exact h1,by rw[aq (fun z=>by rw[z,hp]at h2;cases h2)];exact h2⟩
theorem yR{T:Addr}{pos:Pos}{q:Str}{M M1 M2:DH}(h:jQ T pos q M1 M2) (hT:cL T pos q M) (hle:LeM M M1):∃M3,jQ T pos q M M3/\LeM M3 M2/\∀a,M1 a≠none->M a=none->M3 a=none:=by
 rcases h with rfl|⟨c,h1,h2,rfl⟩
 ·exact⟨M,.inl rfl,hle,fun _ _ h=>h⟩
 ·have hc:M c=none:=hle.none h1;have hTT:M T=some (jK T pos none):=by
   rcases hT with h|⟨d,h,_⟩
   ·exact h
   ·have:=hle T _ h;exact h.trans (this.symm.trans h2)
  refine⟨_,.inr ⟨c,hc,hTT,rfl⟩,fun a o e=>?_,fun a n1 n2=>?_⟩
  case refine_2 =>
   have a1:a≠c:=fun z=>n1 (z▸h1);have a2:a≠T:=fun z=>by rw[z,hTT]at n2;cases n2
   rw[aq a1,aq a2];exact n2
  unfold av at e ⊢
  split
  ·rename_i z;rw[if_pos z]at e;exact e
  ·rename_i z;rw[if_neg z]at e
   split
   ·rename_i z2;rw[if_pos z2]at e;exact e
   ·rename_i z2;rw[if_neg z2]at e;exact hle a o e
theorem uy{many b e:Nat}(hbe:b<e) (he:e<many) {p:Nat->Bool}(pb:p b=true) (pe:p e=true) (mid:∀x,b<x->x<e->p x=false) :
  ∃A B,(List.range many).filter p=A++b::e::B/\((List.range many).filter fun x=>p x&&(x != b&&x != e))=A++B/\b∉A:=by
 have er:List.range many=List.range' 0 b++b::(List.range' (b+1) (e-b-1)++e::List.range' (e+1) (many-e-1)):=by
  rw[List.range_eq_range',show many=b+((e-b-1)+(many-e-1+1)+1)by lia,<-List.range'_append_1,Nat.zero_add,List.range'_succ,<-List.range'_append_1,show b+1+(e-b-1)=e by lia,List.range'_succ];rw[show b+(e-b-1+(many-e-1+1)+1)-e-1=many-e-1 by lia]
 have f1:(List.range' (b+1) (e-b-1)).filter p=[]:=List.filter_eq_nil_iff.mpr fun x hx=>by
  rw[List.mem_range'_1]at hx;simp[mid x (by lia) (by lia)]
 have f2:((List.range' (b+1) (e-b-1)).filter fun x=>p x&&(x != b&&x != e))=[]:=List.filter_eq_nil_iff.mpr fun x hx=>by
  rw[List.mem_range'_1]at hx;simp[mid x (by lia) (by lia)]
 have g1:((List.range' 0 b).filter fun x=>p x&&(x != b&&x != e))=(List.range' 0 b).filter p:=List.filter_congr fun x hx=>by
  rw[List.mem_range'_1]at hx;have h1:(x != b)=true:=by simp;lia
  have h2:(x != e)=true:=by simp;lia
  rw[h1,h2];simp
 have g2:((List.range' (e+1) (many-e-1)).filter fun x=>p x&&(x != b&&x != e))=(List.range' (e+1) (many-e-1)).filter p:=List.filter_congr fun x hx=>by
  rw[List.mem_range'_1]at hx;have h1:(x != b)=true:=by simp;lia
  have h2:(x != e)=true:=by simp;lia
  rw[h1,h2];simp
 refine⟨(List.range' 0 b).filter p,(List.range' (e+1) (many-e-1)).filter p,?_,?_,fun h=>?_⟩
 ·rw[er,List.filter_append,List.filter_cons_of_pos pb,List.filter_append,f1,List.nil_append,List.filter_cons_of_pos pe]
 ·rw[er,List.filter_append,g1,List.filter_cons_of_neg (by simp),List.filter_append,f2,List.nil_append,List.filter_cons_of_neg (by simp),g2]
 ·have:=(List.mem_filter.mp h).1;rw[List.mem_range'_1]at this
  lia
theorem oy.all{R:Str×Int->Str×Int->Bool}{row:List (Str×Int)}{arcs:List (Nat×Nat)}(h:oy R row arcs) {x:Nat}(hx:x<row.length):∃a∈arcs,x=a.1∨x=a.2:=by
 have nd:∀{l:List (Nat×Nat)},(∀a∈l,a.1<a.2)->(l.Pairwise fun a b=>a.1<b.1/\b.1≠a.2/\b.2≠a.2)->(l.flatMap fun a=>[a.1,a.2]).Nodup:=by
  intro l
  induction l with
  |nil=>intro _ _;exact List.nodup_nil
  |cons a l ih =>
   intro h1 h2;rw[List.pairwise_cons]at h2;rw[List.flatMap_cons,List.nodup_append];have ha:=h1 a (.head _);refine⟨by simp;lia,ih (fun b hb=>h1 b (.tail _ hb)) h2.2,fun u hu v hv=>?_⟩;obtain⟨b,hb,hv⟩:=List.mem_flatMap.mp hv;have hab:=h2.1 b hb;have hb2:=h1 b (.tail _ hb);simp only[List.mem_cons,List.not_mem_nil,or_false]at hu hv;rcases hu with rfl|rfl<;>rcases hv with rfl|rfl<;>lia
 have hl:∀l:List (Nat×Nat),(l.flatMap fun a=>[a.1,a.2]).length=2*l.length:=by
  intro l
  induction l with
  |nil=>rfl
  |cons a l ih=>rw[List.flatMap_cons,List.length_append,ih];simp;lia
 have hN:=nd (fun a ha=>(h.arc a ha).1) (h.pw.imp fun z=>⟨z.1,z.2.1,z.2.2.1⟩)
 by_cases c:x∈arcs.flatMap fun a=>[a.1,a.2]
 ·obtain⟨a,ha,hv⟩:=List.mem_flatMap.mp c;simp only[List.mem_cons,List.not_mem_nil,or_false]at hv;exact⟨a,ha,hv⟩
 ·exfalso;have:=eX (x::arcs.flatMap fun a=>[a.1,a.2]) (List.range row.length) (List.nodup_cons.mpr ⟨c,hN⟩) fun y hy=>by
   rw[List.mem_range];rcases List.mem_cons.mp hy with rfl|hy
   ·exact hx
   ·obtain⟨a,ha,hv⟩:=List.mem_flatMap.mp hy;have:=h.arc a ha;simp only[List.mem_cons,List.not_mem_nil,or_false]at hv;rcases hv with rfl|rfl<;>lia
  rw[List.length_cons,hl,List.length_range,h.len]at this
  lia
theorem oy.apart{R:Str×Int->Str×Int->Bool}{row:List (Str×Int)}{arcs:List (Nat×Nat)}(h:oy R row arcs) {a b:Nat×Nat}(ha:a∈arcs) (hb:b∈arcs) (hne:a≠b) :
  a.1≠b.1/\a.1≠b.2/\a.2≠b.1/\a.2≠b.2/\¬ (a.1<b.1/\b.1<a.2/\a.2<b.2)/\¬ (b.1<a.1/\a.1<b.2/\b.2<a.2):=by
 have key:∀{l:List (Nat×Nat)},(l.Pairwise fun a b=>a.1<b.1/\b.1≠a.2/\b.2≠a.2/\¬ (b.1<a.2/\a.2<b.2))->a∈l->b∈l->(a.1<b.1/\b.1≠a.2/\b.2≠a.2/\¬ (b.1<a.2/\a.2<b.2))∨(b.1<a.1/\a.1≠b.2/\a.2≠b.2/\¬ (a.1<b.2/\b.2<a.2)):=by
  intro l
  induction l with
  |nil=>intro _ z;cases z
  |cons c l ih =>
   intro hp h1 h2;rw[List.pairwise_cons]at hp;rcases List.mem_cons.mp h1 with e1|k1
   ·rcases List.mem_cons.mp h2 with e2|k2
    ·exact absurd (e1.trans e2.symm) hne
    ·exact .inl (e1▸hp.1 b k2)
   ·rcases List.mem_cons.mp h2 with e2|k2
    ·exact .inr (e2▸hp.1 a k1)
    ·exact ih hp.2 k1 k2
 have a1:=(h.arc a ha).1;have b1:=(h.arc b hb).1;rcases key h.pw ha hb with z|z<;>lia
theorem leU{M M':DH}{p:Addr}{o:HD}(h:LeM M M') (hp:M p=none):LeM M (av M' p o):=fun a u e=>by
 unfold av
 split
 ·rename_i z;rw[z,hp]at e;cases e
 ·exact h a u e
def iV(T:Addr) (M M':DH):Prop:=cL T aY lq M'/\∀a o,M a=some o->a≠T->M' a=some o
theorem iV.tr{T:Addr}{M M1 M2:DH}(h1:iV T M M1) (h2:iV T M1 M2):iV T M M2:=⟨h2.1,fun a o e n=>h2.2 a o (h1.2 a o e n) n⟩
theorem Ew{T:Addr}{M M1:DH}(hT:cL T aY lq M) (h:jQ T aY lq M M1):iV T M M1:=⟨h.tab hT,fun a o e n=>h.keep n e⟩
theorem sQ{l:List (Nat×Nat)}:l.map stD=(l.map stI).map j4:=by rw[List.map_map];rfl
def qQ(many:Nat) (l:List (Nat×Nat)) (x:Nat):Bool:=!(l.any fun a=>decide (a.2<many)&&(a.1==x || a.2==x))
def lft(many:Nat) (l:List (Nat×Nat)):List Nat:=(List.range many).filter (qQ many l)
theorem yj{many:Nat}:lft many []=List.range many:=List.filter_eq_self.mpr fun _ _=>rfl
theorem Co{many:Nat}{l:List (Nat×Nat)}{a:Nat×Nat}(h:¬ a.2<many):lft many (l++[a])=lft many l:=by
 unfold lft;refine List.filter_congr fun x _=>?_;unfold qQ;rw[List.any_append];simp[h]
theorem wY{R:Str×Int->Str×Int->Bool}{row:List (Str×Int)}{arcs L:List (Nat×Nat)}{many:Nat}(h:oy R row arcs) (hm:many<=row.length) (hp:L.Perm arcs) (hs:L.Pairwise fun x y=>x.2<=y.2) {i:Nat}{a:Nat×Nat}(hi:L[i]?=some a) (ha:a.2<many) :
  ∃A B,lft many (L.take i)=A++a.1::a.2::B/\lft many (L.take (i+1))=A++B/\a.1∉A:=by
 have haL:a∈arcs:=hp.mem_iff.mp (List.mem_of_getElem? hi);have h1:=h.arc a haL;have nd:arcs.Nodup:=by
  rw[List.nodup_iff_pairwise_ne];exact h.pw.imp fun z e=>by rw[e]at z;lia
 have ndL:L.Nodup:=hp.nodup_iff.mpr nd;have hil:i<L.length:=(List.getElem?_eq_some_iff.mp hi).1;have hia:L[i]=a:=by
  have:=List.getElem?_eq_getElem hil;rw[hi]at this;exact(Option.some.inj this).symm
 have nin:a∉L.take i:=fun z=>by
  obtain⟨j,hj,e⟩:=List.mem_take_iff_getElem.mp z;have hj2:j<i:=by lia
  have:=(List.getElem_inj (h₀:=by lia) (h₁:=hil) ndL).mp (e.trans hia.symm)
  lia
 have oth:∀b∈L.take i,b∈arcs/\a≠b:=fun b hb=>⟨hp.mem_iff.mp (List.mem_of_mem_take hb),fun z=>nin (z▸hb)⟩;have free:∀x,(x=a.1∨x=a.2)->qQ many (L.take i) x=true:=fun x hx=>by
  unfold qQ;rw[Bool.not_eq_true',List.any_eq_false];intro b hb;obtain⟨b1,b2⟩:=oth b hb;have:=h.apart haL b1 b2;simp;intro _;rcases hx with rfl|rfl<;>lia
 obtain⟨A,B,e1,e2,e3⟩:=uy (many:=many) (p:=qQ many (L.take i)) h1.1 ha (free _ (.inl rfl)) (free _ (.inr rfl)) fun x x1 x2=>by
  obtain⟨b,hb,hx⟩:=h.all (x:=x) (by lia);have hbn:a≠b:=fun z=>by rw[<-z]at hx;lia
  have hap:=h.apart haL hb hbn;have b1:=h.arc b hb;have hb2:b.2<a.2:=by rcases hx with rfl|rfl<;>lia
  obtain⟨j,hj,ej⟩:=List.getElem_of_mem (hp.mem_iff.mpr hb);have hji:j<i:=by
   rcases Nat.lt_or_ge j i with z|z
   ·exact z
   ·exfalso;rcases Nat.lt_or_ge i j with y|y
    ·have:=List.pairwise_iff_getElem.mp hs i j hil hj y;rw[hia,ej]at this;lia
    ·have:i=j:=by lia
     subst this;exact hbn (hia.symm.trans ej)
  unfold qQ;rw[Bool.not_eq_false',List.any_eq_true];refine⟨b,List.mem_take_iff_getElem.mpr ⟨j,by lia,ej⟩,?_⟩;simp;exact⟨by lia,by rcases hx with rfl|rfl<;>simp⟩
 refine⟨A,B,e1,?_,e3⟩;rw[<-e2];unfold lft;refine List.filter_congr fun x _=>?_;unfold qQ;rw[List.take_add_one,hi,List.any_append];rw[Bool.eq_iff_iff];simp[ha];intro _;constructor
 ·rintro⟨v,w⟩;exact⟨fun z=>v z.symm,fun z=>w z.symm⟩
 ·rintro⟨v,w⟩;exact⟨fun z=>v z.symm,fun z=>w z.symm⟩
theorem AX{A B:List Nat}{b:Nat}(h:b∉A) (hl:(A++b::B).length<=1000):rF ((A++b::B).map fun(k:Nat)=>D.int (k:Int)) (.int (b:Int))=some A.length:=by
 unfold rF;rw[if_pos ⟨rfl,by rw[iE];intro d hd;obtain⟨x,_,rfl⟩:=List.mem_map.mp hd;rfl,by rw[List.length_map];lia⟩];rw[List.map_append,List.map_cons,List.findIdx?_append];have n1:List.findIdx? (fun d=>eqD d (D.int (b:Int))) (A.map fun(k:Nat)=>D.int (k:Int))=none:=by
  rw[List.findIdx?_eq_none_iff];intro d hd;obtain⟨x,hx,rfl⟩:=List.mem_map.mp hd;have:x≠b:=fun z=>h (z▸hx);simp[eqD];lia
 rw[n1];simp[List.findIdx?_cons,eqD]
def gq(Tb:Addr):SpD:=fun ds M R=>∃(arcs:List (Nat×Nat)) (many:Nat) (row:List (Str×Int)) (c:Str×Int->Str×Int->Bool),ds=[.tup (arcs.map stD),.int many]/\oy c row arcs/\many<=row.length/\row.length<=24/\cL Tb aY lq M/\∀l M',jQ Tb aY lq M M'->l.length<=100->R (.lst l) M'
theorem jM(F:Fun K "cancels_by" "cancels_by" dH f fd) (T:Txt mg) {cc Tb:Addr} (hC:PySem.W.CodeHd base cc Tb) (hB:base.BuiltinsAt mg Tb) (hcode:fd.code=.ref cc) :bg P w K mg base CX0 1 f fd ["arcs","many"] (spD K 2 (gq Tb)):=by
 have nd:=fL.nd;refine F.okRC hcode rfl fL (fun A outer s H E hr=>⟨_,(ak (aI (i:=2) nd rfl (Or.inl rfl) (ot rfl rfl T.b_list rfl T.b_range (ae (af 1) ah)))
   (ak (aI (i:=3) nd rfl (Or.inl rfl) (dn ah))
   (ak (dP PassesOwn.never rfl (bz (yZ (c:=cc) (T:=Tb) hr.units hr.depth rfl T.b_sorted (ae (af 0) ah) hC hB rfl rfl rfl rfl (fun _ _ _ _=>rfl) rfl (by decide) rfl rfl rfl (by decide))) (mL rfl (dh (bu (i:=4) nd rfl (Or.inl rfl)) (dh (bu (i:=5) nd rfl (Or.inl rfl)) nj))) (aw (bN (aN rX (af 5) (af 1) nbh) (ak (aI (i:=6) nd rfl (Or.inl rfl) (Bv hr.units (af 2) (af 4)))
   (ak (cH (fE (af 3) (aZ (ae aW (ae (af 6) ah)))))
   (aw (Cc (af 2) (bV (af 6)) (bV (aP aS (af 6) ao)))))) bp)))
   (n8 3 (aw (dX (af 3))))))),fun ds M R _ hS bk=>?_⟩)
 obtain⟨arcs,many,row,c,rfl,hD,hmr,h24,hT,k⟩:=hS;refine bk ?_;clear bk;have hal:arcs.length<=12:=by have:=hD.len;lia
 walk_at "rd";refine⟨by lia,by lia,fun l hl=>⟨sz3 0,fun p hp=>⟨arcs.map stI,sQ,by rw[List.length_map];lia,jt (jt hT hl) hp,fun arcs' M2 hP hs hS hz=>?_⟩⟩⟩;have hlp:l≠p:=fun z=>by rw[z,ai]at hp;cases hp
 have hpM:M p=none:=by rw[aq (Ne.symm hlp)]at hp;exact hp
 obtain⟨L,pL,rfl⟩:=lX hP arcs rfl;have hs':L.Pairwise fun x y=>x.2<=y.2:=by
  rw[List.pairwise_map]at hs;exact hs.imp fun z=>Int.ofNat_le.mp z
 have hTl:Tb≠l:=fun z=>by
  rcases hT with h|⟨_,h,_⟩<;>rw[z,hl]at h<;>cases h
 have hTp:Tb≠p:=fun z=>by
  rcases hT with h|⟨_,h,_⟩<;>rw[z,hpM]at h<;>cases h
 have m1:M2 l=some (.lst ((lft many (L.take 0)).map fun(k:Nat)=>D.int (k:Int))):=by
  refine hS.keep (Ne.symm hTl) ?_;rw[aq hlp,ai,List.take_zero,yj,Int.toNat_natCast];congr 2;unfold i5;exact List.map_congr_left fun x _=>by rw[Int.zero_add]
 have m2:M2 p=some (.lst []):=hS.keep (Ne.symm hTp) ai;obtain⟨M3,hS3,hle3,hn3⟩:=yR hS hT (fun a o e=>by
  have n1:a≠l:=fun z=>by rw[z,hl]at e;cases e
  have n2:a≠p:=fun z=>by rw[z,hpM]at e;cases e
  rw[aq n2,aq n1];exact e)
 have n3l:M3 l=none:=hn3 l (by rw[aq hlp,ai];simp) hl;have n3p:M3 p=none:=hn3 p (by rw[ai];simp) hpM;rw[<-sQ];refine a7 (fun i Δ M'=>∃x4 x5 x6 ws,Δ=[some (D.tup (arcs.map stD)),some (D.int many),some (D.ref l),some (D.ref p),x4,x5,x6]/\LeM M3 M'/\M' l=some (.lst ((lft many (L.take i)).map fun(k:Nat)=>D.int (k:Int)))/\M' p=some (.lst ws)/\ws.length<=i) ⟨none,none,none,[],rfl,hle3,m1,m2,Nat.le_refl _⟩ ?_ ?_
 ·rintro i d Δ M' X hd ⟨x4,x5,x6,ws,rfl,hle,hMl,hMp,hwl⟩ k';obtain⟨a,hi,rfl⟩:=iy hd;have hil:i<L.length:=(List.getElem?_eq_some_iff.mp hi).1;rw[pL.length_eq]at hil;refine⟨_,rfl,?_⟩;walk_at "rd";refine eJ (fun ha=>?_) (fun ha=>?_)
  ·obtain⟨A,B,e1,e2,e3⟩:=wY hD hmr pL hs' hi (Int.ofNat_lt.mp ha);have bP:(A++a.1::a.2::B).length<=many:=by
    rw[<-e1];unfold lft;exact Nat.le_trans (List.length_filter_le _ _) (Nat.le_of_eq List.length_range)
   have er:rdM M' (D.ref l)=.lst ((A++a.1::a.2::B).map fun(k:Nat)=>D.int (k:Int)):=by simp only[rdM,hMl,e1]
   rw[er];have hl1:av M' p (HD.lst (ws++[D.tup [D.str (Str.ofString "cancel"),D.int (A.length:Int)]])) l=some (.lst ((A++a.1::a.2::B).map fun(k:Nat)=>D.int (k:Int))):=by rw[aq hlp,hMl,e1]
   refine⟨⟨_,rfl⟩,_,rfl,_,AX e3 (by lia),_,hMp,sz3 2,_,hMp,Nat.lt_of_lt_of_le (by lia:_<1000) (sz3 1000),_,hl1,by lia,by lia,?_,k' _ _ ⟨_,_,_,ws++[D.tup [D.str (Str.ofString "cancel"),D.int (A.length:Int)]],rfl,leU (leU hle n3p) n3l,?_,?_,?_⟩⟩
   ·rw[List.length_map,List.length_append,List.length_cons,List.length_cons];lia
   ·rw[ai,e2,Int.toNat_natCast,show((A.length:Int)+2).toNat=A.length+2 by lia,<-List.map_take,<-List.map_drop,List.take_left,List.map_append];congr 3;rw[show A.length+2=(A++[a.1,a.2]).length by simp,show A++a.1::a.2::B=(A++[a.1,a.2])++B by simp,List.drop_left]
   ·rw[aq (Ne.symm hlp),ai]
   ·rw[List.length_append,List.length_singleton];lia
  ·refine k' _ _ ⟨_,_,_,ws,rfl,hle,?_,hMp,by lia⟩;rw[hMl,List.take_add_one,hi];show _=some (HD.lst (((lft many (L.take i++[a]))).map _));rw[Co (fun z=>ha (Int.ofNat_lt.mpr z))]
 ·rintro Δ M' ⟨x4,x5,x6,ws,rfl,hle,hMl,hMp,hwl⟩;walk_at "rd";rw[List.length_map,pL.length_eq]at hwl;refine⟨ws,hMp,M3,fun a o e=>?_,k ws M3 hS3 (by lia)⟩;have:a≠p:=fun z=>by rw[z,n3p]at e;cases e
  rw[ie this];exact hle a o e
theorem zt{ds:List D}{i:Nat}{d:D}(h:(kM 0 ds)[i]?=some d):∃e,ds[i]?=some e/\d=.tup [.int (i:Int),e]:=by
 rw[kU]at h;cases e:ds[i]? with
 |none=>rw[e]at h;cases h
 |some x =>
  rw[e,Option.map_some,Nat.zero_add]at h;exact⟨x,rfl,(Option.some.inj h).symm⟩
def gM:SpD:=fun ds M R=>∃(sts:List (Nat×Nat)) (one other:List (Str×Int)),ds=[.lst (sts.map stD),.tup (one.map au),.tup (other.map au)]/\(∀s∈sts,s.1<one.length/\s.2<other.length)/\sts.length<=100/\∀l,l.length<=100->R (.lst l) M
theorem kI(F:Fun K "orders_by" "orders_by" cW f fd) (T:Txt mg) :bg P w K mg base CX0 1 f fd ["strands","one","other"] (spD K 3 gM):=by
 have nd:=gh.nd;refine F.okR rfl gh (fun cdv A outer s H E hr=>⟨_,(aw (aU (jT (ms:=[false,true,true]) (aj:=["place","begin","at"]) (aK rfl (show aQ (am cW) ck _ _=true from by decide +kernel)) rfl (u6 rfl T.b_enumerate (ae (af 0) ah)) (cO (n:=2) rfl (aO (aC (i:=3) (show(ck++_).Nodup from by decide +kernel) rfl rfl) (aO (cO (n:=2) rfl (aO (aC (i:=4) (show(ck++_).Nodup from by decide +kernel) rfl rfl) (aO (aC (i:=5) (show(ck++_).Nodup from by decide +kernel) rfl rfl) cV))) cV))) (fun _ _ _ _=>(dm (aN (nJ hr.units) (aL aM (aL aM (af 1) (af 4) (fun _ _=>rfl)) ao (fun _ _=>rfl)) (aL aM (aL aM (af 2) (af 5) (fun _ _=>rfl)) ao (fun _ _=>rfl)) nbh))) (fun _ _ _ _=>(aZ (ae aW (ae (af 3) (ae (aL aM (aL aM (af 2) (af 5) (fun _ _=>rfl)) ao (fun _ _=>rfl)) ah)))))))),fun ds M R _ hS bk=>?_⟩);obtain⟨sts,one,other,rfl,hs,hl,k⟩:=hS;refine bk ?_;clear bk;walk_at "rd";refine fun hz=>⟨by rw[iR];exact hz,?_⟩;refine lQ (fun i acc Δ M'=>M'=M/\(∃x y z,Δ=[none,some (.tup (one.map au)),some (.tup (other.map au)),x,y,z])/\acc.length<=i) ⟨rfl,⟨none,none,none,rfl⟩,Nat.le_refl _⟩ ?_ ?_
 ·rintro i d acc Δ M' X hd ⟨rfl,⟨x,y,z,rfl⟩,hacc⟩ k';obtain⟨e,he,rfl⟩:=zt hd;obtain⟨s,hs',rfl⟩:=iy he;have hb:=hs s (List.mem_of_getElem? hs');refine⟨_,rfl,?_⟩;walk_at "rd";refine⟨_,k7 hb.1,_,rfl,_,k7 hb.2,_,rfl,_,vJ,_,rfl,eJ (fun _=>⟨_,k7 hb.2,_,rfl,sz3 3,k' _ _ _ ⟨rfl,⟨_,_,_,rfl⟩,?_⟩⟩) (fun _=>k' _ _ _ ⟨rfl,⟨_,_,_,rfl⟩,by lia⟩)⟩;rw[List.length_append,List.length_singleton];lia
 ·rintro acc Δ M' ⟨rfl,_,hacc⟩;rw[iR,List.length_map]at hacc;exact k acc (by lia)
def fR:SpD:=fun ds M R=>∃(sts prs:List (Nat×Nat)) (other:List (Str×Int)),ds=[.lst (sts.map stD),.lst (prs.map stD),.tup (other.map au)]/\(∀s∈prs,s.1<other.length/\s.2<other.length)/\sts.length<=20/\prs.length<=20/\∀l,l.length<=100->R (.lst l) M
theorem jU(F:Fun K "growths_by" "growths_by" bQ f fd) (T:Txt mg) :bg P w K mg base CX0 1 f fd ["strands","pairs","other"] (spD K 3 fR):=by
 have nd:=fI.nd;refine F.okR rfl fI (fun cdv A outer s H E hr=>⟨_,(ak (pF (i:=3) nd rfl rfl rfl (ms:=[false,false,false,false,false,false,false,false]) (aj:=["begin","at"]) (aK rfl (show aQ (am bQ) bE _ _=true from by decide +kernel)) rfl (bz (af 0)) (cO (n:=2) rfl (aO (aC (i:=8) (show(bE++_).Nodup from by decide +kernel) rfl rfl) (aO (aC (i:=9) (show(bE++_).Nodup from by decide +kernel) rfl rfl) cV))) (fun _ _ _ _=>fC) (fun _ _ _ _=>(af 9)))
   (ak (aI (i:=4) nd rfl (Or.inl rfl) (dn ah))
   (ak (dP PassesOwn.never rfl (bz (aH (oA hr.units) rfl T.b_sorted (by kernel_rfl) (ae (af 1) ah))) (mL rfl (dh (bu (i:=5) nd rfl (Or.inr rfl)) (dh (bu (i:=6) nd rfl (Or.inl rfl)) nj))) (ak (aI (i:=7) nd rfl (Or.inl rfl) (Cp (aH bS rfl T.b_len (by kernel_rfl) (ae (jT (ms:=[false,false,false,false,false,true,false,false]) (aj:=["at"]) (aK rfl (show aQ (am bQ) bE _ _=true from by decide +kernel)) rfl (bz (af 3)) (aC (i:=8) (show(bE++_).Nodup from by decide +kernel) rfl rfl) (fun _ _ _ _=>(dm (aN rX (af 8) (af 5) nbh))) (fun _ _ _ _=>(af 8))) ah))))
   (ak (cH (fE (af 4) (aZ (ae aW (ae (af 7) (ae (aL aM (af 2) (af 5) (fun _ _=>rfl)) (ae (aL aM (af 2) (af 6) (fun _ _=>rfl)) ah)))))))
   (aw (cH (Aa (af 3) (gQ (ae (af 5) (ae (af 6) ah)))))))))
   (n8 4 (aw (dX (af 4))))))),fun ds M R _ hS bk=>?_⟩)
 obtain⟨sts,prs,other,rfl,hs,hl,hl2,k⟩:=hS;refine bk ?_;clear bk;walk_at "rd";refine fun hz=>⟨hz,aT stD (fun _=>true) (fun s=>D.int (s.2:Int)) (fun Δ=>∃x y,Δ=[none,none,none,none,none,none,none,none,x,y]) sts _ _ (fun s hs' Δ hΔ=>?_) ⟨none,none,rfl⟩ ?_⟩
 ·obtain⟨x,y,rfl⟩:=hΔ;refine⟨_,rfl,⟨_,_,rfl⟩,fun Q1 q=>q,fun _ Q2 q=>?_⟩;walk_at "rd";exact q
 ·rw[List.nil_append,List.filter_eq_self.mpr (fun _ _=>rfl)];intro p hp;refine⟨sz3 0,fun q hq=>?_⟩;have hpq:p≠q:=fun z=>by rw[z,ai]at hq;cases hq
  have hqM:M q=none:=by rw[aq (Ne.symm hpq)]at hq;exact hq
  obtain⟨qs,eqs,hperm,_⟩:=oj prs;refine⟨_,eqs,_,rfl,fun hz2=>?_⟩;refine a7 (fun i Δ M'=>∃x5 x6 x7 ts ws,Δ=[some (D.lst (sts.map stD)),some (D.lst (prs.map stD)),some (D.tup (other.map au)),some (D.ref p),some (D.ref q),x5,x6,x7]/\LeM M M'/\M' p=some (.lst (ts.map D.int))/\M' q=some (.lst ws)/\ws.length<=i/\ts.length<=20+2*i) ⟨none,none,none,sts.map (fun s=>(s.2:Int)),[],rfl,leU (leU LeM.refl hp) hqM,by rw[aq hpq,ai,List.map_map];rfl,ai,Nat.le_refl _,by rw[List.length_map];lia⟩ ?_ ?_
  ·rintro i d Δ M' X hd ⟨x5,x6,x7,ts,ws,rfl,hle,hMp,hMq,hwl,htl⟩ k';obtain⟨a,ha,rfl⟩:=iy hd;have hil:=(List.getElem?_eq_some_iff.mp ha).1;rw[hperm.length_eq]at hil;have hb':=hs a (hperm.mem_iff.mp (List.mem_of_getElem? ha));have er:rdM M' (D.ref p)=.lst (ts.map D.int):=by simp only[rdM,hMp]
   refine⟨_,rfl,?_⟩;walk_at "rd";refine⟨_,rfl,_,by rw[er];rfl,fun hz3=>⟨hz3,aT D.int (fun t=>decide (t<(a.1:Int))) D.int (fun Δ=>∃x,Δ=[none,none,none,none,none,some (D.int (a.1:Int)),none,none,x]) ts _ _ (fun t ht Δ hΔ=>?_) ⟨none,rfl⟩ ⟨rfl,rfl,_,hMq,_,k7 hb'.1,_,k7 hb'.2,sz3 4,_,hMq,Nat.lt_of_lt_of_le (by lia:_<1000) (sz3 1000),_,by rw[aq hpq];exact hMp,sz3 2,_,by rw[aq hpq];exact hMp,?_,k' _ _ ⟨_,_,_,ts++[(a.1:Int),(a.2:Int)],_,rfl,leU (leU hle hqM) hp,?_,(aq (Ne.symm hpq)).trans ai,?_,?_⟩⟩⟩⟩
   ·obtain⟨x,rfl⟩:=hΔ;refine⟨_,rfl,⟨_,rfl⟩,fun Q1 q=>?_,fun _ Q2 q=>?_⟩
    ·walk_at "rd";exact q
    ·walk_at "rd";exact q
   ·rw[List.length_map];exact szB _ (by lia)
   ·rw[ai,List.map_append];rfl
   ·rw[List.length_append,List.length_singleton];lia
   ·rw[List.length_append];simp;lia
  ·rintro Δ M' ⟨x5,x6,x7,ts,ws,rfl,hle,hMp,hMq,hwl,htl⟩;rw[List.length_map,hperm.length_eq]at hwl;walk_at "rd";refine⟨ws,hMq,M,fun a o e=>?_,k ws (by lia)⟩;have:a≠q:=fun z=>by rw[z,hqM]at e;cases e
   rw[ie this];exact hle a o e
def jA(Tb:Addr):SpD:=fun ds M R=>∃(arcs:List (Nat×Nat)) (one other:List (Str×Int)) (row:List (Str×Int)) (c:Str×Int->Str×Int->Bool),ds=[.tup (arcs.map stD),.tup (one.map au),.tup (other.map au)]/\row.length=one.length+other.length/\row.length<=24/\oy c row arcs/\cL Tb aY lq M/\∀l M',jQ Tb aY lq M M'->R (.tup l) M'
theorem oR(F:Fun K "walk_by" "walk_by" cY f fd) (T:Txt mg) {Tb:Addr} (Y1:FnD P w K mg base "growths_by" 1 3 fR) (Y6:FnD P w K mg base "cancels_by" 1 2 (gq Tb)) (Y8:FnD P w K mg base "orders_by" 1 3 gM):bg P w K mg base CX0 2 f fd ["arcs","one","other"] (spD K 3 (jA Tb)):=by
 have nd:=ip.nd;refine F.okR rfl ip (fun cdv A outer s H E hr=>⟨_,(ak (aI (i:=3) nd rfl (Or.inr rfl) (aH bS rfl T.b_len (by kernel_rfl) (ae (af 1) ah)))
   (ak (aI (i:=4) nd rfl (Or.inr rfl) (aP fH (aP aS (af 3) (aH bS rfl T.b_len (by kernel_rfl) (ae (af 2) ah))) ao))
   (ak (gE (i:=5) nd rfl rfl rfl (ms:=[false,false,false,true,true,false,false]) (aj:=["begin","end"]) (aK rfl (show aQ (am cY) bU _ _=true from by decide +kernel)) rfl (bz (af 0)) (cO (n:=2) rfl (aO (aC (i:=7) (show(bU++_).Nodup from by decide +kernel) rfl rfl) (aO (aC (i:=8) (show(bU++_).Nodup from by decide +kernel) rfl rfl) cV))) (fun _ _ _ _=>(dm (wO rX C2 (af 7) (af 3) (af 8)))) (fun _ _ _ _=>(aZ (ae (af 7) (ae (aP fH (af 4) (af 8)) ah)))))
   (ak (gE (i:=6) nd rfl rfl rfl (ms:=[false,false,false,true,true,false,false]) (aj:=["begin","end"]) (aK rfl (show aQ (am cY) bU _ _=true from by decide +kernel)) rfl (bz (af 0)) (cO (n:=2) rfl (aO (aC (i:=7) (show(bU++_).Nodup from by decide +kernel) rfl rfl) (aO (aC (i:=8) (show(bU++_).Nodup from by decide +kernel) rfl rfl) cV))) (fun _ _ _ _=>(dm (aN C2 (af 3) (af 7) nbh))) (fun _ _ _ _=>(aZ (ae (aP fH (af 4) (af 8)) (ae (aP fH (af 4) (af 7)) ah)))))
   (aw (aU (cj cX rfl T.b_tuple (by kernel_rfl) (ae (aP aS (aP aS (qd Y6 hr (ae (af 0) (ae (af 3) ah))) (qd Y8 hr (ae (af 5) (ae (af 1) (ae (af 2) ah))))) (qd Y1 hr (ae (af 5) (ae (af 6) (ae (af 2) ah))))) ah)))))))),fun ds M R _ hS bk=>?_⟩)
 obtain⟨arcs,one,other,row,c,rfl,hl,h24,hD,hT,k⟩:=hS;refine bk ?_;clear bk;have hal:arcs.length<=12:=by have:=hD.len;lia
 walk_at "rd";simp only[List.length_map];have toN:∀a∈arcs,one.length<=a.2->(one.length:Int)+(other.length:Int)-1-(a.2:Int)=((one.length+other.length-1-a.2:Nat):Int):=fun a ha h=>by
  have:=(hD.arc a ha).2.1;lia
 refine fun hz=>⟨hz,aT stD (fun a=>decide (a.1<one.length)&&decide (one.length<=a.2)) (fun a=>stD (a.1,one.length+other.length-1-a.2)) (fun Δ=>∃x y,Δ=[none,none,none,some (.int (one.length:Int)),some (.int ((one.length:Int)+(other.length:Int)-1)),none,none,x,y]) arcs _ _ (fun a ha Δ hΔ=>?_) ⟨none,none,rfl⟩ ?_⟩
 ·obtain⟨x,y,rfl⟩:=hΔ;have ha2:=hD.arc a ha;refine⟨_,rfl,⟨_,_,rfl⟩,fun Q1 q=>?_,fun hb Q2 q=>?_⟩
  ·walk_at "rd";refine eJ (fun h1=>?_) (fun h1=>?_)
   ·rw[show decide ((one.length:Int)<=(a.2:Int))=(decide (a.1<one.length)&&decide (one.length<=a.2))by rw[Bool.eq_iff_iff];simp;lia];exact q
   ·rw[show(decide (a.1<one.length)&&decide (one.length<=a.2))=false by simp;lia]at q;exact q
  ·walk_at "rd";simp at hb;rw[toN a ha hb.2];exact⟨sz3 2,q⟩
 ·rw[List.nil_append];intro hz2;refine⟨hz2,aT stD (fun a=>decide (one.length<=a.1)) (fun a=>stD (one.length+other.length-1-a.2,one.length+other.length-1-a.1)) (fun Δ=>∃x y,Δ=[none,none,none,some (.int (one.length:Int)),some (.int ((one.length:Int)+(other.length:Int)-1)),none,none,x,y]) arcs _ _ (fun a ha Δ hΔ=>?_) ⟨none,none,rfl⟩ ?_⟩
  ·obtain⟨x,y,rfl⟩:=hΔ;have ha2:=hD.arc a ha;refine⟨_,rfl,⟨_,_,rfl⟩,fun Q1 q=>?_,fun hb Q2 q=>?_⟩
   ·walk_at "rd";rw[show decide ((one.length:Int)<=(a.1:Int))=decide (one.length<=a.1)by rw[Bool.eq_iff_iff];simp];exact q
   ·walk_at "rd";simp at hb;rw[toN a ha (by lia),show(one.length:Int)+(other.length:Int)-1-(a.1:Int)=((one.length+other.length-1-a.1:Nat):Int)by lia];exact⟨sz3 2,q⟩
  ·rw[List.nil_append];refine⟨arcs,one.length,row,c,rfl,hD,by lia,h24,hT,fun l1 M1 hS1 hl1=>?_⟩;refine⟨(arcs.filter fun a=>decide (a.1<one.length)&&decide (one.length<=a.2)).map (fun a=>(a.1,one.length+other.length-1-a.2)),one,other,by rw[List.map_map];rfl,?_,?_,fun l2 hl2=>?_⟩
   ·intro s hs;obtain⟨a,ha,rfl⟩:=List.mem_map.mp hs;obtain⟨ha1,ha2⟩:=List.mem_filter.mp ha;have:=hD.arc a ha1;simp at ha2 ⊢
    lia
   ·rw[List.length_map];have:=List.length_filter_le (fun a:Nat×Nat=>decide (a.1<one.length)&&decide (one.length<=a.2)) arcs
    lia
   ·refine⟨.lst (l1++l2),(show jX (.lst l1) (.lst l2)=_ from if_pos (szB _ (by lia))),?_⟩;refine⟨(arcs.filter fun a=>decide (a.1<one.length)&&decide (one.length<=a.2)).map (fun a=>(a.1,one.length+other.length-1-a.2)),(arcs.filter fun a=>decide (one.length<=a.1)).map (fun a=>(one.length+other.length-1-a.2,one.length+other.length-1-a.1)),other,by rw[List.map_map,List.map_map];rfl,?_,?_,?_,fun l3 hl3=>?_⟩
    ·intro s hs;obtain⟨a,ha,rfl⟩:=List.mem_map.mp hs;obtain⟨ha1,ha2⟩:=List.mem_filter.mp ha;have:=hD.arc a ha1;simp at ha2 ⊢
     lia
    ·rw[List.length_map];have:=List.length_filter_le (fun a:Nat×Nat=>decide (a.1<one.length)&&decide (one.length<=a.2)) arcs
     lia
    ·rw[List.length_map];have:=List.length_filter_le (fun a:Nat×Nat=>decide (one.length<=a.1)) arcs
     lia
    ·refine⟨.lst (l1++l2++l3),(show jX (.lst (l1++l2)) (.lst l3)=_ from if_pos (szB _ (by rw[List.length_append];lia))),_,rfl,k _ M1 hS1⟩
def eU:SpD:=fun ds M R=>∃(ord:List (Str×Str)) (a:Str),ds=[.tup (ord.map aA),.str a]/\ord.length<=200/\∀L:List Str,R (.lst (L.map .str)) M
theorem iN(F:Fun K "hanging_with" "hanging_with" bX f fd) (T:Txt mg) (G3:FnD P w K mg base "reached_from" 1 2 cP):bg P w K mg base CX0 2 f fd ["order","mark"] (spD K 2 eU):=by
 have nd:=dZ.nd;refine F.okR rfl dZ (fun cdv A outer s H E hr=>⟨_,(aw (aU (qd G3 hr (ae (aP aS (af 0) (cj cX rfl T.b_tuple (by kernel_rfl) (ae (jT (ms:=[false,false]) (aj:=["low","high"]) (aK (n0:=0) rfl (show aQ (am bX) bW _ _=true from by decide +kernel)) rfl (bz (af 0)) (cO (n:=2) rfl (aO (aC (i:=2) (show(bW++_).Nodup from by decide +kernel) rfl rfl) (aO (aC (i:=3) (show(bW++_).Nodup from by decide +kernel) rfl rfl) cV))) (fun _ _ _ _=>fC) (fun _ _ _ _=>(aZ (ae (af 3) (ae (af 2) ah))))) ah))) (ae (af 1) ah))))),fun ds M R _ hS bk=>?_⟩);obtain⟨ord,a,rfl,ho,k⟩:=hS;refine bk ?_;clear bk;walk_at "rd";refine fun hz=>⟨hz,aT aA (fun _=>true) (fun y=>aA (y.2,y.1)) (fun Δ=>∃x y,Δ=[none,none,x,y]) _ _ _ (fun y hy Δ hΔ=>?_) ⟨none,none,rfl⟩ ?_⟩
 ·obtain⟨x,z,rfl⟩:=hΔ;refine⟨_,rfl,⟨_,_,rfl⟩,fun Q1 q=>q,fun _ Q2 q=>?_⟩;walk_at "rd";exact⟨sz3 2,q⟩
 ·rw[List.nil_append,List.filter_eq_self.mpr (fun _ _=>rfl)];have e:ord.map (fun y=>aA (y.2,y.1))=(ord.map fun y=>(y.2,y.1)).map aA:=by rw[List.map_map];rfl
  rw[e,<-List.map_append,List.length_map,List.length_map,List.length_map];exact⟨_,if_pos (sz3 _ (by lia)),_,a,rfl,by simp;lia,fun L _ _ _ _=>k L⟩
def jC:SpD:=fun ds M R=>∃(L:List Str) (row:List (Str×Int)),ds=[.lst (L.map .str),.tup (row.map au)]/\row.length<=24/\∀n,R (.int n) M
theorem oF(F:Fun K "surplus" "surplus" eB f fd) (T:Txt mg) :bg P w K mg base CX0 1 f fd ["marks","row"] (spD K 2 jC):=by
 have nd:=ig.nd;refine F.okR rfl ig (fun cdv A outer s H E hr=>⟨_,(aw (aU (aH (zZ rfl) rfl T.b_sum (by kernel_rfl) (ae (jT (ms:=[true,false]) (aj:=["mark","turn"]) (aK rfl (show aQ (am eB) eC _ _=true from by decide +kernel)) rfl (bz (af 1)) (cO (n:=2) rfl (aO (aC (i:=2) (show(eC++_).Nodup from by decide +kernel) rfl rfl) (aO (aC (i:=3) (show(eC++_).Nodup from by decide +kernel) rfl rfl) cV))) (fun _ _ _ _=>(dm (aN qo (af 2) (af 0) rfl))) (fun _ _ _ _=>(EB (aN (jR hr.units) (aP tV (af 3) ao) ao nbh) ao (wH xC ao)))) ah)))),fun ds M R _ hS bk=>?_⟩);obtain⟨L,row,rfl,hl,k⟩:=hS;refine bk ?_;clear bk;walk_at "rd";refine fun hz=>⟨hz,aT au (fun y=>decide (y.1∈L)) (fun y=>D.int (if y.2 % 2=1 then 1 else -1)) (fun Δ=>∃x y,Δ=[some (D.lst (L.map .str)),none,x,y]) _ _ _ (fun y hy Δ hΔ=>?_) ⟨none,none,rfl⟩ ?_⟩
 ·obtain⟨x,z,rfl⟩:=hΔ;refine⟨_,rfl,⟨_,_,rfl⟩,fun Q1 q=>?_,fun _ Q2 q=>?_⟩
  ·walk_at "rd";refine⟨_,if_pos ⟨rfl,dJ⟩,_,rfl,?_⟩;rw[da,Bool.false_xor];exact q
  ·walk_at "rd"
   by_cases c:y.2 % 2=1
   ·rw[if_pos c]at q;rw[if_pos (by simpa using c)];exact q
   ·rw[if_neg c]at q;rw[if_neg (by simpa using c)];exact q
 ·rw[List.nil_append];have e:∀l:List (Str×Int),l.map (fun y=>D.int (if y.2 % 2=1 then 1 else -1))=(l.map fun y=>if y.2 % 2=1 then(1:Int)else -1).map D.int:=fun l=>by rw[List.map_map];rfl
  rw[e];exact⟨_,u0,k _⟩
def gP:SpD:=fun ds M R=>∃(ord:List (Str×Str)) (row:List (Str×Int)) (a:Str),ds=[.tup (ord.map aA),.tup (row.map au),.str a]/\ord.length<=200/\row.length<=24/\∀b,R (.bl b) M
theorem kX(F:Fun K "is_uneven" "is_uneven" eK f fd) (T:Txt mg) (ga4:FnD P w K mg base "surplus" 1 2 jC) (G9:FnD P w K mg base "hanging_with" 2 2 eU):bg P w K mg base CX0 3 f fd ["order","row","mark"] (spD K 3 gP):=by
 have nd:=fU.nd;refine F.okR rfl fU (fun cdv A outer s H E hr=>⟨_,(aw (aU (lE (nJ hr.units) (qd ga4 hr (ae (qd G9 hr (ae (af 0) (ae (af 2) ah))) (ae (af 1) ah))) ao nbh))),fun ds M R _ hS bk=>?_⟩);obtain⟨ord,row,a,rfl,ho,hl,k⟩:=hS;refine bk ?_;clear bk;walk_at "rd";exact⟨ord,a,rfl,ho,fun L=>⟨L,row,rfl,hl,fun n=>⟨_,xf,k _⟩⟩⟩
def jy:SpD:=fun ds M Q=>∃(ord:List (Str×Str)) (row:List (Str×Int)),ds=[.tup (ord.map aA),.tup (row.map au)]/\ord.length<=200/\row.length<=24/\∀d,Q d M
def stV(t:(Nat×Nat)×Int):List Key×D:=([.inl (t.1.1:Int),.inl (t.1.2:Int)],.int t.2)
theorem iH.list:∀{kvs:List (List Key×D)},(∀x∈kvs,∃(b e:Nat) (v:Int),x=([.inl (b:Int),.inl (e:Int)],.int v))->∃ts:List ((Nat×Nat)×Int),kvs=ts.map stV
 |[],_=>⟨[],rfl⟩
 |x::kvs,h=>by
  obtain⟨b,e,v,rfl⟩:=h x (.head _);obtain⟨ts,rfl⟩:=iH.list (kvs:=kvs) fun y hy=>h y (.tail _ hy);exact⟨((b,e),v)::ts,rfl⟩
theorem nY(F:Fun K "why_not" "why_not" eF f fd) (T:Txt mg) (G2:FnD P w K mg base "stretch_counts" 2 1 cv) (G5:FnD P w K mg base "mates_in" 5 2 fk) (G4:FnD P w K mg base "whole_count" 1 2 di) (Y9:FnD P w K mg base "is_uneven" 3 3 gP):bg P w K mg base CX0 6 f fd ["order","row"] (spD K 2 jy):=by
 have nd:=iL.nd;refine F.okR rfl iL (fun cdv A outer s H E hr=>⟨_,(ak (aI (i:=2) nd rfl (Or.inl rfl) (qd G2 hr (ae (qd G5 hr (ae (af 0) (ae (af 1) ah))) ah)))
   (ak (bN (aN um (qd G4 hr (ae (af 2) (ae (af 1) ah))) ao nbh) (aw (dX vD)) bp)
   (ak (dP PassesOwn.never rfl (bz (af 1)) (mL rfl (dh (bu (i:=3) nd rfl (Or.inl rfl)) (dh (bu (i:=4) nd rfl (Or.inl rfl)) nj))) (aw (bN (dI (qd Y9 hr (ae (af 0) (ae (af 1) (ae (af 3) ah))))) (aw (dX (aZ (ae aW (ae (af 3) ah))))) bp)))
   (aw (dX (aZ (ae aW (ae (cj cX rfl T.b_tuple (by kernel_rfl) (ae (aH (oA hr.units) rfl T.b_sorted (by kernel_rfl) (ae (jT (ms:=[false,false,false,false,false]) (aj:=["stretch","count"]) (aK (n0:=0) rfl (show aQ (am eF) eh _ _=true from by decide +kernel)) rfl (vH (af 2)) (cO (n:=2) rfl (aO (aC (i:=5) (show(eh++_).Nodup from by decide +kernel) rfl rfl) (aO (aC (i:=6) (show(eh++_).Nodup from by decide +kernel) rfl rfl) cV))) (fun _ _ _ _=>(dm (aN um (af 6) ao nbh))) (fun _ _ _ _=>(af 5))) ah)) ah)) ah)))))))),fun ds M R _ hS bk=>?_⟩)
 obtain⟨ord,row,rfl,ho,hl,k⟩:=hS;refine bk ?_;clear bk;walk_at "rd";refine⟨ord,row,rfl,by lia,by lia,cB ord,row,rfl,by lia,fun p kvs hp hT hk=>⟨cB ord,row,p,kvs,rfl,ai,by lia,hT,_,rfl,_,rfl,?_⟩⟩;refine eJ (fun h=>⟨M,ff hp,k _⟩) (fun h hz=>?_);refine a7 (fun i Δ M'=>∃x3 x4:Option D,Δ=[some (D.tup (ord.map aA)),some (D.tup (row.map au)),some (D.ref p),x3,x4]/\M'=av M p (.dT kvs)) ⟨_,_,rfl,rfl⟩ ?_ ?_
 ·rintro i d Δ M' X hd ⟨x3,x4,rfl,rfl⟩ k';obtain⟨⟨a,t⟩,hy,rfl⟩:=iy hd;simp only[au,jF,fo,bL,mI,Option.bind_some];refine⟨_,rfl,?_⟩;walk_at "rd";refine⟨ord,row,a,rfl,ho,by lia,fun b=>⟨_,rfl,?_⟩⟩;exact eJ (fun h=>⟨sz3 2,M,ff hp,k _⟩) (fun h=>k' _ _ ⟨_,_,rfl,rfl⟩)
 ·rintro Δ M' ⟨x3,x4,rfl,rfl⟩;walk_at "rd";obtain⟨ts,rfl⟩:=iH.list hk.1.2;have hlt:ts.length<=325:=by have:=hk.2;simpa using this
  rw[List.length_map,List.length_map,List.map_map,kS hp];refine⟨sz3 _ (by lia),aT (fun(t:(Nat×Nat)×Int)=>D.tup [D.tup [D.int t.1.1,D.int t.1.2],D.int t.2]) (fun t=>decide (0<t.2)) (fun t=>stD t.1) (fun Δ=>∃x y,Δ=[none,none,none,none,none,x,y]) ts _ _ (fun t ht Δ hΔ=>?_) ⟨none,none,rfl⟩ ?_⟩
  ·obtain⟨x,y,rfl⟩:=hΔ;refine⟨_,rfl,⟨_,_,rfl⟩,fun Q1 q=>?_,fun _ Q2 q=>?_⟩
   ·walk_at "rd";exact q
   ·walk_at "rd";exact q
  ·rw[List.nil_append];have e:∀l:List ((Nat×Nat)×Int),l.map (fun t=>stD t.1)=(l.map fun t=>t.1).map stD:=fun l=>by rw[List.map_map];rfl
   rw[e];obtain⟨ps,eps,_⟩:=oj ((ts.filter fun(t:(Nat×Nat)×Int)=>decide (0<t.2)).map fun t=>t.1);exact⟨_,eps,_,rfl,sz3 2,M,LeM.refl,k _⟩
def cmB(ord:List (Str×Str)) (one other:List Sg):Bool:=decide (0<W (cB ord) (one++wsh other))
theorem fZ{ord:List (Str×Str)}{one other:List Sg}:cmB ord one other=true↔Gp (cB ord) (one++wsh other):=by
 unfold cmB;rw[decide_eq_true_eq];exact vt _ _ (Nat.le_refl _)
def m8(Tb:Addr):SpD:=fun ds M R=>∃(ord:List (Str×Str)) (one other:List (Str×Int)),ds=[.tup (ord.map aA),.tup (one.map au),.tup (other.map au)]/\ord.length<=200/\one.length+other.length<=24/\cL Tb aY lq M/\∀d M',iV Tb M M'->R (.tup [.str (if cmB ord one other=true then "comes" else "none"),d]) M'
theorem rN(F:Fun K "comes" "comes" jn f fd) (T:Txt mg) {Tb:Addr} (Y5:FnD P w K mg base "drawing_of" 6 2 gf) (Y2:FnD P w K mg base "right_wish" 1 1 gg) (ga6:FnD P w K mg base "walk_by" 2 3 (jA Tb)) (ga5:FnD P w K mg base "why_not" 6 2 jy):bg P w K mg base CX0 7 f fd ["order","one","other"] (spD K 3 (m8 Tb)):=by
 have nd:=k8.nd;refine F.okR rfl k8 (fun cdv A outer s H E hr=>⟨_,(ak (aI (i:=3) nd rfl (Or.inl rfl) (aP aS (af 1) (qd Y2 hr (ae (af 2) ah))))
   (ak (aI (i:=4) nd rfl (Or.inl rfl) (qd Y5 hr (ae (af 0) (ae (af 3) ah))))
   (ak (bN (aN ET (af 4) vD nbh) (aw (aU (aZ (ae aW (ae (qd ga5 hr (ae (af 0) (ae (af 3) ah))) ah))))) bp)
   (aw (aU (aZ (ae aW (ae (qd ga6 hr (ae (af 4) (ae (af 1) (ae (af 2) ah)))) ah)))))))),fun ds M R _ hS bk=>?_⟩)
 obtain⟨ord,one,other,rfl,ho,h24,hT,k⟩:=hS;refine bk ?_;clear bk;walk_at "rd";have hw:(wsh other).length=other.length:=by unfold wsh;simp
 have hl:(one++wsh other).length<=24:=by rw[List.length_append,hw];exact h24
 refine⟨other,rfl,by lia,.tup ((one++wsh other).map au),?_,ord,one++wsh other,rfl,by lia,hl,fun z=>?_,fun z arcs hD=>?_⟩
 ·rw[List.map_append];exact if_pos (szB _ (by rw[List.length_map,List.length_map,hw];lia))
 ·have hc:¬ cmB ord one other=true:=by unfold cmB;rw[z];simp
  show if(false ^^ lW D.non)=true then _ else _
  rw[if_pos (by simp[lW])];refine⟨ord,one++wsh other,rfl,ho,hl,fun d=>⟨sz3 2,?_⟩⟩;have:=k d M ⟨hT,fun _ _ e _=>e⟩;rw[if_neg hc]at this;exact this
 ·have hc:cmB ord one other=true:=by unfold cmB;simpa using z
  show if(false ^^ lW (D.tup (arcs.map stD)))=true then _ else _
  rw[if_neg (by simp[lW])];refine⟨arcs,one,other,one++wsh other,cB ord,rfl,by rw[List.length_append,hw],hl,hD,hT,fun l M' hS=>⟨sz3 2,?_⟩⟩;have:=k (.tup l) M' (Ew hT hS);rw[if_pos hc]at this;exact this
def jg(Tb:Addr):SpD:=fun ds M R=>∃(ord:List (Str×Str)) (one other:List (Str×Int)),ds=[.tup (ord.map aA),.tup (one.map au),.tup (other.map au)]/\ord.length<=200/\one.length+other.length<=24/\cL Tb aY lq M/\∀M',iV Tb M M'->R (.bl (cmB ord one other)) M'
theorem Ea:((Str.ofString "none")==(Str.ofString "comes"))=false:=by decide +kernel
theorem Dz:((Str.ofString "comes")==(Str.ofString "comes"))=true:=by decide +kernel
theorem rH(F:Fun K "_law_comes" "_law_comes" jk f fd) (T:Txt mg) {Tb:Addr} (ga9:FnD P w K mg base "comes" 7 3 (m8 Tb)):bg P w K mg base CX0 8 f fd ["_law_order_here","_law_one","_law_other"] (spD K 3 (jg Tb)):=by
 have nd:=lh.nd;refine F.okR rfl lh (fun cdv A outer s H E hr=>⟨_,(aw (aU (lE (jR hr.units) (aL aM (qd ga9 hr (ae (af 0) (ae (af 1) (ae (af 2) ah)))) ao (fun _ _=>rfl)) aW nbh))),fun ds M R _ hS bk=>?_⟩);obtain⟨ord,one,other,rfl,ho,h24,hT,k⟩:=hS;refine bk ?_;clear bk;walk_at "rd";refine⟨ord,one,other,rfl,ho,h24,hT,fun d M' hK=>?_⟩;walk_at "rd";have:=k M' hK;cases hc:cmB ord one other with
 |true=>rw[hc]at this;first|exact this|(simp only[if_true,Dz];exact this)|(rw[if_pos rfl,Dz];exact this)
 |false=>rw[hc]at this;first|exact this|(simp only[Bool.false_eq_true,if_false,Ea];exact this)|(rw[if_neg (by decide),Ea];exact this)
def pO:SpD:=fun ds M Q=>∃(row:List (Str×Int)) (b:Int),ds=[.tup (row.map au),.int b]/\row.length<=24/\Q (.tup ((wB b row).map au)) M
theorem uo(F:Fun K "_law_wish" "_law_wish" iB f fd) (T:Txt mg) :bg P w K mg base CX0 1 f fd ["_law_row_here","_law_by"] (spD K 2 pO):=by
 have nd:=nG.nd;refine F.okR rfl nG (fun cdv A outer s H E hr=>⟨_,(aw (aU (cj cX rfl T.b_tuple (by kernel_rfl) (ae (jT (ms:=[false,true]) (aj:=["_law_mark","_law_turn"]) (aK rfl (show aQ (am iB) iD _ _=true from by decide +kernel)) rfl (bz (pS (af 0) (wH xC ao))) (cO (n:=2) rfl (aO (aC (i:=2) (show(iD++_).Nodup from by decide +kernel) rfl rfl) (aO (aC (i:=3) (show(iD++_).Nodup from by decide +kernel) rfl rfl) cV))) (fun _ _ _ _=>fC) (fun _ _ _ _=>(aZ (ae (af 2) (ae (aP aS (af 3) (af 1)) ah))))) ah)))),fun ds M R _ hS bk=>?_⟩);obtain⟨row,b,rfl,hl,k⟩:=hS;refine bk ?_;clear bk;walk_at "rd";intro hz;refine⟨hz,?_⟩;rw[<-List.map_reverse];refine aT au (fun _=>true) (fun x=>au (x.1,x.2+b)) (fun Δ=>∃x y,Δ=[none,some (.int b),x,y]) _ _ _ (fun m hm Δ hΔ=>?_) ⟨none,none,rfl⟩ ?_
 ·obtain⟨x,y,rfl⟩:=hΔ;refine⟨_,rfl,⟨_,_,rfl⟩,fun Q1 q=>q,fun _ Q2 q=>?_⟩;walk_at "rd";exact⟨sz3 2,q⟩
 ·rw[List.nil_append,List.filter_eq_self.mpr (fun _ _=>rfl)];unfold wB at k;rw[List.map_map]at k;exact k
def ij:SpD:=fun ds M Q=>∃row:List (Str×Int),ds=[.tup (row.map au)]/\row.length<=24/\Q (.tup ((mir row).map au)) M
theorem me(F:Fun K "_law_mirrored" "_law_mirrored" dB f fd) (T:Txt mg) :bg P w K mg base CX0 1 f fd ["_law_row_here"] (spD K 1 ij):=by
 have nd:=gS.nd;refine F.okR rfl gS (fun cdv A outer s H E hr=>⟨_,(aw (aU (cj cX rfl T.b_tuple (by kernel_rfl) (ae (jT (ms:=[false]) (aj:=["_law_mark","_law_turn"]) (aK (n0:=0) rfl (show aQ (am dB) dA _ _=true from by decide +kernel)) rfl (bz (pS (af 0) (wH xC ao))) (cO (n:=2) rfl (aO (aC (i:=1) (show(dA++_).Nodup from by decide +kernel) rfl rfl) (aO (aC (i:=2) (show(dA++_).Nodup from by decide +kernel) rfl rfl) cV))) (fun _ _ _ _=>fC) (fun _ _ _ _=>(aZ (ae (af 1) (ae (aP fH ao (af 2)) ah))))) ah)))),fun ds M R _ hS bk=>?_⟩);obtain⟨row,rfl,hl,k⟩:=hS;refine bk ?_;clear bk;walk_at "rd";intro hz;refine⟨hz,?_⟩;rw[<-List.map_reverse];refine aT au (fun _=>true) (fun x=>au (mf x)) (fun Δ=>∃x y,Δ=[none,x,y]) _ _ _ (fun m hm Δ hΔ=>?_) ⟨none,none,rfl⟩ ?_
 ·obtain⟨x,y,rfl⟩:=hΔ;refine⟨_,rfl,⟨_,_,rfl⟩,fun Q1 q=>q,fun _ Q2 q=>?_⟩;walk_at "rd";rw[Int.zero_sub];exact⟨sz3 2,q⟩
 ·rw[List.nil_append,List.filter_eq_self.mpr (fun _ _=>rfl)];unfold mir at k;rw[List.map_map]at k;exact k
def bR(l:List D):Prop:=∃N:Int,l=[.int N]
def nk:SpD:=fun ds M R=>∃c,ds=[.int c]/\Few c/\∀v,0<=v->v<10 ^ 60->R (.int v) M
def pQ:SpD:=fun ds M R=>∃(ns:List Int) (k:Int),ds=[.scr (ns.map .int),.int k]/\(∀m∈ns,Few m)/\ns.length<=63/\0<=k/\k<=100/\∀p l,M p=none->bR l->R (.ref p) (av M p (.lst l))
def eP:SpD:=fun ds M R=>∃p l n,ds=[.ref p,.int n]/\M p=some (.lst l)/\bR l/\0<n/\n<1073741824/\∀v l',0<=v->v<n->bR l'->R (.int v) (av M p (.lst l'))
theorem qN(F:Fun K "_law_mixed" "_law_mixed" i3 f fd) (T:Txt mg) :bg P w K mg base CX0 1 f fd ["_law_cell"] (spD K 1 nk):=by
 have nd:=kn.nd;refine F.okR rfl kn (fun cdv A outer s H E hr=>⟨_,(aw (aU (aP tV (aP qw (af 0) ao) (aP zX ao ao)))),fun ds M R _ hS bk=>?_⟩);obtain⟨c,rfl,hc,k⟩:=hS;refine bk ?_;clear bk;have hm:gL c 577215664901532860606512090082402431042159335939923598805767=True:=we ⟨hc,vT (by decide) (by decide)⟩;walk_at "rd";simp only[hm];walk_at "rd";exact k _ (by lia) (by lia)
theorem uE(F:Fun K "_law_take" "_law_take" lC f fd) (T:Txt mg) :bg P w K mg base CX0 1 f fd ["_law_pack_here","_law_size"] (spD K 2 eP):=by
 have nd:=mP.nd;refine F.okR rfl mP (fun cdv A outer s H E hr=>⟨_,(ak (AJ (n:=2) rfl nd rfl (Or.inl rfl) (af 0) ao (aH wx rfl T.b_divmod (by kernel_rfl) (ae (aL aM (af 0) ao (fun _ _=>rfl)) (ae (af 1) ah))))
   (aw (aU (af 2)))),fun ds M R _ hS bk=>?_⟩)
 obtain⟨p,l,n,rfl,hM,⟨N,rfl⟩,h0,h1,k⟩:=hS;refine bk ?_;clear bk;have hrd:=e7 hM;have hcd:∀x,kf x n:=fun x=>⟨h0,h1⟩;walk_at "rd";simp only[hrd,hM,hcd];walk_at "rd";exact⟨_,if_pos (hcd N),_,_,rfl,k _ _ (Int.emod_nonneg _ (by lia)) (Int.emod_lt_of_pos _ h0) ⟨_,rfl⟩⟩
theorem vg{ms:List Int}{i:Nat}{d:D}(h:(ms.map D.int)[i]?=some d):∃c,c∈ms/\d=.int c:=by
 rw[List.getElem?_map]at h;cases q:ms[i]? with
 |none=>rw[q]at h;cases h
 |some c=>rw[q]at h;cases h;exact⟨c,List.mem_of_getElem? q,rfl⟩
theorem zw{ns:List Int}{lo hi:Option Int}:∃ms:List Int,L2.du (ns.map D.int) lo hi=ms.map D.int/\ms.length<=ns.length/\∀m∈ms,m∈ns:=by
 refine⟨(ns.drop (HT.sIx (ns.map D.int).length 0 lo)).take (HT.sIx (ns.map D.int).length (ns.map D.int).length hi-HT.sIx (ns.map D.int).length 0 lo),?_,?_,?_⟩
 ·unfold L2.du;rw[List.map_take,List.map_drop]
 ·simp;lia
 ·intro m hm;exact List.mem_of_mem_drop (List.mem_of_mem_take hm)
theorem sv{x:Int}{n:Nat}(h0:0<=x) (h1:x<10 ^ n) (hn:n<=10000):Few x:=by
  unfold Few;rw[intBits_le_iff];obtain⟨m,rfl⟩:=Int.eq_ofNat_of_zero_le h0;have h2:m<10 ^ n:=by exact_mod_cast h1
  have h3:10 ^ n<=(2 ^ 4) ^ n:=Nat.pow_le_pow_left (by decide) n;rw[<-Nat.pow_mul]at h3;have e20:(2:Nat) ^ 20=1048576:=by decide
  have h4:2 ^ (4*n)<=2 ^ (2 ^ 20):=Nat.pow_le_pow_right (by decide) (by lia)
  have e:(Int.ofNat m).natAbs=m:=rfl;show(Int.ofNat m).natAbs<_;rw[e];exact Nat.lt_of_lt_of_le h2 (Nat.le_trans h3 h4)
theorem uB(F:Fun K "_law_pack" "_law_pack" ko f fd) (T:Txt mg) (ga8:FnD P w K mg base "_law_mixed" 1 1 nk):bg P w K mg base CX0 2 f fd ["_law_script","_law_k"] (spD K 2 pQ):=by
 have nd:=nt.nd;refine F.okR rfl nt (fun cdv A outer s H E hr=>⟨_,(ak (aI (i:=2) nd rfl (Or.inl rfl) ao)
   (ak (dP PassesOwn.never rfl (bz (cf (af 0) (bV (af 1)) (bV (aP aS (af 1) ao)))) (bu (i:=3) nd rfl (Or.inl rfl)) (aw (aI (i:=2) nd rfl (Or.inl rfl) (aP aS (aP qw (af 2) (aP zX ao ao)) (qd ga8 hr (ae (af 3) ah))))))
   (aw (aU (dn (ae (af 2) ah)))))),fun ds M R _ hS bk=>?_⟩)
 obtain⟨ns,k0,rfl,hf,hl,h0,h1,k⟩:=hS;refine bk ?_;clear bk;walk_at "rd";obtain⟨ms,hms,hml,hin⟩:=zw (ns:=ns) (lo:=some k0) (hi:=some (k0+2));rw[hms];intro hz;refine a7 (fun i Δ M'=>∃(x:Int) (y:Option D),Δ=[some (D.scr (List.map D.int ns)),some (D.int k0),some (D.int x),y]/\M'=M/\0<=x/\x<10 ^ (60*i)) ⟨0,none,rfl,rfl,by lia,by simp⟩ ?_ ?_
 ·rintro i d Δ M' X hd ⟨x,y,rfl,rfl,hx0,hx1⟩ k';have hi:i<ms.length:=by
   have:=(List.getElem?_eq_some_iff.mp hd).1;simpa using this
  obtain⟨c,hc,rfl⟩:=vg hd;simp only[bL];have hm:gL x (10 ^ (60:Nat))=True:=we ⟨sv hx0 hx1 (by lia),sv (n:=61) (by decide) (by decide) (by decide)⟩;walk_at "rd";simp only[Int.reducePow]at hm;simp only[hm];walk_at "rd";refine⟨c,rfl,hf c (hin c hc),fun v hv0 hv1=>?_⟩;walk_at "rd";refine k' _ _ ⟨_,_,rfl,rfl,by lia,?_⟩;have e:(10:Int) ^ (60*(i+1))=10 ^ (60*i)*10 ^ 60:=by rw[Nat.mul_add,Int.pow_add]
  rw[e];generalize (10:Int) ^ (60*i)=Z at hx1
  lia
 ·rintro Δ M' ⟨x,y,rfl,rfl,hx0,hx1⟩;walk_at "rd";exact⟨sz3 1,fun p hp=>k p _ hp ⟨x,rfl⟩⟩
def mU:SpD:=fun ds M R=>∃p l,ds=[.ref p]/\M p=some (.lst l)/\bR l/\∀(ws:List Str) l',ws≠[]->ws.length<=9->bR l'->R (.lst (ws.map .str)) (av M p (.lst l'))
def mk1:List Str:=["n","s","pp","vmark","abcdefgh","nn","ss","q","zzzzzzzz"]
def mk2:List Str:=["a","aa","aaa","ab","b","ba","bb","c","ac"]
def mk3:List Str:=["ijk","lmo","qrt","uwx","yzg","de","fh","o","i"]
theorem pK{v:Int}(h0:0<=v) (h1:v<3):∃ws:List Str,ws.length=9/\atI [D.lst (mk1.map D.str),D.lst (mk2.map D.str),D.lst (mk3.map D.str)] v=some (D.lst (ws.map D.str)):=by
 have:v=0∨v=1∨v=2:=by lia
 rcases this with rfl|rfl|rfl
 ·exact⟨mk1,rfl,rfl⟩
 ·exact⟨mk2,rfl,rfl⟩
 ·exact⟨mk3,rfl,rfl⟩
theorem wJ{v:Int}(h0:0<=v) (h1:v<8):∃n:Nat,1<=n/\n<=9/\atI [D.int 1,D.int 2,D.int 3,D.int 4,D.int 5,D.int 3,D.int 4,D.int 9] v=some (.int (n:Int)):=by
 have:v=0∨v=1∨v=2∨v=3∨v=4∨v=5∨v=6∨v=7:=by lia
 rcases this with rfl|rfl|rfl|rfl|rfl|rfl|rfl|rfl
 ·exact⟨1,by lia,by lia,rfl⟩
 ·exact⟨2,by lia,by lia,rfl⟩
 ·exact⟨3,by lia,by lia,rfl⟩
 ·exact⟨4,by lia,by lia,rfl⟩
 ·exact⟨5,by lia,by lia,rfl⟩
 ·exact⟨3,by lia,by lia,rfl⟩
 ·exact⟨4,by lia,by lia,rfl⟩
 ·exact⟨9,by lia,by lia,rfl⟩
theorem qF(F:Fun K "_law_marks" "_law_marks" ji f fd) (T:Txt mg) (G0:FnD P w K mg base "_law_take" 1 2 eP):bg P w K mg base CX0 2 f fd ["_law_pack_here"] (spD K 1 mU):=by
 have nd:=lz.nd;refine F.okR rfl lz (fun cdv A outer s H E hr=>⟨_,(ak (aI (i:=1) nd rfl (Or.inl rfl) (dn (ae (gQ (ae aW (ae aW (ae aW (ae aW (ae aW (ae aW (ae aW (ae aW (ae aW ah)))))))))) ah)))
   (ak (cH (fE (af 1) (gQ (ae aW (ae aW (ae aW (ae aW (ae aW (ae aW (ae aW (ae aW (ae aW ah))))))))))))
   (ak (cH (fE (af 1) (gQ (ae aW (ae aW (ae aW (ae aW (ae aW (ae aW (ae aW (ae aW (ae aW ah))))))))))))
   (aw (dX (cf (aL aM (af 1) (qd G0 hr (ae (af 0) (ae ao ah))) (fun _ _=>rfl)) dv (bV (aL aM (gQ (ae ao (ae ao (ae ao (ae ao (ae ao (ae ao (ae ao (ae ao ah))))))))) (qd G0 hr (ae (af 0) (ae ao ah))) (fun _ _=>rfl))))))))),fun ds M R _ hS bk=>?_⟩)
 obtain⟨p,l,rfl,hM,hP,k⟩:=hS;refine bk ?_;clear bk;walk_at "rd";refine⟨sz3 9,sz3 1,fun q hq=>⟨sz3 9,sz3 2,sz3 9,sz3 3,?_⟩⟩;have hpq:p≠q:=by rintro rfl;rw[hM]at hq;cases hq
 refine⟨p,l,3,rfl,by rw[aq hpq];exact hM,hP,by lia,by lia,fun v l1 h0 h1 hP1=>?_⟩;obtain⟨ws,hw1,hw3⟩:=pK h0 h1;refine⟨D.lst (ws.map D.str),?_,sz3 8,?_⟩
 ·rw[e7 (show(av (av M q _) p (HD.lst l1)) q=some (.lst _)from by rw[aq (Ne.symm hpq),ai])];exact hw3
 refine⟨p,l1,8,rfl,ai,hP1,by lia,by lia,fun v2 l2 h2 h3 hP2=>?_⟩;obtain⟨n,hn1,hn2,hn3⟩:=wJ h2 h3;refine⟨_,hn3,_,rfl,_,Bk,_,?_,k (ws.take n) l2 ?_ ?_ hP2⟩
 ·rw[aD,cT (Ne.symm hpq)];exact ff (by rw[aq (Ne.symm hpq)];exact hq)
 ·intro e;have hh:(ws.take n).length=0:=by rw[e];rfl
  rw[List.length_take]at hh
  lia
 ·simp;lia
def nh:SpD:=fun ds M R=>∃(p:Addr) (l:List D) (bM:List Str),ds=[.ref p,.lst (bM.map .str)]/\M p=some (.lst l)/\bR l/\bM≠[]/\bM.length<=9 /\
 ∀(ord:List (Str×Str)) l',ord.length<=8->(∀x∈ord,x.1∈bM/\x.2∈bM)->bR l'->R (.tup (ord.map aA)) (av M p (.lst l'))
theorem rg(F:Fun K "_law_order" "_law_order" gu f fd) (T:Txt mg) (G0:FnD P w K mg base "_law_take" 1 2 eP):bg P w K mg base CX0 2 f fd ["_law_pack_here","_law_marks_here"] (spD K 2 nh):=by
 have nd:=k9.nd;refine F.okR rfl k9 (fun cdv A outer s H E hr=>⟨_,(ak (aI (i:=2) nd rfl (Or.inl rfl) (dn ah))
   (ak (dP PassesOwn.never rfl (cJ rfl T.b_range (ae (qd G0 hr (ae (af 0) (ae ao ah))) ah)) (bu (i:=3) nd rfl (Or.inl rfl)) (aw (cH (fE (af 2) (aZ (ae (aL aM (af 1) (qd G0 hr (ae (af 0) (ae (aH bS rfl T.b_len (by kernel_rfl) (ae (af 1) ah)) ah))) (fun _ _=>rfl)) (ae (aL aM (af 1) (qd G0 hr (ae (af 0) (ae (aH bS rfl T.b_len (by kernel_rfl) (ae (af 1) ah)) ah))) (fun _ _=>rfl)) ah)))))))
   (ak (bN (aN (jR hr.units) (qd G0 hr (ae (af 0) (ae ao ah))) ao nbh) (ak (pF (i:=2) nd rfl rfl rfl (ms:=[false,true,false,false,false]) (aj:=[]) (aK rfl (show aQ (am gu) jo _ _=true from by decide +kernel)) rfl (cJ rfl T.b_range (ae (aP fH (aH bS rfl T.b_len (by kernel_rfl) (ae (af 1) ah)) ao) ah)) (aC (i:=3) (show(jo++_).Nodup from by decide +kernel) rfl rfl) (fun _ _ _ _=>fC) (fun _ _ _ _=>(aZ (ae (aL aM (af 1) (af 3) (fun _ _=>rfl)) (ae (aL aM (af 1) (aP aS (af 3) ao) (fun _ _=>rfl)) ah)))))
   (ak (aI (i:=4) nd rfl (Or.inl rfl) (qd G0 hr (ae (af 0) (ae (aH bS rfl T.b_len (by kernel_rfl) (ae (af 1) ah)) ah))))
   (aw (aI (i:=2) nd rfl (Or.inl rfl) (Ce (cf (af 2) (bV (af 4)) dv) (cf (af 2) dv (bV (af 4)))))))) bp)
   (aw (dX (cj cX rfl T.b_tuple (by kernel_rfl) (ae (af 2) ah))))))),fun ds M R _ hS bk=>?_⟩)
 obtain⟨p,l,bM,rfl,hM,hP,hm,hml,k⟩:=hS;refine bk ?_;clear bk;walk_at "rd";refine⟨sz3 0,fun q hq=>?_⟩;have hpq:p≠q:=by rintro rfl;rw[hM]at hq;cases hq
 refine⟨p,l,6,rfl,by rw[aq hpq];exact hM,hP,by lia,by lia,fun v l1 h2 h3 hP1=>?_⟩;refine⟨v,rfl,by lia,by lia,?_⟩;have hmp:=List.length_pos_iff.mpr hm;refine a7 (fun i Δ M'=>∃(x3 x4:Option D) (l2:List D) (ord:List (Str×Str)),Δ=[some (D.ref p),some (D.lst (bM.map D.str)),some (D.ref q),x3,x4]/\M'=av (av M p (.lst l2)) q (.lst (ord.map aA))/\bR l2/\ord.length=i/\∀x∈ord,x.1∈bM/\x.2∈bM)
  ⟨_,_,l1,[],rfl,cT (Ne.symm hpq),hP1,rfl,fun x hx=>absurd hx (by simp)⟩ ?_ ?_
 ·rintro i d Δ M' X hd ⟨x3,x4,l2,ord,rfl,rfl,hP2,hol,ho⟩ k';have hi:i<6:=by have:=(cF hd).1;lia
  simp only[bL];walk_at "rd";rw[List.length_map];refine⟨p,l2,_,rfl,by rw[aq hpq,ai],hP2,by lia,by lia,fun v1 l3 a0 a1 hP3=>?_⟩;obtain⟨m1,hm1,e1⟩:=c9 a0 a1;refine⟨_,e1,?_⟩;refine⟨p,l3,_,rfl,ai,hP3,by lia,by lia,fun v2 l4 b0 b1 hP4=>?_⟩;obtain⟨m2,hm2,e2⟩:=c9 b0 b1;refine⟨_,e2,sz3 2,?_⟩;have em:av (av (av (av M p (.lst l2)) q (.lst (ord.map aA))) p (.lst l3)) p (.lst l4)=av (av M p (.lst l4)) q (.lst (ord.map aA)):=by
   rw[aD,<-cT hpq,aD]
  rw[em];refine⟨_,ai,by rw[List.length_map];exact Nat.lt_of_lt_of_le (by lia:ord.length<1000) (sz3 1000),?_⟩;rw[aD];refine k' _ _ ⟨_,_,l4,ord++[(m1,m2)],rfl,by simp[aA],hP4,by simp;lia,fun x hx=>?_⟩;rcases List.mem_append.mp hx with h|h
  ·exact ho x h
  ·have:x=(m1,m2):=by simpa using h
   subst this;exact⟨hm1,hm2⟩
 ·rintro Δ M' ⟨x3,x4,l2,ord,rfl,rfl,hP2,hol,ho⟩;rw[c8]at hol;walk_at "rd";refine⟨p,l2,4,rfl,by rw[aq hpq,ai],hP2,by lia,by lia,fun v1 l3 a0 a1 hP3=>?_⟩;have em:av (av (av M p (.lst l2)) q (.lst (ord.map aA))) p (.lst l3)=av (av M p (.lst l3)) q (.lst (ord.map aA)):=by
   rw[<-cT hpq,aD]
  rw[em];walk_at "rd";refine eJ (fun h=>?_) (fun h=>?_)
  ·rw[List.length_map];have hcn:((bM.length:Int)-1).toNat=bM.length-1:=by lia
   refine⟨by lia,by lia,by rw[c8];exact sz3 _ (by lia),?_⟩;refine lQ (fun i acc Δ M'=>∃(x:Option D) (ps:List (Str×Str)),Δ=[none,some (.lst (bM.map D.str)),none,x,none]/\M'=av (av M p (.lst l3)) q (.lst (ord.map aA))/\acc=ps.map aA/\ps.length=i/\∀x∈ps,x.1∈bM/\x.2∈bM) ⟨none,[],rfl,rfl,rfl,rfl,fun x hx=>absurd hx (by simp)⟩ ?_ ?_
   ·rintro i d acc Δ M' X hd ⟨x,ps,rfl,rfl,rfl,hpl,hp⟩ k';obtain⟨hi,rfl⟩:=cF hd;rw[hcn]at hi;obtain⟨m1,hm1,e1⟩:=c9 (bM:=bM) (v:=0+(i:Int)) (by lia) (by lia);obtain⟨m2,hm2,e2⟩:=c9 (bM:=bM) (v:=0+(i:Int)+1) (by lia) (by lia);refine⟨_,rfl,?_⟩;walk_at "rd";simp only[CH,if_true];refine⟨_,e1,_,e2,sz3 2,?_⟩;refine k' _ _ _ ⟨_,ps++[(m1,m2)],rfl,rfl,by simp[aA],by simp;lia,fun x hx=>?_⟩;rcases List.mem_append.mp hx with h|h
    ·exact hp x h
    ·have:x=(m1,m2):=by simpa using h
     subst this;exact⟨hm1,hm2⟩
   ·rintro acc Δ M' ⟨x,ps,rfl,rfl,rfl,hpl,hp⟩;rw[c8]at hpl;intro q2 hq2;have hq2p:p≠q2:=by rintro rfl;rw[aq hpq,ai]at hq2;cases hq2
    have hq2q:q2≠q:=by rintro rfl;rw[ai]at hq2;cases hq2
    have hMq2:M q2=none:=by rw[aq hq2q,aq (Ne.symm hq2p)]at hq2;exact hq2
    refine⟨p,l3,_,rfl,by rw[aq hq2p,aq hpq,ai],hP3,by lia,by lia,fun v2 l4 b0 b1 hP4=>?_⟩;have hrd:rdM (av (av (av (av M p (.lst l3)) q (.lst (ord.map aA))) q2 (.lst (ps.map aA))) p (.lst l4)) (D.ref q2)=.lst (ps.map aA):=e7 (by rw[aq (Ne.symm hq2p),ai]);obtain⟨n,rfl⟩:=Int.eq_ofNat_of_zero_le b0;refine⟨_,rfl,?_⟩;rw[hrd];refine⟨_,sC,_,rfl,_,sC,?_⟩;walk_at "rd";rw[rP,oU,<-List.map_take,<-List.map_drop];refine⟨by rw[List.length_map,List.length_map];exact sz3 _ (by simp;lia),fun q3 hq3=>?_⟩;have hle:LeM (av M p (.lst l4)) (av (av (av (av M p (.lst l3)) q (.lst (ord.map aA))) q2 (.lst (ps.map aA))) p (.lst l4)):=by
     intro a u e
     by_cases hap:a=p
     ·subst hap;rw[ai]at e ⊢;exact e
     ·rw[aq hap]at e ⊢;have h1:a≠q2:=by rintro rfl;rw[hMq2]at e;cases e
      have h2:a≠q:=by rintro rfl;rw[hq]at e;cases e
      rw[aq h1,aq h2,aq hap];exact e
    rw[<-List.map_append];refine⟨_,leU hle (hle.none hq3),k (ps.drop n++ps.take n) l4 (by simp;lia) (fun x hx=>?_) hP4⟩;rcases List.mem_append.mp hx with h|h
    ·exact hp x (List.mem_of_mem_drop h)
    ·exact hp x (List.mem_of_mem_take h)
  ·exact⟨_,ff (by rw[aq (Ne.symm hpq)];exact hq),k ord l3 (by lia) ho hP3⟩
def gn(ord:List (Str×Str)) (F:List Str):Prop:=∀p∈ord,p.1∈F->p.2∈F
def i6(ord:List (Str×Str)) (F:List Str):Nat:=(ord.filter fun p=>decide (p.2∈F)).length
theorem nq{F G:List Str}(h:∀x∈F,x∈G):∀{ord:List (Str×Str)},i6 ord F<=i6 ord G
 |[]=>Nat.le_refl _
 |p::ord=>by
  have ih:=nq h (ord:=ord);unfold i6 at ih ⊢
  by_cases h1:p.2∈F
  ·simp[List.filter_cons,h1,h _ h1];exact ih
  ·by_cases h2:p.2∈G
   ·simp[List.filter_cons,h1,h2];lia
   ·simp[List.filter_cons,h1,h2];exact ih
theorem tQ{F G:List Str}(h:∀x∈F,x∈G) {q:Str×Str}(h1:q.2∉F) (h2:q.2∈G):∀{ord:List (Str×Str)},q∈ord->i6 ord F<i6 ord G
 |p::ord,hm=>by
  have im:=nq h (ord:=ord);rcases List.mem_cons.mp hm with e|hm
  ·subst e;unfold i6 at im ⊢;simp[List.filter_cons,h1,h2];lia
  ·have ih:=tQ h h1 h2 hm;unfold i6 at im ih ⊢
   by_cases h3:p.2∈F
   ·simp[List.filter_cons,h3,h _ h3];exact ih
   ·by_cases h4:p.2∈G
    ·simp[List.filter_cons,h3,h4];lia
    ·simp[List.filter_cons,h3,h4];exact ih
theorem yn{ord:List (Str×Str)}{F:List Str}:i6 ord F<=ord.length:=List.length_filter_le _ _
theorem pN{F:List Str}:∀{ord:List (Str×Str)},ord.length<=i6 ord F->∀p∈ord,p.2∈F
 |p::ord,h,q,hq=>by
  have hl:=yn (ord:=ord) (F:=F);unfold i6 at h hl
  by_cases h3:p.2∈F
  ·rcases List.mem_cons.mp hq with e|hq
   ·subst e;exact h3
   ·refine pN (ord:=ord) ?_ q hq;unfold i6;simp[List.filter_cons,h3]at h;exact h
  ·simp[List.filter_cons,h3]at h
   lia
theorem uv{ord:List (Str×Str)}{F:List Str}(h:gn ord F∨ord.length<=i6 ord F):gn ord F:=by
 rcases h with h|h
 ·exact h
 ·exact fun p hp _=>pN h p hp
def nc:SpD:=fun ds M R=>∃(ord:List (Str×Str)) (a:Str),ds=[.tup (ord.map aA),.str a]/\ord.length<=500 /\
 ∀L:List Str,a∈L->gn ord L->(∀x∈L,bI ord a x)->R (.lst (L.map .str)) M
theorem qC(F:Fun K "_law_above" "_law_above" je f fd) (T:Txt mg) :bg P w K mg base CX0 1 f fd ["_law_order_here","_law_mark"] (spD K 2 nc):=by
 have nd:=kC.nd;refine F.okR rfl kC (fun cdv A outer s H E hr=>⟨_,(ak (aI (i:=2) nd rfl (Or.inl rfl) (dn (ae (af 1) ah)))
   (ak (dP PassesOwn.never rfl (cJ rfl T.b_range (ae (aP aS (aH bS rfl T.b_len (by kernel_rfl) (ae (af 0) ah)) ao) ah)) (bu (i:=3) nd rfl (Or.inl rfl)) (aw (dP PassesOwn.never rfl (bz (af 0)) (mL rfl (dh (bu (i:=4) nd rfl (Or.inl rfl)) (dh (bu (i:=5) nd rfl (Or.inl rfl)) nj))) (aw (bN (qR (gU (aN qo (af 4) (af 2) rfl) (gz (aN o9 (af 5) (af 2) rfl)))) (aw (cH (fE (af 2) (af 5)))) bp)))))
   (aw (vE (af 2))))),fun ds M R _ hS bk=>?_⟩)
 obtain⟨ord,a,rfl,ho,k⟩:=hS;refine bk ?_;clear bk;walk_at "rd";rw[List.length_map];refine⟨sz3 1,fun q hq=>⟨by lia,by lia,?_⟩⟩;refine a7 (fun i Δ M'=>∃(x3 x4 x5:Option D) (L:List Str),Δ=[some (D.tup (ord.map aA)),some (D.str a),some (D.ref q),x3,x4,x5]/\M'=av M q (.lst (L.map .str))/\a∈L/\L.Nodup/\(∀x∈L,bI ord a x)/\(∀x∈L,x∈a::ord.map (·.2))/\(gn ord L∨i<=i6 ord L))
  ⟨_,_,_,[a],rfl,rfl,by simp,by simp,fun x hx=>by rw[List.mem_singleton.mp hx];exact bI.refl,fun x hx=>by rw[List.mem_singleton.mp hx];simp,.inr (Nat.zero_le _)⟩ ?_ ?_
 ·rintro i d Δ M' X hd ⟨x3,x4,x5,L0,rfl,rfl,ha,hn,hs,hb,hC⟩ k';simp only[bL];walk_at "rd";intro hz;refine a7 (fun j Δ M'=>∃(x4 x5:Option D) (L:List Str),Δ=[some (D.tup (ord.map aA)),some (D.str a),some (D.ref q),some d,x4,x5]/\M'=av M q (.lst (L.map .str))/\(∀x∈L0,x∈L)/\L.Nodup/\(∀x∈L,bI ord a x)/\(∀x∈L,x∈a::ord.map (·.2))/\(∀n y,n<j->ord[n]?=some y->y.1∈L0->y.2∈L)/\(gn ord L0->L=L0))
   ⟨_,_,L0,rfl,rfl,fun _ h=>h,hn,hs,hb,fun n y h=>absurd h (by lia),fun _=>rfl⟩ ?_ ?_
  ·rintro j d2 Δ M' X2 hd2 ⟨y4,y5,L,rfl,rfl,hsub,hn2,hs2,hb2,hd',hc⟩ k2;obtain⟨⟨b,c⟩,hbc,rfl⟩:=iy hd2;have hmem:(b,c)∈ord:=List.mem_of_getElem? hbc;have bP:L.length<=ord.length+1:=by
    have:=eX L (a::ord.map (·.2)) hn2 hb2;simpa using this
   simp only[aA,jF,fo,bL,mI,Option.bind_some];refine⟨_,rfl,?_⟩;walk_at "rd";refine⟨_,if_pos ⟨rfl,dJ⟩,_,rfl,?_⟩;rw[da];simp only[Bool.false_xor]
   by_cases hbL:b∈L
   ·simp only[hbL,decide_true,if_true];refine⟨_,if_pos ⟨rfl,dJ⟩,_,rfl,?_⟩;rw[da]
    by_cases hcL:c∈L
    ·simp only[hcL,decide_true,Bool.xor_true,Bool.not_true,Bool.false_eq_true,if_false];refine k2 _ _ ⟨_,_,L,rfl,rfl,hsub,hn2,hs2,hb2,fun n y hnj hy hy0=>?_,hc⟩
     by_cases hnj':n<j
     ·exact hd' n y hnj' hy hy0
     ·have:n=j:=by lia
      subst this;rw[hbc]at hy;cases hy;exact hcL
    ·simp only[hcL,decide_false,Bool.xor_false,if_true];refine⟨by rw[List.length_map];exact Nat.lt_of_lt_of_le (by lia:L.length<1000) (sz3 1000),?_⟩;have ea:L.map D.str++[D.str c]=(L++[c]).map D.str:=by simp
     rw[ea];refine k2 _ _ ⟨_,_,L++[c],rfl,rfl,fun x hx=>List.mem_append_left _ (hsub x hx),?_,fun x hx=>?_,fun x hx=>?_,fun n y hnj hy hy0=>?_,fun hcl=>?_⟩
     ·rw[List.nodup_append];refine⟨hn2,by simp,fun u hu v hv=>?_⟩;have:v=c:=by simpa using hv
      subst this;rintro rfl;exact hcL hu
     ·rcases List.mem_append.mp hx with h|h
      ·exact hs2 x h
      ·have:x=c:=by simpa using h
       subst this;exact bI.step (hs2 b hbL) hmem
     ·rcases List.mem_append.mp hx with h|h
      ·exact hb2 x h
      ·have:x=c:=by simpa using h
       subst this;exact List.mem_cons_of_mem _ (List.mem_map.mpr ⟨_,hmem,rfl⟩)
     ·by_cases hnj':n<j
      ·exact List.mem_append_left _ (hd' n y hnj' hy hy0)
      ·have:n=j:=by lia
       subst this;rw[hbc]at hy;cases hy;simp
     ·have e:=hc hcl;rw[e]at hbL hcL;exact absurd (hcl _ hmem hbL) hcL
   ·simp only[hbL,decide_false,Bool.false_eq_true,if_false];refine k2 _ _ ⟨_,_,L,rfl,rfl,hsub,hn2,hs2,hb2,fun n y hnj hy hy0=>?_,hc⟩
    by_cases hnj':n<j
    ·exact hd' n y hnj' hy hy0
    ·have:n=j:=by lia
     subst this;rw[hbc]at hy;cases hy;exact absurd (hsub _ hy0) hbL
  ·rintro Δ M' ⟨y4,y5,L,rfl,rfl,hsub,hn2,hs2,hb2,hd',hc⟩;refine k' _ _ ⟨_,_,_,L,rfl,rfl,hsub a ha,hn2,hs2,hb2,?_⟩
   by_cases hcl:gn ord L0
   ·rw[hc hcl];exact .inl hcl
   ·right;have hk:=hC.resolve_left hcl;have:∃p∈ord,p.1∈L0/\p.2∉L0:=Classical.byContradiction fun hn=>hcl fun p hp h1=>Classical.byContradiction fun h2=>hn ⟨p,hp,h1,h2⟩;obtain⟨p,hp,h1,h2⟩:=this;obtain⟨n,hn',en⟩:=List.mem_iff_getElem.mp hp;have hin:p.2∈L:=hd' n p (by rw[List.length_map];exact hn') (by rw[List.getElem?_eq_getElem hn',en]) h1;have:=tQ hsub h2 hin hp
    lia
 ·rintro Δ M' ⟨x3,x4,x5,L,rfl,rfl,ha,hn,hs,hb,hC⟩;have hC':gn ord L:=uv (by rw[c8]at hC;rcases hC with h|h;exact .inl h;right;lia);walk_at "rd";rw[kS hq];exact k L ha hC' hs
def eO:SpD:=fun ds M R=>∃(ord:List (Str×Str)) (x y:Str×Int),ds=[.tup (ord.map aA),au x,au y]/\ord.length<=500/\R (.bl (x.2==y.2&&lB ord x.2 x.1 y.1)) M
def jD:SpD:=fun ds M R=>∃(ord:List (Str×Str)) (x y:Str×Int),ds=[.tup (ord.map aA),au x,au y]/\ord.length<=500/\∀b,R (.bl b) M
theorem pR{ord:List (Str×Str)}{a b:Str}{L:List Str}(h1:a∈L) (h2:gn ord L) (h3:∀x∈L,bI ord a x):(false ^^ decide (b∈L))=rB ord a b:=by
 rw[Bool.false_xor,Bool.eq_iff_iff,og,decide_eq_true_eq];exact⟨fun h=>h3 b h,fun h=>pW h1 h2 h⟩
theorem rS(F:Fun K "_law_leads" "_law_leads" ja f fd) (T:Txt mg) (ga2:FnD P w K mg base "_law_above" 1 2 nc):bg P w K mg base CX0 2 f fd ["_law_order_here","_law_one","_law_other"] (spD K 3 eO):=by
 have nd:=lV.nd;refine F.okR rfl lV (fun cdv A outer s H E hr=>⟨_,(ak (bN (aN (nJ hr.units) (aL aM (af 1) ao (fun _ _=>rfl)) (aL aM (af 2) ao (fun _ _=>rfl)) nbh) (aw (aU n9)) bp)
   (ak (bN (aN (jR hr.units) (aP tV (aL aM (af 1) ao (fun _ _=>rfl)) ao) ao nbh) (aw (aU (lE qo (aL aM (af 2) ao (fun _ _=>rfl)) (qd ga2 hr (ae (af 0) (ae (aL aM (af 1) ao (fun _ _=>rfl)) ah))) rfl))) bp)
   (aw (aU (lE qo (aL aM (af 1) ao (fun _ _=>rfl)) (qd ga2 hr (ae (af 0) (ae (aL aM (af 2) ao (fun _ _=>rfl)) ah))) rfl))))),fun ds M R _ hS bk=>?_⟩)
 obtain⟨ord,⟨a,t⟩,⟨b,u⟩,rfl,ho,k⟩:=hS;refine bk ?_;clear bk;simp only[au];walk_at "rd";refine eJ (fun h=>?_) (fun h=>?_)
 ·have h':(t==u)=false:=by simpa using h
  rw[h',Bool.false_and]at k;exact k
 ·have h':(t==u)=true:=by simpa using h
  rw[h',Bool.true_and]at k;refine eJ (fun h2=>?_) (fun h2=>?_)
  ·rw[sW (by simpa using h2)]at k;refine⟨ord,a,rfl,ho,fun L g1 g2 g3=>?_⟩;walk_at "rd";refine⟨_,if_pos ⟨rfl,dJ⟩,?_⟩;rw[da,pR g1 g2 g3];exact k
  ·rw[vP (by simpa using h2)]at k;refine⟨ord,b,rfl,ho,fun L g1 g2 g3=>?_⟩;walk_at "rd";refine⟨_,if_pos ⟨rfl,dJ⟩,?_⟩;rw[da,pR g1 g2 g3];exact k
theorem nP(F:Fun K "_law_cancels" "_law_cancels" gm f fd) (T:Txt mg) (G7:FnD P w K mg base "_law_leads" 2 3 eO):bg P w K mg base CX0 3 f fd ["_law_order_here","_law_one","_law_other"] (spD K 3 jD):=by
 have nd:=ic.nd;refine F.okR rfl ic (fun cdv A outer s H E hr=>⟨_,(aw (aU (zN (lE (jR hr.units) (aL aM (af 2) ao (fun _ _=>rfl)) (aP aS (aL aM (af 1) ao (fun _ _=>rfl)) ao) nbh) (zU (qd G7 hr (ae (af 0) (ae (af 1) (ae (aZ (ae (aL aM (af 2) ao (fun _ _=>rfl)) (ae (aL aM (af 1) ao (fun _ _=>rfl)) ah))) ah)))))))),fun ds M R _ hS bk=>?_⟩);obtain⟨ord,⟨a,t⟩,⟨b,u⟩,rfl,ho,k⟩:=hS;refine bk ?_;clear bk;simp only[au];walk_at "rd";exact eJ (fun h=>⟨sz3 2,ord,(a,t),(b,t),rfl,ho,k _⟩) (fun h=>k _)
def tS:SpD:=fun ds M R=>∃(p:Addr) (l:List D) (ws:List Str) (n t:Int),ds=[.ref p,.lst (ws.map .str),.int n,.int t]/\M p=some (.lst l)/\bR l/\ws≠[]/\ws.length<=9/\0<=n/\n<=100/\0<=t/\t<=50 /\
 ∀(row:List (Str×Int)) l',row.length=n.toNat->(∀x∈row,x.1∈ws)->bR l'->R (.tup (row.map au)) (av M p (.lst l'))
theorem xg(F:Fun K "_law_row" "_law_row" nM f fd) (T:Txt mg) (G0:FnD P w K mg base "_law_take" 1 2 eP):bg P w K mg base CX0 2 f fd ["_law_pack_here","_law_marks_here","_law_size","_law_turns"] (spD K 4 tS):=by
 have nd:=pI.nd;refine F.okR rfl pI (fun cdv A outer s H E hr=>⟨_,(ak (aI (i:=4) nd rfl (Or.inl rfl) (dn ah))
   (ak (dP PassesOwn.never rfl (cJ rfl T.b_range (ae (af 2) ah)) (bu (i:=5) nd rfl (Or.inl rfl)) (ak (aI (i:=6) nd rfl (Or.inl rfl) (aL aM (af 1) (qd G0 hr (ae (af 0) (ae (aH bS rfl T.b_len (by kernel_rfl) (ae (af 1) ah)) ah))) (fun _ _=>rfl)))
   (aw (cH (fE (af 4) (aZ (ae (af 6) (ae (aP fH (qd G0 hr (ae (af 0) (ae (aP aS (aP vd ao (af 3)) ao) ah))) (af 3)) ah))))))))
   (aw (dX (cj cX rfl T.b_tuple (by kernel_rfl) (ae (af 4) ah)))))),fun ds M R _ hS bk=>?_⟩)
 obtain⟨p,l,ws,n,t,rfl,hM,hP,hw,hwl,h0,h1,t0,t1,k⟩:=hS;refine bk ?_;clear bk;walk_at "rd";refine⟨sz3 0,fun q hq=>⟨by lia,by lia,?_⟩⟩;have hpq:p≠q:=by rintro rfl;rw[hM]at hq;cases hq
 have hwp:=List.length_pos_iff.mpr hw;refine a7 (fun i Δ M'=>∃(x5 x6:Option D) (l2:List D) (row:List (Str×Int)),Δ=[some (D.ref p),some (D.lst (ws.map D.str)),some (D.int n),some (D.int t),some (D.ref q),x5,x6]/\M'=av (av M p (.lst l2)) q (.lst (row.map au))/\bR l2/\row.length=i/\∀x∈row,x.1∈ws)
  ⟨_,_,l,[],rfl,?_,hP,rfl,fun x hx=>absurd hx (by simp)⟩ ?_ ?_
 ·funext a
  by_cases ha:a=q
  ·subst ha;rw[ai,ai];rfl
  ·rw[aq ha,aq ha]
   by_cases hb:a=p
   ·subst hb;rw[ai];exact hM
   ·rw[aq hb]
 ·rintro i d Δ M' X hd ⟨x5,x6,l2,row,rfl,rfl,hP2,hol,ho⟩ k';have hi:i<100:=by have:=(cF hd).1;lia
  simp only[bL];walk_at "rd";rw[List.length_map];refine⟨p,l2,_,rfl,by rw[aq hpq,ai],hP2,by lia,by lia,fun v1 l3 a0 a1 hP3=>?_⟩;obtain⟨m1,hm1,e1⟩:=c9 a0 a1;refine⟨_,e1,?_⟩;have em1:av (av (av M p (.lst l2)) q (.lst (row.map au))) p (.lst l3)=av (av M p (.lst l3)) q (.lst (row.map au)):=by
   rw[<-cT hpq,aD]
  rw[em1];refine⟨_,ai,?_⟩;refine⟨p,l3,_,rfl,by rw[aq hpq,ai],hP3,by lia,by lia,fun v2 l4 b0 b1 hP4=>?_⟩;walk_at "rd";have em:av (av (av M p (.lst l3)) q (.lst (row.map au))) p (.lst l4)=av (av M p (.lst l4)) q (.lst (row.map au)):=by
   rw[<-cT hpq,aD]
  rw[em];refine⟨sz3 2,_,ai,by rw[List.length_map];exact Nat.lt_of_lt_of_le (by lia:row.length<1000) (sz3 1000),?_⟩;rw[aD];refine k' _ _ ⟨_,_,l4,row++[(m1,v2-t)],rfl,by simp[au],hP4,by simp;lia,fun x hx=>?_⟩;rcases List.mem_append.mp hx with h|h
  ·exact ho x h
  ·have:x=(m1,v2-t):=by simpa using h
   subst this;exact hm1
 ·rintro Δ M' ⟨x5,x6,l2,row,rfl,rfl,hP2,hol,ho⟩;rw[c8]at hol;walk_at "rd";exact⟨_,ff (by rw[aq (Ne.symm hpq)];exact hq),k row l2 hol ho hP2⟩
inductive Stp
 |can (k:Nat)
 |ord (k:Nat) (m:Str)
 |gro (k:Nat) (x y:Str×Int)
def qh:Stp->D
 |.can k=>.tup [.str "cancel",.int k]
 |.ord k m=>.tup [.str "order",.int k,.str m]
 |.gro k x y=>.tup [.str "grow",.int k,au x,au y]
def fJ(row:List (Str×Int)):Stp->List (Str×Int)
 |.can k=>row.take k++row.drop (k+2)
 |.ord k m=>row.take k++[(m,(row.getD k ("",0)).2)]++row.drop (k+1)
 |.gro k x y=>row.take k++[x,y]++row.drop k
def xm(row:List (Str×Int)):Stp->Prop
 |.can k=>k+1<row.length
 |.ord k _=>k<row.length
 |.gro k _ _=>k<=row.length
theorem Ey:((Str.ofString "cancel")==(Str.ofString "cancel"))=true:=by decide +kernel
theorem EX:¬ ((Str.ofString "order")==(Str.ofString "cancel"))=true:=by decide +kernel
theorem Er:((Str.ofString "order")==(Str.ofString "order"))=true:=by decide +kernel
theorem Em:¬ ((Str.ofString "grow")==(Str.ofString "cancel"))=true:=by decide +kernel
theorem E8:¬ ((Str.ofString "grow")==(Str.ofString "order"))=true:=by decide +kernel
theorem uY{row:List (Str×Int)}{i:Nat}:L2.du (row.map au) none (some (i:Int))=(row.take i).map au:=by rw[rP,List.map_take]
theorem rV{row:List (Str×Int)}{i:Nat}:L2.du (row.map au) (some (i:Int)) none=(row.drop i).map au:=by rw[oU,List.map_drop]
theorem Ct{row:List (Str×Int)}{i:Nat}:L2.du (row.map au) (some ((i:Int)+1)) none=(row.drop (i+1)).map au:=by
 rw[show(i:Int)+1=((i+1:Nat):Int)by lia,rV]
theorem BL{row:List (Str×Int)}{i:Nat}:L2.du (row.map au) (some ((i:Int)+2)) none=(row.drop (i+2)).map au:=by
 rw[show(i:Int)+2=((i+2:Nat):Int)by lia,rV]
theorem n5{row:List (Str×Int)}{i:Nat}{x:Str×Int}(h:row[i]?=some x):atI (row.map au) (i:Int)=some (au x):=dw (by rw[List.getElem?_map,h];rfl)
def pH:SpD:=fun ds M R=>∃(row:List (Str×Int)) (st:Stp),ds=[.tup (row.map au),qh st]/\xm row st/\row.length<=500/\R (.tup ((fJ row st).map au)) M
theorem uA(F:Fun K "_law_done" "_law_done" lG f fd) (T:Txt mg) :bg P w K mg base CX0 1 f fd ["_law_row_here","_law_step_here"] (spD K 2 pH):=by
 have nd:=ng.nd;refine F.okR rfl ng (fun cdv A outer s H E hr=>⟨_,(ak (aI (i:=2) nd rfl (Or.inl rfl) (aL aM (af 1) ao (fun _ _=>rfl)))
   (ak (bN (aN (jR hr.units) (aL aM (af 1) ao (fun _ _=>rfl)) aW nbh) (bt (aw (aU (aP aS (cf (af 0) dv (bV (af 2))) (cf (af 0) (bV (aP aS (af 2) ao)) dv))))) bp)
   (bt (ak (bN (aN (jR hr.units) (aL aM (af 1) ao (fun _ _=>rfl)) aW nbh) (bt (aw (aU (aP aS (aP aS (cf (af 0) dv (bV (af 2))) (aZ (ae (aZ (ae (aL aM (af 1) ao (fun _ _=>rfl)) (ae (aL aM (aL aM (af 0) (af 2) (fun _ _=>rfl)) ao (fun _ _=>rfl)) ah))) ah))) (cf (af 0) (bV (aP aS (af 2) ao)) dv))))) bp)
   (bt (aw (aU (aP aS (aP aS (cf (af 0) dv (bV (af 2))) (aZ (ae (aL aM (af 1) ao (fun _ _=>rfl)) (ae (aL aM (af 1) ao (fun _ _=>rfl)) ah)))) (cf (af 0) (bV (af 2)) dv))))))))),fun ds M R _ hS bk=>?_⟩)
 obtain⟨row,st,rfl,hok,hl,k⟩:=hS;refine bk ?_;clear bk;cases st with
 |can i =>
  simp only[qh];walk_at "rd";rw[if_pos Ey];refine aG ?_;walk_at "rd";rw[uY,BL];refine⟨_,if_pos (sz3 _ (by simp;lia)),?_⟩;rw[<-List.map_append];exact k
 |ord i m =>
  obtain⟨x,hx⟩:∃x,row[i]?=some x:=⟨_,List.getElem?_eq_getElem hok⟩;have e:(row.getD i ("",0)).2=x.2:=by rw[List.getD_eq_getElem?_getD,hx];rfl
  simp only[qh];walk_at "rd";rw[if_neg EX];refine aG ?_;walk_at "rd";rw[if_pos Er];refine aG ?_;walk_at "rd";rw[uY,Ct];refine⟨_,n5 hx,.int x.2,rfl,sz3 2,sz3 1,_,if_pos (sz3 _ (by simp;lia)),_,(if_pos (sz3 _ (by simp;lia)):jX (D.tup ((row.take i).map au++[D.tup [D.str m,D.int x.2]])) (D.tup ((row.drop (i+1)).map au))=_),?_⟩;simp only[fJ,e,List.map_append,List.map_cons,List.map_nil,au]at k;exact k
 |gro i x y =>
  have hi:i<=row.length:=hok;simp only[qh,au];walk_at "rd";rw[if_neg Em];refine aG ?_;walk_at "rd";rw[if_neg E8];refine aG ?_;walk_at "rd";simp only[<-au.eq_1]at *
  rw[uY,rV];refine⟨au y,rfl,sz3 2,_,if_pos (sz3 _ (by simp;lia)),_,(if_pos (sz3 _ (by simp;lia)):jX (D.tup ((row.take i).map au++[au x,au y])) (D.tup ((row.drop i).map au))=_),?_⟩;simp only[fJ,List.map_append,List.map_cons,List.map_nil]at k;exact k
theorem xD{x y:Str×Int}:eqD (au x) (au y)=decide (x=y):=by
 obtain⟨a,t⟩:=x;obtain⟨b,u⟩:=y;rw[Bool.eq_iff_iff];simp[au,eqD,dD]
theorem lU:∀{r1 r2:List (Str×Int)},dD (r1.map au) (r2.map au)=decide (r1=r2)
 |[],[]=>by simp[dD]
 |[],_::_=>by simp[dD]
 |_::_,[]=>by simp[dD]
 |x::r1,y::r2=>by
  rw[List.map_cons,List.map_cons,dD,lU (r1:=r1) (r2:=r2),xD];simp
theorem kY{r:List (Str×Int)}:cM (r.map au) 59=true:=by
 rw[iE];intro d hd;obtain⟨x,_,rfl⟩:=List.mem_map.mp hd;rfl
theorem neR{r1 r2:List (Str×Int)}:neF (.tup (r1.map au)) (.tup (r2.map au))=some (.bl (!decide (r1=r2))):=by
 have h1:dLe (.tup (r1.map au)) 60=true:=kY;have h2:dLe (.tup (r2.map au)) 60=true:=kY;simp only[neF,h1,h2,and_self,if_true,eqD,lU]
theorem Cv{ns:List Int}:neF (.lst (ns.map D.int)) (.lst [])=some (.bl (!decide (ns=[]))):=by
 have h0:∀n,cM ([]:List D) n=true:=fun n=>rfl;have h1:cM (ns.map D.int) 59=true:=by
  rw[iE];intro d hd;obtain⟨x,_,rfl⟩:=List.mem_map.mp hd;rfl
 have h2:dLe (.lst (ns.map D.int)) 60=true:=h1;have h3:dLe (.lst []) 60=true:=rfl;simp only[neF,h2,h3,and_self,if_true,eqD];cases ns with
 |nil=>rfl
 |cons a r=>simp[dD]
theorem uq{o:List (Str×Str)}{x:Str×Int}{ws:List Str}{M:DH}{Q:List D->DH->Prop}(ho:o.length<=500) (h:Q ((ws.filter fun m=>lB o x.2 x.1 m).map D.str) M) :
  cx (bL 12) (oa (kW 3 eO (ef (eG 1) (ef (eG 8) (ef (yE (ef (eG 12) (ef (dOp ixD (eG 8) (dC (D.int 1))) qI))) qI))))) (eG 12) (ws.map D.str) [none,some (.tup (o.map aA)),none,none,none,none,none,none,some (au x),none,none,none,none] M [] Q:=by
 refine fm (fun d=>match d with|.str m=>lB o x.2 x.1 m|_=>false) (fun d=>d) (fun Δ=>∃z,Δ=[none,some (.tup (o.map aA)),none,none,none,none,none,none,some (au x),none,none,none,z]) _ _ _ (fun d hd Δ hΔ=>?_) ⟨none,rfl⟩ ?_
 ·obtain⟨z,rfl⟩:=hΔ;obtain⟨m,_,rfl⟩:=List.mem_map.mp hd;refine⟨_,rfl,⟨_,rfl⟩,fun Q1 q=>?_,fun _ Q2 q=>?_⟩
  ·simp only[au];walk_at "rd";refine⟨sz3 2,o,x,(m,x.2),rfl,ho,?_⟩;simpa using q
  ·walk_at "rd";exact q
 ·rw[List.nil_append,List.map_id',List.filter_map];exact h
theorem qO{o:List (Str×Str)}{x:Str×Int}{ws:List Str}{M:DH}{Q:List D->DH->Prop}(ho:o.length<=500) (h:Q ((ws.filter fun m=>lB o x.2 x.1 m).map D.str) M) :
  cx (bL 12) (oa (kW 3 eO (ef (eG 1) (ef (eG 10) (ef (yE (ef (eG 12) (ef (dOp ixD (eG 10) (dC (D.int 1))) qI))) qI))))) (eG 12) (ws.map D.str) [none,some (.tup (o.map aA)),none,none,none,none,none,none,none,none,some (au x),none,none] M [] Q:=by
 refine fm (fun d=>match d with|.str m=>lB o x.2 x.1 m|_=>false) (fun d=>d) (fun Δ=>∃z,Δ=[none,some (.tup (o.map aA)),none,none,none,none,none,none,none,none,some (au x),none,z]) _ _ _ (fun d hd Δ hΔ=>?_) ⟨none,rfl⟩ ?_
 ·obtain⟨z,rfl⟩:=hΔ;obtain⟨m,_,rfl⟩:=List.mem_map.mp hd;refine⟨_,rfl,⟨_,rfl⟩,fun Q1 q=>?_,fun _ Q2 q=>?_⟩
  ·simp only[au];walk_at "rd";refine⟨sz3 2,o,x,(m,x.2),rfl,ho,?_⟩;simpa using q
  ·walk_at "rd";exact q
 ·rw[List.nil_append,List.map_id',List.filter_map];exact h
def RW(ws:List Str) (row:List (Str×Int)):Prop:=∀x∈row,x.1∈ws
def pA:SpD:=fun ds M R=>∃(p:Addr) (l:List D) (o:List (Str×Str)) (ws:List Str) (row:List (Str×Int)) (most:Int),ds=[.ref p,.tup (o.map aA),.lst (ws.map .str),.tup (row.map au),.int most]/\M p=some (.lst l)/\bR l/\o.length<=500/\ws≠[]/\ws.length<=9/\RW ws row/\(row.length:Int)<=most/\2<=most/\most<=50 /\
 ∀(st:Stp) l',xm row st->RW ws (fJ row st)->((fJ row st).length:Int)<=most->bR l'->R (qh st) (av M p (.lst l'))
theorem CK{a:Prop} [Decidable a] {P Y:Prop}(h2:Y) (h1:a->Y->P):if a then P else Y:=by
 by_cases h:a
 ·rw[if_pos h];exact h1 h h2
 ·rw[if_neg h];exact h2
theorem zI{a c r:Prop} [Decidable a] [Decidable c] {O G P:Prop}(hc:c->r) (hO:r->O) (hG:¬ c->G) (hP:(r->O)->(if c then O else G)->P):if a then P else(if c then O else G):=by
 have hz:if c then O else G:=by
  by_cases h:c
  ·rw[if_pos h];exact hO (hc h)
  ·rw[if_neg h];exact hG h
 by_cases h:a
 ·rw[if_pos h];exact hP hO hz
 ·rw[if_neg h];exact hz
theorem uz(F:Fun K "_law_step" "_law_step" eN f fd) (T:Txt mg) (G0:FnD P w K mg base "_law_take" 1 2 eP) (ga3:FnD P w K mg base "_law_cancels" 3 3 jD) (G7:FnD P w K mg base "_law_leads" 2 3 eO):bg P w K mg base CX0 4 f fd ["_law_pack_here","_law_order_here","_law_marks_here","_law_row_here","_law_most"] (spD K 5 pA):=by
 have nd:=ni.nd;refine F.okR rfl ni (fun cdv A outer s H E hr=>⟨_,(ak (aI (i:=5) nd rfl (Or.inl rfl) (qd G0 hr (ae (af 0) (ae ao ah))))
   (ak (gE (i:=6) nd rfl rfl rfl (ms:=[false,true,false,true,false,false,false,false,false,false,false,false]) (aj:=["_law_k"]) (aK rfl (show aQ (am eN) dM _ _=true from by decide +kernel)) rfl (cJ rfl T.b_range (ae (aP fH (aH bS rfl T.b_len (by kernel_rfl) (ae (af 3) ah)) ao) ah)) (aC (i:=12) (show(dM++_).Nodup from by decide +kernel) rfl rfl) (fun _ _ _ _=>(dm (dI (qd ga3 hr (ae (af 1) (ae (aL aM (af 3) (af 12) (fun _ _=>rfl)) (ae (aL aM (af 3) (aP aS (af 12) ao) (fun _ _=>rfl)) ah))))))) (fun _ _ _ _=>(af 12)))
   (ak (bN (qR (gU (aN rX (af 5) ao nbh) (gz (aN (nJ hr.units) (af 6) (gQ ah) nbh)))) (bt (aw (aU (aZ (ae aW (ae (aL aM (af 6) (qd G0 hr (ae (af 0) (ae (aH bS rfl T.b_len (by kernel_rfl) (ae (af 6) ah)) ah))) (fun _ _=>rfl)) ah)))))) bp)
   (bt (ak (bN (qR (Dy (qR (gU (aN (jR hr.units) (af 5) ao nbh) (gz (aN (nJ hr.units) (af 3) (aZ ah) nbh)))) (Bu (aN um (aP aS (aH bS rfl T.b_len (by kernel_rfl) (ae (af 3) ah)) ao) (af 4) nbh)))) (bt (ak (aI (i:=7) nd rfl (Or.inl rfl) (qd G0 hr (ae (af 0) (ae (aH (Ec rfl) rfl T.b_max (by kernel_rfl) (ae ao (ae (aH bS rfl T.b_len (by kernel_rfl) (ae (af 3) ah)) ah))) ah))))
   (ak (aI (i:=8) nd rfl (Or.inr rfl) (aL aM (af 3) (af 7) (fun _ _=>rfl)))
   (ak (gE (i:=9) nd rfl rfl rfl (ms:=[false,true,false,false,false,false,false,false,true,false,false,false]) (aj:=["_law_mark"]) (aK rfl (show aQ (am eN) dM _ _=true from by decide +kernel)) rfl (bz (af 2)) (aC (i:=12) (show(dM++_).Nodup from by decide +kernel) rfl rfl) (fun _ _ _ _=>(dm (dI (qd G7 hr (ae (af 1) (ae (af 8) (ae (aZ (ae (af 12) (ae (aL aM (af 8) ao (fun _ _=>rfl)) ah))) ah))))))) (fun _ _ _ _=>(af 12)))
   (aw (aU (aZ (ae aW (ae (af 7) (ae (aL aM (af 9) (qd G0 hr (ae (af 0) (ae (aH bS rfl T.b_len (by kernel_rfl) (ae (af 9) ah)) ah))) (fun _ _=>rfl)) ah)))))))))) bp)
   (bt (ak (aI (i:=10) nd rfl (Or.inr rfl) (aZ (ae (aL aM (af 2) (qd G0 hr (ae (af 0) (ae (aH bS rfl T.b_len (by kernel_rfl) (ae (af 2) ah)) ah))) (fun _ _=>rfl)) (ae (aP fH (qd G0 hr (ae (af 0) (ae ao ah))) ao) ah))))
   (ak (gE (i:=9) nd rfl rfl rfl (ms:=[false,true,false,false,false,false,false,false,false,false,true,false]) (aj:=["_law_mark"]) (aK rfl (show aQ (am eN) dM _ _=true from by decide +kernel)) rfl (bz (af 2)) (aC (i:=12) (show(dM++_).Nodup from by decide +kernel) rfl rfl) (fun _ _ _ _=>(dm (dI (qd G7 hr (ae (af 1) (ae (af 10) (ae (aZ (ae (af 12) (ae (aL aM (af 10) ao (fun _ _=>rfl)) ah))) ah))))))) (fun _ _ _ _=>(af 12)))
   (ak (aI (i:=11) nd rfl (Or.inl rfl) (aZ (ae (aL aM (af 9) (qd G0 hr (ae (af 0) (ae (aH bS rfl T.b_len (by kernel_rfl) (ae (af 9) ah)) ah))) (fun _ _=>rfl)) (ae (aL aM (af 10) ao (fun _ _=>rfl)) ah))))
   (aw (aU (aZ (ae aW (ae (qd G0 hr (ae (af 0) (ae (aP aS (aH bS rfl T.b_len (by kernel_rfl) (ae (af 3) ah)) ao) ah))) (ae (aZ (ae (aL aM (af 10) ao (fun _ _=>rfl)) (ae (aP aS (aL aM (af 10) ao (fun _ _=>rfl)) ao) ah))) (ae (af 11) ah)))))))))))))))),fun ds M R _ hS bk=>?_⟩)
 obtain⟨p,l,o,ws,row,most,rfl,hM,hP,ho,hw,hwl,hrow,bP,m0,m1,k⟩:=hS;refine bk ?_;clear bk;walk_at "rd";refine⟨p,l,5,rfl,hM,hP,by lia,by lia,fun v l1 a0 a1 hP1=>?_⟩;walk_at "rd";have hwp:=List.length_pos_iff.mpr hw;have hlm:((row.map au).length:Int)=row.length:=by rw[List.length_map]
 refine⟨by lia,by lia,by rw[c8];exact sz3 _ (by lia),?_⟩;refine lQ (fun i acc Δ M'=>∃(z:Option D) (ns:List Int),Δ=[none,some (.tup (o.map aA)),none,some (.tup (row.map au)),none,none,none,none,none,none,none,none,z]/\M'=av M p (.lst l1)/\acc=ns.map D.int/\ns.length<=i/\∀n∈ns,∃m:Nat,n=(m:Int)/\xm row (.can m)) ⟨none,[],rfl,rfl,rfl,Nat.le_refl _,fun n hn=>absurd hn (by simp)⟩ ?_ ?_
 ·rintro i d acc Δ M' X hd ⟨z,ns,rfl,rfl,rfl,hnl,hns⟩ k';obtain⟨hi,rfl⟩:=cF hd;rw[hlm]at hi;have h0:row[i]?=some row[i]:=by simp[show i<row.length by lia]
  have h1:row[i+1]?=some row[i+1]:=by simp[show i+1<row.length by lia]
  generalize row[i]'(by lia)=x at h0;generalize row[i+1]'(by lia)=y at h1;have hy':atI (row.map au) (0+(i:Int)+1)=some (au y):=by rw[show(0:Int)+(i:Int)+1=((i+1:Nat):Int)by lia];exact n5 h1
  have hx':atI (row.map au) (0+(i:Int))=some (au x):=by rw[show(0:Int)+(i:Int)=(i:Int)by lia];exact n5 h0
  refine⟨_,rfl,?_⟩;walk_at "rd";refine⟨_,hx',_,hy',?_⟩;refine⟨o,x,y,rfl,ho,fun b=>?_⟩;walk_at "rd";refine eJ (fun h=>?_) (fun h=>?_)
  ·refine k' _ _ _ ⟨_,ns++[(0+(i:Int))],rfl,rfl,by simp,by simp;lia,fun n hn=>?_⟩;rcases List.mem_append.mp hn with h'|h'
   ·exact hns n h'
   ·have:n=0+(i:Int):=by simpa using h'
    exact⟨i,by lia,show i+1<row.length by lia⟩
  ·exact k' _ _ _ ⟨_,ns,rfl,rfl,rfl,by lia,hns⟩
 ·rintro acc Δ M' ⟨z,ns,rfl,rfl,rfl,hnl,hns⟩;rw[c8,hlm]at hnl;refine CK (aG ?_) (fun h1 hY=>⟨sz3 0,_,Cv,_,rfl,eJ (fun hn=>aG ?_) (fun _=>hY)⟩)
  ·walk_at "rd";refine zI (r:=row≠[]) (fun h4=>?_) (fun hne=>aG ?_) (fun h4=>aG ?_) (fun hO hZ=>⟨sz3 0,_,neR (r2:=[]),_,rfl,eJ (fun h3=>hO (by simpa using h3)) (fun _=>hZ)⟩)
   ·rintro rfl;simp at h4;lia
   ·walk_at "rd";have hrp:=List.length_pos_iff.mpr hne;have emax:(if((row.map au).length:Int) > 1 then((row.map au).length:Int)else 1)=(row.length:Int):=by rw[List.length_map];split<;>lia
    rw[emax];refine⟨p,l1,_,rfl,ai,hP1,by lia,by lia,fun v2 l2 b0 b1 hP2=>?_⟩;obtain⟨n,rfl⟩:=Int.eq_ofNat_of_zero_le b0;have hn:n<row.length:=by lia
    have hx:row[n]?=some row[n]:=by simp[hn]
    have hxw:row[n].1∈ws:=hrow _ (List.getElem_mem hn);refine⟨_,n5 hx,fun _=>⟨by rw[List.length_map];exact sz3 _ (by lia),uq (x:=row[n]) ho ?_⟩⟩;have hmem:row[n].1∈ws.filter fun m=>lB o row[n].2 row[n].1 m:=List.mem_filter.mpr ⟨hxw,oh⟩;have hfp:=List.length_pos_iff.mpr (List.ne_nil_of_mem hmem);have hfl:=List.length_filter_le (fun m=>lB o row[n].2 row[n].1 m) ws;rw[List.length_map];refine⟨p,l2,_,rfl,ai,hP2,by lia,by lia,fun v3 l3 c0 c1 hP3=>?_⟩;obtain⟨m,hm,em⟩:=c9 c0 c1;obtain⟨hm1,hm2⟩:=List.mem_filter.mp hm;refine⟨_,em,sz3 3,?_⟩;rw[aD,aD];refine k (.ord n m) l3 hn (fun y hy=>?_) ?_ hP3
    ·simp only[fJ,List.mem_append,List.mem_singleton]at hy;rcases hy with(h|h)|h
     ·exact hrow y (List.mem_of_mem_take h)
     ·rw[h];exact hm1
     ·exact hrow y (List.mem_of_mem_drop h)
    ·simp only[fJ,List.length_append,List.length_take,List.length_drop,List.length_cons,List.length_nil]
     lia
   ·walk_at "rd";have h4':(row.length:Int)+2<=most:=by rw[List.length_map]at h4;lia
    rw[List.length_map,List.length_map];refine⟨p,l1,_,rfl,ai,hP1,by lia,by lia,fun v2 l2 b0 b1 hP2=>?_⟩;obtain⟨m1',hm1,em1⟩:=c9 b0 b1;refine⟨_,em1,?_⟩;refine⟨p,l2,_,rfl,ai,hP2,by lia,by lia,fun v3 l3 c0 c1 hP3=>?_⟩;refine⟨_,rfl,sz3 2,fun _=>⟨sz3 _ (by lia),qO (x:=(m1',v3-2)) ho ?_⟩⟩;have hmem:m1'∈ws.filter fun m=>lB o ((m1',v3-2):Str×Int).2 ((m1',v3-2):Str×Int).1 m:=List.mem_filter.mpr ⟨hm1,oh⟩;have hfp:=List.length_pos_iff.mpr (List.ne_nil_of_mem hmem);have hfl:=List.length_filter_le (fun m=>lB o ((m1',v3-2):Str×Int).2 ((m1',v3-2):Str×Int).1 m) ws;rw[List.length_map];refine⟨p,l3,_,rfl,ai,hP3,by lia,by lia,fun v4 l4 d0 d1 hP4=>?_⟩;obtain⟨m,hm,em⟩:=c9 d0 d1;obtain⟨hm2,hm3⟩:=List.mem_filter.mp hm;refine⟨_,em,sz3 2,?_⟩;refine⟨p,l4,_,rfl,ai,hP4,by lia,by lia,fun v5 l5 e0 e1 hP5=>?_⟩;obtain⟨n,rfl⟩:=Int.eq_ofNat_of_zero_le e0;refine⟨_,rfl,sz3 2,sz3 4,?_⟩;rw[aD,aD,aD,aD];refine k (.gro n (m1',v3-2+1) (m,v3-2)) l5 (show n<=row.length by lia) (fun y hy=>?_) ?_ hP5
    ·simp only[fJ,List.mem_append,List.mem_cons,List.not_mem_nil,or_false]at hy;rcases hy with(h|h|h)|h
     ·exact hrow y (List.mem_of_mem_take h)
     ·rw[h];exact hm1
     ·rw[h];exact hm2
     ·exact hrow y (List.mem_of_mem_drop h)
    ·simp only[fJ,List.length_append,List.length_take,List.length_drop,List.length_cons,List.length_nil]
     lia
  ·walk_at "rd";have hnsp:=List.length_pos_iff.mpr (show ns≠[]by simpa using hn);rw[List.length_map];refine⟨p,l1,_,rfl,ai,hP1,by lia,by lia,fun v2 l2 b0 b1 hP2=>?_⟩;obtain⟨j,rfl⟩:=Int.eq_ofNat_of_zero_le b0;have hj:j<ns.length:=by lia
   obtain⟨n,en,hok⟩:=hns _ (List.getElem_mem hj);refine⟨.int n,dw (by rw[List.getElem?_map,List.getElem?_eq_getElem hj,en];rfl),sz3 2,?_⟩;rw[aD];refine k (.can n) l2 hok (fun y hy=>?_) ?_ hP2
   ·simp only[fJ,List.mem_append]at hy;rcases hy with h|h
    ·exact hrow y (List.mem_of_mem_take h)
    ·exact hrow y (List.mem_of_mem_drop h)
   ·simp only[fJ,List.length_append,List.length_take,List.length_drop]
    lia
def pU:SpD:=fun ds M R=>∃(p:Addr) (l:List D) (o:List (Str×Str)) (ws:List Str) (row:List (Str×Int)) (n most:Int),ds=[.ref p,.tup (o.map aA),.lst (ws.map .str),.tup (row.map au),.int n,.int most]/\M p=some (.lst l)/\bR l/\o.length<=500/\ws≠[]/\ws.length<=9/\RW ws row/\(row.length:Int)<=most/\2<=most/\most<=50/\0<=n/\n<=100 /\
 ∀(w:D) (row':List (Str×Int)) l',RW ws row'->(row'.length:Int)<=most->bR l'->R (.tup [w,.tup (row'.map au)]) (av M p (.lst l'))
theorem t9(F:Fun K "_law_walk" "_law_walk" lN f fd) (T:Txt mg) (gb4:FnD P w K mg base "_law_step" 4 5 pA) (gb3:FnD P w K mg base "_law_done" 1 2 pH):bg P w K mg base CX0 5 f fd ["_law_pack_here","_law_order_here","_law_marks_here","_law_row_here","_law_steps","_law_most"] (spD K 6 pU):=by
 have nd:=nF.nd;refine F.okR rfl nF (fun cdv A outer s H E hr=>⟨_,(ak (aI (i:=6) nd rfl (Or.inl rfl) (dn ah))
   (ak (dP PassesOwn.never rfl (cJ rfl T.b_range (ae (af 4) ah)) (bu (i:=7) nd rfl (Or.inl rfl)) (ak (aI (i:=8) nd rfl (Or.inl rfl) (qd gb4 hr (ae (af 0) (ae (af 1) (ae (af 2) (ae (af 3) (ae (af 5) ah)))))))
   (ak (cH (fE (af 6) (af 8)))
   (aw (aI (i:=3) nd rfl (Or.inl rfl) (qd gb3 hr (ae (af 3) (ae (af 8) ah))))))))
   (aw (dX (aZ (ae (cj cX rfl T.b_tuple (by kernel_rfl) (ae (af 6) ah)) (ae (af 3) ah))))))),fun ds M R _ hS bk=>?_⟩)
 obtain⟨p,l,o,ws,row,n,most,rfl,hM,hP,ho,hw,hwl,hrow,bP,m0,m1,n0,n1,k⟩:=hS;refine bk ?_;clear bk;walk_at "rd";refine⟨sz3 0,fun q hq=>⟨by lia,by lia,?_⟩⟩;have hpq:p≠q:=by rintro rfl;rw[hM]at hq;cases hq
 refine a7 (fun i Δ M'=>∃(x7 x8:Option D) (l2:List D) (sts:List Stp) (r:List (Str×Int)),Δ=[some (D.ref p),some (D.tup (o.map aA)),some (D.lst (ws.map D.str)),some (D.tup (r.map au)),some (D.int n),some (D.int most),some (D.ref q),x7,x8]/\M'=av (av M p (.lst l2)) q (.lst (sts.map qh))/\bR l2/\sts.length=i/\RW ws r/\(r.length:Int)<=most)
  ⟨_,_,l,[],row,rfl,?_,hP,rfl,hrow,bP⟩ ?_ ?_
 ·funext a
  by_cases ha:a=q
  ·subst ha;rw[ai,ai];rfl
  ·rw[aq ha,aq ha]
   by_cases hb:a=p
   ·subst hb;rw[ai];exact hM
   ·rw[aq hb]
 ·rintro i d Δ M' X hd ⟨x7,x8,l2,sts,r,rfl,rfl,hP2,hsl,hmem,hle⟩ k';have hi:i<100:=by have:=(cF hd).1;lia
  simp only[bL];walk_at "rd";refine⟨p,l2,o,ws,r,most,rfl,by rw[aq hpq,ai],hP2,ho,hw,hwl,hmem,hle,m0,m1,fun st l3 g1 g2 g3 hP3=>?_⟩;have em:av (av (av M p (.lst l2)) q (.lst (sts.map qh))) p (.lst l3)=av (av M p (.lst l3)) q (.lst (sts.map qh)):=by
   rw[<-cT hpq,aD]
  rw[em];refine⟨_,ai,_,ai,by rw[List.length_map];exact Nat.lt_of_lt_of_le (by lia:sts.length<1000) (sz3 1000),?_⟩;rw[aD];refine⟨r,st,rfl,g1,by lia,?_⟩;exact k' _ _ ⟨_,_,l3,sts++[st],fJ r st,rfl,by simp,hP3,by simp;lia,g2,g3⟩
 ·rintro Δ M' ⟨x7,x8,l2,sts,r,rfl,rfl,hP2,hsl,hmem,hle⟩;walk_at "rd";exact⟨sz3 2,_,ff (by rw[aq (Ne.symm hpq)];exact hq),k _ r l2 hmem hle hP2⟩
theorem tK{Tb:Addr}{M:DH}(hT:cL Tb aY lq M):iV Tb M M:=⟨hT,fun _ _ e _=>e⟩
theorem pX{ord:List (Str×Str)}{a b c d:List Sg}(h:Gp (cB ord) (a++wsh b)↔Gp (cB ord) (c++wsh d)):cmB ord a b=cmB ord c d:=by
 rw[Bool.eq_iff_iff,fZ,fZ];exact h
theorem Ah{c:Prop} [Decidable c] {P:Prop}{Z:DH->Prop}{M:DH}{T:Addr}(hT:cL T aY lq M) (hZ:∀M2,iV T M M2->Z M2) (hP:c->(∀M2,iV T M M2->Z M2)->P):if c then P else Z M:=by
 by_cases h:c
 ·rw[if_pos h];exact hP h hZ
 ·rw[if_neg h];exact hZ M (tK hT)
def tD(r:List Sg):D:=.tup (r.map au)
def mN(Tb:Addr):SpD:=fun ds M R=>∃(ord:List (Str×Str)) (one other ahead later:List (Str×Int)),ds=[.tup (ord.map aA),.tup (one.map au),.tup (other.map au),.tup (ahead.map au),.tup (later.map au)]/\ord.length<=200/\one.length<=6/\other.length<=6/\ahead.length<=2/\later.length<=2/\cL Tb aY lq M/\∀M',iV Tb M M'->R (.bl true) M'
theorem qV(F:Fun K "_law_right" "_law_right" gw f fd) (T:Txt mg) {Tb:Addr} (G1:FnD P w K mg base "_law_comes" 8 3 (jg Tb)) (Y0:FnD P w K mg base "_law_mirrored" 1 1 ij) (Y3:FnD P w K mg base "_law_wish" 1 2 pO):bg P w K mg base CX0 9 f fd ["_law_order_here","_law_one","_law_other","_law_ahead","_law_later"] (spD K 5 (mN Tb)):=by
 have nd:=ll.nd;refine F.okR rfl ll (fun cdv A outer s H E hr=>⟨_,(ak (aI (i:=5) nd rfl (Or.inl rfl) (qd G1 hr (ae (af 0) (ae (af 1) (ae (af 2) ah)))))
   (ak (gE (i:=6) nd rfl rfl rfl (ms:=[false,false,false,true,true,false,false,false]) (aj:=["_law_row_here"]) (aK rfl (show aQ (am gw) jm _ _=true from by decide +kernel)) rfl (bz (gQ (ae (af 1) (ae (af 2) ah)))) (aC (i:=8) (show(jm++_).Nodup from by decide +kernel) rfl rfl) (fun _ _ _ _=>fC) (fun _ _ _ _=>(aP aS (aP aS (af 3) (af 8)) (af 4))))
   (ak (bN (qR (gU (dI (af 5)) (gz (qX (dI (qd G1 hr (ae (af 0) (ae (aL aM (af 6) ao (fun _ _=>rfl)) (ae (aL aM (af 6) ao (fun _ _=>rfl)) ah))))))))) (aw (aU n9)) bp)
   (bt (ak (dP PassesOwn.never rfl (bz (gQ (ae ao (ae (aP fH ao ao) ah)))) (bu (i:=7) nd rfl (Or.inl rfl)) (aw (bN (aN (nJ hr.units) (qd G1 hr (ae (af 0) (ae (qd Y3 hr (ae (af 2) (ae (af 7) ah))) (ae (qd Y3 hr (ae (af 1) (ae (af 7) ah))) ah)))) (af 5) nbh) (aw (aU n9)) bp)))
   (bt (ak (bN (aN (nJ hr.units) (qd G1 hr (ae (af 0) (ae (qd Y0 hr (ae (af 1) ah)) (ae (qd Y0 hr (ae (af 2) ah)) ah)))) (af 5) nbh) (aw (aU n9)) bp)
   (bt (ak (bN (aN (nJ hr.units) (qd G1 hr (ae (af 0) (ae (aP aS (qd Y3 hr (ae (af 2) (ae (aP fH ao ao) ah))) (af 1)) (ae (aZ ah) ah)))) (af 5) nbh) (aw (aU n9)) bp)
   (bt (ak (bN (aN (nJ hr.units) (qd G1 hr (ae (af 0) (ae (aZ ah) (ae (aP aS (qd Y3 hr (ae (af 1) (ae ao ah))) (af 2)) ah)))) (af 5) nbh) (aw (aU n9)) bp)
   (bt (aw (aU (qd G1 hr (ae (af 0) (ae (af 1) (ae (af 1) ah)))))))))))))))))),fun ds M R _ hS bk=>?_⟩)
 obtain⟨ord,one,other,ahead,later,rfl,ho,h1,h2,h3,h4,hT,k⟩:=hS;refine bk ?_;clear bk;walk_at "rd";refine⟨ord,one,other,rfl,ho,by lia,hT,fun M1 hK1=>?_⟩;walk_at "rd";refine⟨sz3 2,fun hz=>⟨hz,aT tD (fun _=>true) (fun r=>tD (ahead++r++later)) (fun Δ=>∃x,Δ=[none,none,none,some (tD ahead),some (tD later),none,none,none,x]) [one,other] _ _ (fun r hr Δ hΔ=>?_) ⟨none,rfl⟩ ?_⟩⟩
 ·obtain⟨x,rfl⟩:=hΔ;have hrl:r.length<=6:=by
   simp only[List.mem_cons,List.not_mem_nil,or_false]at hr;rcases hr with rfl|rfl<;>lia
  refine⟨_,rfl,⟨_,rfl⟩,fun Q1 q=>q,fun _ Q2 q=>?_⟩;simp only[tD];walk_at "rd";refine⟨.tup ((ahead++r).map au),?_,.tup ((ahead++r++later).map au),?_,q⟩
  ·rw[List.map_append];exact if_pos (szB _ (by rw[List.length_map,List.length_map];lia))
  ·rw[List.map_append (l₂:=later)];exact if_pos (szB _ (by rw[List.length_map,List.length_map,List.length_append];lia))
 ·rw[List.nil_append,List.filter_eq_self.mpr (fun _ _=>rfl)];simp only[List.map_cons,List.map_nil,tD];walk_at "rd";refine Ah hK1.1 (fun M2 hK2=>aG ?_) (fun hc hZ=>⟨ord,ahead++one++later,ahead++other++later,rfl,ho,by simp only[List.length_append];lia,hK1.1,fun M2 hK2=>⟨_,rfl,?_⟩⟩)
  ·walk_at "rd";have hK:=hK1.tr hK2;clear hK1 hK2;refine⟨sz3 2,fun hz2=>?_⟩;refine a7 (fun i Δ M'=>iV Tb M M'/\∃x,Δ=[some (D.tup (ord.map aA)),some (D.tup (one.map au)),some (D.tup (other.map au)),some (D.tup (ahead.map au)),some (D.tup (later.map au)),some (D.bl (cmB ord one other)),some (D.lst [D.tup ((ahead++one++later).map au),D.tup ((ahead++other++later).map au)]),x]) ⟨hK,none,rfl⟩ ?_ ?_
   ·rintro i d Δ M' X hd ⟨hK',x,rfl⟩ k';obtain⟨b,hb,rfl⟩:∃b:Int,(b=1∨b=-1)/\d=.int b:=by
     match i,hd with
     |0,hd=>cases hd;exact⟨1,.inl rfl,rfl⟩
     |1,hd=>cases hd;exact⟨-1,.inr rfl,rfl⟩
    refine⟨_,rfl,?_⟩;walk_at "rd";refine⟨other,b,rfl,by lia,one,b,rfl,by lia,ord,wB b other,wB b one,rfl,ho,by rw[jf,jf];lia,hK'.1,fun M3 hK3=>⟨_,md,_,rfl,?_⟩⟩;rw[if_neg (by rw[show cmB ord (wB b other) (wB b one)=cmB ord one other from by rcases hb with rfl|rfl;exact pX ym;exact pX yv];simp)];exact k' _ _ ⟨hK'.tr hK3,_,rfl⟩
   ·rintro Δ M3 ⟨hK3,x,rfl⟩;refine aG ?_;walk_at "rd";refine⟨one,rfl,by lia,other,rfl,by lia,ord,mir one,mir other,rfl,ho,by rw[sZ,sZ];lia,hK3.1,fun M4 hK4=>⟨_,md,_,rfl,?_⟩⟩;rw[if_neg (by rw[show cmB ord (mir one) (mir other)=cmB ord one other from pX CY];simp)];refine aG ?_;walk_at "rd";refine⟨other,-1,rfl,by lia,.tup ((wB (-1) other++one).map au),?_,sz3 0,ord,wB (-1) other++one,[],rfl,ho,by rw[List.length_append,jf];simp only[List.length_nil];lia,hK4.1,fun M5 hK5=>⟨_,md,_,rfl,?_⟩⟩
    ·rw[List.map_append];exact if_pos (szB _ (by rw[List.length_map,List.length_map,jf];lia))
    rw[if_neg (by rw[show cmB ord (wB (-1) other++one) []=cmB ord one other from pX BB];simp)];refine aG ?_;walk_at "rd";refine⟨sz3 0,one,1,rfl,by lia,.tup ((wB 1 one++other).map au),?_,ord,[],wB 1 one++other,rfl,ho,by rw[List.length_append,jf];simp only[List.length_nil];lia,hK5.1,fun M6 hK6=>⟨_,md,_,rfl,?_⟩⟩
    ·rw[List.map_append];exact if_pos (szB _ (by rw[List.length_map,List.length_map,jf];lia))
    rw[if_neg (by rw[show cmB ord [] (wB 1 one++other)=cmB ord one other from pX yY];simp)];refine aG ?_;walk_at "rd";refine⟨ord,one,one,rfl,ho,by lia,hK6.1,fun M7 hK7=>?_⟩;rw[fZ.mpr rE];exact k M7 (hK3.tr (hK4.tr (hK5.tr (hK6.tr hK7))))
  ·rw[fZ.mpr (CA (fZ.mp hc)),if_neg (by decide)];exact hZ M2 hK2
theorem bd6{x qual:Str}{st:Stmt}{f:Addr}{fd:FuncData}{p1 p2 p3 p4 p5 p6:Str}(F:Fun K x qual st f fd) (b:∀a c d e g h,Bd x qual st [p1,p2,p3,p4,p5,p6] [a,c,d,e,g,h]):dO K fd [p1,p2,p3,p4,p5,p6] []:=mR F (usS fun a=>usS fun c=>usS fun d=>usS fun e=>usS fun g=>usS fun h=>us0 (b a c d e g h))
theorem gX{T p:Addr}{M:DH}{l:List D}{o:HD}(h:cL T aY lq M) (hp:M p=some (.lst l)):cL T aY lq (av M p o):=by
 rcases h with h|⟨c,h1,h2⟩
 ·exact .inl (by rw[aq (fun z=>by rw[z,hp]at h;cases h)];exact h)
 ·exact .inr ⟨c,by rw[aq (fun z=>by rw[z,hp]at h1;cases h1)];exact h1,by rw[aq (fun z=>by rw[z,hp]at h2;cases h2)];exact h2⟩
theorem Bm{T a:Addr}{M:DH}{l:List D}(h:cL T aY lq M) (ha:M a=some (.lst l)):a≠T:=by
 rintro rfl;rcases h with h|⟨c,h,_⟩<;>(rw[ha]at h;cases h)
def RR(M:DH) (d:D) (rs:List (List Sg)):Prop:=d=.lst (rs.map tD)∨∃a,d=.ref a/\M a=some (.lst (rs.map tD))
theorem RR.rd{M:DH}{d:D}{rs:List (List Sg)}(h:RR M d rs):rdM M d=.lst (rs.map tD):=by
 rcases h with rfl|⟨a,rfl,h⟩
 ·rfl
 ·exact e7 h
theorem RR.keep{T:Addr}{M M':DH}{d:D}{rs:List (List Sg)}(h:RR M d rs) (hT:cL T aY lq M) (hK:iV T M M'):RR M' d rs:=by
 rcases h with rfl|⟨a,rfl,h⟩
 ·exact .inl rfl
 ·exact .inr ⟨a,rfl,hK.2 a _ h (Bm hT h)⟩
def S_law(Tb:Addr):SpD:=fun ds M R=>∃ns:List Int,ds=[.scr (ns.map .int)]/\cL Tb aY lq M/\ns.length<=63/\(∀m∈ns,Few m)/\∀M',cL Tb aY lq M'->R (.bl true) M'
theorem Be(F:Fun K "law" "law" xF f fd) (T:Txt mg) {Tb:Addr} (ga1:FnD P w K mg base "_law_pack" 2 2 pQ) (ga7:FnD P w K mg base "_law_marks" 2 1 mU) (gb0:FnD P w K mg base "_law_order" 2 2 nh) (ga0:FnD P w K mg base "_law_row" 2 4 tS) (G1:FnD P w K mg base "_law_comes" 8 3 (jg Tb)) (G0:FnD P w K mg base "_law_take" 1 2 eP) (gb1:FnD P w K mg base "_law_right" 9 5 (mN Tb)) (gb2:FnD P w K mg base "_law_walk" 5 6 pU):bg P w K mg base CX0 10 f fd ["_law_script"] (spD K 1 (S_law Tb)):=by
 have nd:=vA.nd;refine F.okR rfl vA (fun cdv A outer s H E hr=>⟨_,(ak (aI (i:=1) nd rfl (Or.inl rfl) (qd ga1 hr (ae (af 0) (ae ao ah))))
   (bt (ak (aI (i:=2) nd rfl (Or.inl rfl) (qd ga7 hr (ae (af 1) ah)))
   (bt (ak (aI (i:=3) nd rfl (Or.inl rfl) (qd gb0 hr (ae (af 1) (ae (af 2) ah))))
   (bt (ak (aI (i:=4) nd rfl (Or.inl rfl) (dn (ae (qd ga0 hr (ae (qd ga1 hr (ae (af 0) (ae ao ah))) (ae (af 2) (ae (qd G0 hr (ae (af 1) (ae ao ah))) (ae ao ah))))) ah)))
   (bt (ak (dP PassesOwn.never rfl (cJ rfl T.b_range (ae ao ah)) (bu (i:=5) nd rfl (Or.inl rfl)) (ak (aI (i:=6) nd rfl (Or.inl rfl) (qd ga1 hr (ae (af 0) (ae (aP aS ao (aP vd ao (af 5))) ah))))
   (bt (aw (bN (aN um (qd G0 hr (ae (af 1) (ae ao ah))) ao nbh) (aw (cH (fE (af 4) (aL aM (qd gb2 hr (ae (af 6) (ae (af 3) (ae (af 2) (ae (aL aM (af 4) (wH xC ao) (fun _ _=>rfl)) (ae (qd G0 hr (ae (af 6) (ae ao ah))) (ae ao ah))))))) ao (fun _ _=>rfl))))) (aw (cH (fE (af 4) (qd ga0 hr (ae (af 6) (ae (af 2) (ae (qd G0 hr (ae (af 6) (ae ao ah))) (ae ao ah)))))))))))))
   (bt (ak (aI (i:=4) nd rfl (Or.inl rfl) (aL aM (gQ (ae (af 4) (ae (ur (af 4) (wH xC ao)) ah))) (aP Bf (qd G0 hr (ae (af 1) (ae ao ah))) ao) (fun _ _=>rfl)))
   (bt (ak (aI (i:=7) nd rfl (Or.inl rfl) (qd ga0 hr (ae (af 1) (ae (af 2) (ae (qd G0 hr (ae (af 1) (ae ao ah))) (ae ao ah))))))
   (bt (ak (aI (i:=8) nd rfl (Or.inl rfl) (qd ga0 hr (ae (af 1) (ae (af 2) (ae (qd G0 hr (ae (af 1) (ae ao ah))) (ae ao ah))))))
   (bt (ak (aI (i:=9) nd rfl (Or.inl rfl) (qd G1 hr (ae (af 3) (ae (aL aM (af 4) ao (fun _ _=>rfl)) (ae (aL aM (af 4) ao (fun _ _=>rfl)) ah)))))
   (bt (ak (aI (i:=10) nd rfl (Or.inl rfl) (qd G1 hr (ae (af 3) (ae (aL aM (af 4) ao (fun _ _=>rfl)) (ae (aL aM (af 4) ao (fun _ _=>rfl)) ah)))))
   (bt (ak (bN (qR (gU (dI (af 9)) (gU (dI (af 10)) (gz (qX (dI (qd G1 hr (ae (af 3) (ae (aL aM (af 4) ao (fun _ _=>rfl)) (ae (aL aM (af 4) ao (fun _ _=>rfl)) ah)))))))))) (aw (aU n9)) bp)
   (bt (ak (dP PassesOwn.never rfl (cJ rfl T.b_range (ae ao ah)) (bu (i:=5) nd rfl (Or.inl rfl)) (aw (bN (qX (dI (qd gb1 hr (ae (af 3) (ae (aL aM (af 4) (af 5) (fun _ _=>rfl)) (ae (aL aM (af 4) (aP aS (af 5) ao) (fun _ _=>rfl)) (ae (af 7) (ae (af 8) ah)))))))) (aw (aU n9)) bp)))
   (bt (aw (aU n9)))))))))))))))))))))))))),fun ds M R _ hS bk=>?_⟩)
 obtain⟨ns,rfl,hT,hn,hf,k⟩:=hS;refine bk ?_;clear bk;walk_at "rd";refine⟨ns,0,rfl,hf,hn,by lia,by lia,fun p l hp hP=>aG ?_⟩;walk_at "rd";refine⟨p,l,rfl,ai,hP,fun ws l1 hw hwl hP1=>aG ?_⟩;rw[aD];walk_at "rd";refine⟨p,l1,ws,rfl,ai,hP1,hw,hwl,fun o l2 hol ho hP2=>aG ?_⟩;rw[aD];have hT2:cL Tb aY lq (av M p (.lst l2)):=jt hT hp;have hp2:(av M p (.lst l2)) p=some (.lst l2):=ai;generalize av M p (.lst l2)=M2 at hT2 hp2 ⊢;walk_at "rd";refine⟨ns,2,rfl,hf,hn,by lia,by lia,fun p2 k2 hq2 hK2=>?_⟩;have hpp:p≠p2:=by rintro rfl;rw[hp2]at hq2;cases hq2
 refine⟨p,l2,5,rfl,by rw[aq hpp];exact hp2,hP2,by lia,by lia,fun v1 l3 a0 a1 hP3=>?_⟩;refine⟨p2,k2,ws,v1,1,rfl,by rw[aq (Ne.symm hpp),ai],hK2,hw,hwl,by lia,by lia,by lia,by lia,fun row k3 hrl hrow hK3=>?_⟩;walk_at "rd";refine⟨sz3 1,fun q hq=>aG ?_⟩;have hT3:cL Tb aY lq (av (av (av M2 p2 (.lst k2)) p (.lst l3)) p2 (.lst k3)):=gX (gX (jt hT2 hq2) ((aq hpp).trans hp2)) ((aq (Ne.symm hpp)).trans ai);have hp3:(av (av (av M2 p2 (.lst k2)) p (.lst l3)) p2 (.lst k3)) p=some (.lst l3):=(aq hpp).trans ai;generalize av (av (av M2 p2 (.lst k2)) p (.lst l3)) p2 (.lst k3)=M3 at hT3 hp3 hq ⊢;have hpq:p≠q:=by rintro rfl;rw[hp3]at hq;cases hq
 walk_at "rd";refine a7 (fun i Δ M'=>∃(x5 x6:Option D) (rs:List (List Sg)) (l':List D),Δ=[some (D.scr (ns.map D.int)),some (D.ref p),some (D.lst (ws.map D.str)),some (D.tup (o.map aA)),some (D.ref q),x5,x6,none,none,none,none]/\cL Tb aY lq M'/\M' p=some (.lst l')/\bR l'/\M' q=some (.lst (rs.map tD))/\rs.length=i+1/\∀r∈rs,RW ws r/\r.length<=6)
  ⟨_,_,[row],l3,rfl,jt hT3 hq,(aq hpq).trans hp3,hP3,ai,rfl,fun r hr=>by rw[List.mem_singleton.mp hr];exact⟨hrow,by lia⟩⟩ ?_ ?_
 ·rintro i d Δ M4 X hd ⟨x5,x6,rs,l4,rfl,hT4,hp4,hP4,hq4,hrs,hr⟩ k';obtain⟨hi,rfl⟩:=cF hd;refine⟨_,rfl,?_⟩;walk_at "rd";refine⟨ns,_,rfl,hf,hn,by lia,by lia,fun p3 k4 hq3 hK4=>aG ?_⟩;have n1:p≠p3:=by rintro rfl;rw[hp4]at hq3;cases hq3
  have n2:q≠p3:=by rintro rfl;rw[hq4]at hq3;cases hq3
  walk_at "rd";refine⟨p,l4,4,rfl,(aq n1).trans hp4,hP4,by lia,by lia,fun v l5 b0 b1 hP5=>?_⟩;have hT5:cL Tb aY lq (av (av M4 p3 (.lst k4)) p (.lst l5)):=gX (jt hT4 hq3) ((aq n1).trans hp4);have h5p:(av (av M4 p3 (.lst k4)) p (.lst l5)) p=some (.lst l5):=ai;have h5q:(av (av M4 p3 (.lst k4)) p (.lst l5)) q=some (.lst (rs.map tD)):=(aq (Ne.symm hpq)).trans ((aq n2).trans hq4);have h53:(av (av M4 p3 (.lst k4)) p (.lst l5)) p3=some (.lst k4):=(aq (Ne.symm n1)).trans ai;generalize av (av M4 p3 (.lst k4)) p (.lst l5)=M5 at hT5 h5p h5q h53 ⊢;obtain⟨rs',r0,hr0⟩:∃a b,rs=a++[b]:=by
   rcases List.eq_nil_or_concat rs with h|h
   ·rw[h]at hrs;simp at hrs
   ·obtain⟨a,b,e⟩:=h;exact⟨a,b,by rw[e,List.concat_eq_append]⟩
  have hr0m:=hr r0 (by rw[hr0];simp);have n12:=Ne.symm n1;have fin:∀(r:List Sg) (k6:List D),RW ws r->r.length<=6->∃ds,(av M5 p3 (.lst k6)) q=some (.lst ds)/\ds.length<sizeLine/\X [some (D.scr (ns.map D.int)),some (D.ref p),some (D.lst (ws.map D.str)),some (D.tup (o.map aA)),some (D.ref q),some (D.int (0+(i:Int))),some (D.ref p3),none,none,none,none] (av (av M5 p3 (.lst k6)) q (.lst (ds++[tD r]))):=fun r k6 hr1 hr2 =>
   ⟨rs.map tD,(aq n2).trans h5q,by rw[List.length_map];exact Nat.lt_of_lt_of_le (by lia:rs.length<1000) (sz3 1000),k' _ _ ⟨_,_,rs++[r],l5,rfl,gX (gX hT5 h53) ((aq n2).trans h5q),(aq hpq).trans ((aq n1).trans h5p),hP5,by rw[ai,List.map_append];rfl,by rw[List.length_append,hrs];rfl,fun r' hr'=>by
    rcases List.mem_append.mp hr' with z|z
    ·exact hr r' z
    ·rw[List.mem_singleton.mp z];exact⟨hr1,hr2⟩⟩⟩
  walk_at "rd";refine eJ (fun h=>?_) (fun h=>?_)
  ·refine⟨_,h5q,tD r0,?_,p3,k4,5,rfl,h53,hK4,by lia,by lia,fun v2 k5 c0 c1 hK5=>?_⟩
   ·rw[e7 h5q,hr0,List.map_append];exact vb _ _
   refine⟨p3,k5,o,ws,r0,v2,6,rfl,ai,hK5,by lia,hw,hwl,hr0m.1,by have:=hr0m.2;lia,by lia,by lia,by lia,by lia,fun w r k6 hr1 hr2 hK6=>?_⟩;rw[aD];exact⟨tD r,rfl,fin r k6 hr1 (by lia)⟩
  ·refine⟨_,h5q,p3,k4,5,rfl,h53,hK4,by lia,by lia,fun v2 k5 c0 c1 hK5=>?_⟩;refine⟨p3,k5,ws,v2,1,rfl,ai,hK5,hw,hwl,by lia,by lia,by lia,by lia,fun r k6 hrl hr1 hK6=>?_⟩;rw[aD];exact fin r k6 hr1 (by lia)
 ·rintro Δ M4 ⟨x5,x6,rs,l4,rfl,hT4,hp4,hP4,hq4,hrs,hr⟩;rw[c8]at hrs;refine aG ?_;walk_at "rd";refine⟨rs.map tD,e7 hq4,sz3 2,p,l4,4,rfl,hp4,hP4,by lia,by lia,fun v l5 b0 b1 hP5=>?_⟩;obtain⟨d,rs2,hd,hrr,hl2,hm2⟩:∃(d:D) (rs2:List (List Sg)),atI [D.ref q,D.lst (rs.map tD).reverse] (v / 3)=some d/\RR (av M4 p (.lst l5)) d rs2/\rs2.length=3/\∀r∈rs2,r.length<=6:=by
   by_cases hv:v<3
   ·rw[show v / 3=0 by lia];exact⟨_,rs,wF,.inr ⟨q,rfl,(aq (Ne.symm hpq)).trans hq4⟩,hrs,fun r h=>(hr r h).2⟩
   ·rw[show v / 3=1 by lia];exact⟨_,rs.reverse,Af,.inl (by rw[List.map_reverse]),by rw[List.length_reverse];exact hrs,fun r h=>(hr r (List.mem_reverse.mp h)).2⟩
  refine⟨.int (v / 3),by rw[sE,xp];exact if_pos ⟨by decide,by decide⟩,d,hd,aG ?_⟩;have hT5:=gX (o:=.lst l5) hT4 hp4;have hp5:(av M4 p (.lst l5)) p=some (.lst l5):=ai;have hdp:d≠.ref p:=by
   rcases hrr with rfl|⟨a,rfl,h⟩
   ·intro z;cases z
   ·intro z;cases z;rw[ai]at h;obtain⟨N,rfl⟩:=hP5
    match rs2,hl2,h with
    |[_,_,_],_,h=>cases h
  generalize av M4 p (.lst l5)=M5 at hT5 hp5 hrr ⊢;obtain⟨r0,r1,r2,rfl⟩:∃a b c,rs2=[a,b,c]:=by
   match rs2,hl2 with
   |[a,b,c],_=>exact⟨a,b,c,rfl⟩
  have q0:=hm2 r0 (by simp);have q1:=hm2 r1 (by simp);have q2:=hm2 r2 (by simp);walk_at "rd";refine⟨p,l5,3,rfl,hp5,hP5,by lia,by lia,fun v1 l6 c0 c1 hP6=>?_⟩;refine⟨p,l6,ws,v1,1,rfl,ai,hP6,hw,hwl,by lia,by lia,by lia,by lia,fun ahead l7 ha1 _ hP7=>aG ?_⟩;rw[aD];walk_at "rd";refine⟨p,l7,3,rfl,ai,hP7,by lia,by lia,fun v2 l8 d0 d1 hP8=>?_⟩;refine⟨p,l8,ws,v2,1,rfl,ai,hP8,hw,hwl,by lia,by lia,by lia,by lia,fun later l9 hb1 _ hP9=>aG ?_⟩;rw[aD,aD];have hT6:=gX (o:=.lst l9) hT5 hp5;have hrr6:RR (av M5 p (.lst l9)) d [r0,r1,r2]:=by
   rcases hrr with rfl|⟨a,rfl,h⟩
   ·exact .inl rfl
   ·exact .inr ⟨a,rfl,(aq fun z=>hdp (by rw[z])).trans h⟩
  generalize av M5 p (.lst l9)=M6 at hT6 hrr6 ⊢;walk_at "rd";rw[hrr6.rd];refine⟨tD r0,rfl,tD r1,rfl,o,r0,r1,rfl,by lia,by lia,hT6,fun M7 hK7=>aG ?_⟩;have hrr7:=hrr6.keep hT6 hK7;walk_at "rd";rw[hrr7.rd];refine⟨tD r1,rfl,tD r2,rfl,o,r1,r2,rfl,by lia,by lia,hK7.1,fun M8 hK8=>aG ?_⟩;have hrr8:=hrr7.keep hK7.1 hK8;have hT8:=hK8.1;clear hrr7 hrr6 hK7 hK8;walk_at "rd";refine Ah hT8 (fun M9 hK9=>aG ?_) (fun hc hZ=>eJ (fun hc2=>?_) (fun _=>hZ _ (tK hT8)))
  ·have hrr9:=hrr8.keep hT8 hK9;walk_at "rd";refine a7 (fun i Δ M'=>iV Tb M9 M'/\∃x5,Δ=[some (D.scr (ns.map D.int)),some (D.ref p),some (D.lst (ws.map D.str)),some (D.tup (o.map aA)),some d,x5,x6,some (D.tup (ahead.map au)),some (D.tup (later.map au)),some (D.bl (cmB o r0 r1)),some (D.bl (cmB o r1 r2))]) ⟨tK hK9.1,_,rfl⟩ ?_ ?_
   ·rintro i d' Δ M' X hd' ⟨hK',x,rfl⟩ k';obtain⟨hi,rfl⟩:=cF hd';refine⟨_,rfl,?_⟩;walk_at "rd";rw[(hrr9.keep hK9.1 hK').rd];have:i=0∨i=1:=by
     have:i<2:=hi
     lia
    rcases this with rfl|rfl
    ·refine⟨tD r0,rfl,tD r1,rfl,o,r0,r1,ahead,later,rfl,by lia,q0,q1,by lia,by lia,hK'.1,fun M10 hK10=>⟨_,rfl,?_⟩⟩;rw[if_neg (by decide)];exact k' _ _ ⟨hK'.tr hK10,_,rfl⟩
    ·refine⟨tD r1,rfl,tD r2,rfl,o,r1,r2,ahead,later,rfl,by lia,q1,q2,by lia,by lia,hK'.1,fun M10 hK10=>⟨_,rfl,?_⟩⟩;rw[if_neg (by decide)];exact k' _ _ ⟨hK'.tr hK10,_,rfl⟩
   ·rintro Δ M' ⟨hK',x,rfl⟩;refine aG ?_;walk_at "rd";exact k _ hK'.1
  ·rw[hrr8.rd];refine⟨tD r0,rfl,tD r2,rfl,o,r0,r2,rfl,by lia,by lia,hT8,fun M9 hK9=>⟨_,rfl,?_⟩⟩;rw[fZ.mpr (zu (fZ.mp hc) (fZ.mp hc2)),if_neg (by decide)];exact hZ M9 hK9
end
theorem CJ:CG aY lq S_law:=fun T ns R hn hf hR=>⟨ns,rfl,.inl ai,hn,hf,hR⟩
theorem Ca{l:PySem.W.OpenLaw}{w:World}{K:PySem.W.Frag}{h:Heap}{mg:Str->Option Value}{fa:Addr}(X:K.In h) (G:h.Ns mainGlobals mg) (hfa:mg "law"=some (.ref fa))
  {f0:Addr} {d0:FuncData}
  {f1:Addr} {d1:FuncData}
  {f2:Addr} {d2:FuncData}
  {f3:Addr} {d3:FuncData}
  {f4:Addr} {d4:FuncData}
  {f5:Addr} {d5:FuncData}
  {f6:Addr} {d6:FuncData}
  {f7:Addr} {d7:FuncData}
  {f8:Addr} {d8:FuncData}
  {f9:Addr} {d9:FuncData}
  {f10:Addr} {d10:FuncData}
  {f11:Addr} {d11:FuncData}
  {f12:Addr} {d12:FuncData}
  {f13:Addr} {d13:FuncData}
  {f14:Addr} {d14:FuncData}
  {f15:Addr} {d15:FuncData}
  {f16:Addr} {d16:FuncData}
  {f17:Addr} {d17:FuncData}
  {f18:Addr} {d18:FuncData}
  {f19:Addr} {d19:FuncData}
  {f20:Addr} {d20:FuncData}
  {f21:Addr} {d21:FuncData}
  {f22:Addr} {d22:FuncData}
  {f23:Addr} {d23:FuncData}
  {f24:Addr} {d24:FuncData}
  {f25:Addr} {d25:FuncData}
  {f26:Addr} {d26:FuncData}
  {f27:Addr} {d27:FuncData}
  {f28:Addr} {d28:FuncData}
  {f29:Addr} {d29:FuncData}
  {f30:Addr} {d30:FuncData}
  {f31:Addr} {d31:FuncData}
  {f32:Addr} {d32:FuncData}
  {f33:Addr} {d33:FuncData}
  {f34:Addr} {d34:FuncData}
  {f35:Addr} {d35:FuncData}
  {Tb cc:Addr} {cdd:Option Addr} {cvs:Array Value} {csl2:Array (Option Value)} {cfile:Str} {ctf ctg ctt:Tok} {cflags ctext:Int} {cinF:Bool}
  (x0:bC K "reached_from" cN f0 d0)
  (x1:bC K "right_wish" cI f1 d1)
  (x2:bC K "splits" fj f2 d2)
  (x3:bC K "whole_count" dj f3 d3)
  (x4:bC K "surplus" eB f4 d4)
  (x5:bC K "cancels_by" dH f5 d5)
  (x6:bC K "orders_by" cW f6 d6)
  (x7:bC K "growths_by" bQ f7 d7)
  (x8:bC K "_law_mixed" i3 f8 d8)
  (x9:bC K "_law_take" lC f9 d9)
  (x10:bC K "_law_above" je f10 d10)
  (x11:bC K "_law_done" lG f11 d11)
  (x12:bC K "_law_wish" iB f12 d12)
  (x13:bC K "_law_mirrored" dB f13 d13)
  (x14:bC K "at_most" gb f14 d14)
  (x15:bC K "hanging_with" bX f15 d15)
  (x16:bC K "stretch_counts" bo f16 d16)
  (x17:bC K "walk_by" cY f17 d17)
  (x18:bC K "_law_pack" ko f18 d18)
  (x19:bC K "_law_marks" ji f19 d19)
  (x20:bC K "_law_order" gu f20 d20)
  (x21:bC K "_law_leads" ja f21 d21)
  (x22:bC K "_law_row" nM f22 d22)
  (x23:bC K "mark_leads" dG f23 d23)
  (x24:bC K "is_uneven" eK f24 d24)
  (x25:bC K "_law_cancels" gm f25 d25)
  (x26:bC K "cancel" gT f26 d26)
  (x27:bC K "_law_step" eN f27 d27)
  (x28:bC K "mates_in" cE f28 d28)
  (x29:bC K "_law_walk" lN f29 d29)
  (x30:bC K "drawing_of" cD f30 d30)
  (x31:bC K "why_not" eF f31 d31)
  (x32:bC K "comes" jn f32 d32)
  (x33:bC K "_law_comes" jk f33 d33)
  (x34:bC K "_law_right" gw f34 d34)
  (x35:bC K "law" xF f35 d35)
  (z_len:PySem.W.nsIn K mainGlobals "len"=some none)
  (z_tuple:PySem.W.nsIn K mainGlobals "tuple"=some none)
  (z_reversed:PySem.W.nsIn K mainGlobals "reversed"=some none)
  (z_range:PySem.W.nsIn K mainGlobals "range"=some none)
  (z_sum:PySem.W.nsIn K mainGlobals "sum"=some none)
  (z_sorted:PySem.W.nsIn K mainGlobals "sorted"=some none)
  (z_list:PySem.W.nsIn K mainGlobals "list"=some none)
  (z_enumerate:PySem.W.nsIn K mainGlobals "enumerate"=some none)
  (z_divmod:PySem.W.nsIn K mainGlobals "divmod"=some none)
  (z_max:PySem.W.nsIn K mainGlobals "max"=some none)
  (t1:d5.code=.ref cc)
  (t2:K.lookup cc=some ⟨.type "code",cdd,.fields cvs,csl2⟩)
  (t3:cvs[11]?=some (.ref Tb))
  (t4:K.lookup Tb=some (PySem.W.tabObj #[]))
  (t5:cvs.getD 18 .none=.str cfile ctf)
  (t6:cvs.getD 7 .none=.int cflags ctg)
  (t7:cvs.getD 9 .none=.bool cinF)
  (t8:cvs.getD 10 .none=.int ctext ctt)
 :∃Tb,K.lookup Tb=some (PySem.W.tabObj #[])/\∃fd:FuncData,(∀(s:Shared) (v:Value),BindsTo s fd ⟨[v],[]⟩ [("_law_script",v)])/\isCodeTable h Tb/\∀base:Heap,(aV K Tb).In base->base.Ns mainGlobals mg->base.BuiltinsAt mg Tb->bg l.prog w (aV K Tb) mg base CX0 10 fa fd ["_law_script"] (spD (aV K Tb) 1 (S_law Tb)):=by
 have T:Txt mg:=⟨PySem.W.mg_none_of X G z_len,PySem.W.mg_none_of X G z_tuple,PySem.W.mg_none_of X G z_reversed,PySem.W.mg_none_of X G z_range,PySem.W.mg_none_of X G z_sum,PySem.W.mg_none_of X G z_sorted,PySem.W.mg_none_of X G z_list,PySem.W.mg_none_of X G z_enumerate,PySem.W.mg_none_of X G z_divmod,PySem.W.mg_none_of X G z_max⟩;refine⟨Tb,t4,zL X G hfa x35 (fun _ _ _ _ _ _ _=>rfl) t4 t2 t3 fun base hIn hB=>?_⟩;have hC:PySem.W.CodeHd base cc Tb:=yM hIn t4 t2 t3 t5 t6 t7 t8;have y0:=x0.cut t4;have y1:=x1.cut t4;have y2:=x2.cut t4;have y3:=x3.cut t4;have y4:=x4.cut t4;have y5:=x5.cut t4;have y6:=x6.cut t4;have y7:=x7.cut t4;have y8:=x8.cut t4;have y9:=x9.cut t4;have y10:=x10.cut t4;have y11:=x11.cut t4;have y12:=x12.cut t4;have y13:=x13.cut t4;have y14:=x14.cut t4;have y15:=x15.cut t4;have y16:=x16.cut t4;have y17:=x17.cut t4;have y18:=x18.cut t4;have y19:=x19.cut t4;have y20:=x20.cut t4;have y21:=x21.cut t4;have y22:=x22.cut t4;have y23:=x23.cut t4;have y24:=x24.cut t4;have y25:=x25.cut t4;have y26:=x26.cut t4;have y27:=x27.cut t4;have y28:=x28.cut t4;have y29:=x29.cut t4;have y30:=x30.cut t4;have y31:=x31.cut t4;have y32:=x32.cut t4;have y33:=x33.cut t4;have y34:=x34.cut t4;have y35:=x35.cut t4;have G3:=fg (K:=aV K Tb) (aJ X) G y0 (iA (P:=l.prog) (w:=w) (base:=base) y0.F T ) (bd2 y0.F fun _ _ _ _ _ _ _ _=>rfl);have Y2:=fg (K:=aV K Tb) (aJ X) G y1 (jZ (P:=l.prog) (w:=w) (base:=base) y1.F T ) (bd1 y1.F fun _ _ _ _ _ _ _=>rfl);have G8:=fg (K:=aV K Tb) (aJ X) G y2 (o5 (P:=l.prog) (w:=w) (base:=base) y2.F T ) (bd4 y2.F fun _ _ _ _ _ _ _ _ _ _=>rfl);have G4:=fg (K:=aV K Tb) (aJ X) G y3 (jr (P:=l.prog) (w:=w) (base:=base) y3.F T ) (bd2 y3.F fun _ _ _ _ _ _ _ _=>rfl);have ga4:=fg (K:=aV K Tb) (aJ X) G y4 (oF (P:=l.prog) (w:=w) (base:=base) y4.F T ) (bd2 y4.F fun _ _ _ _ _ _ _ _=>rfl);have Y6:=fg (K:=aV K Tb) (aJ X) G y5 (jM (P:=l.prog) (w:=w) (base:=base) y5.F T hC hB t1 ) (bd2 y5.F fun _ _ _ _ _ _ _ _=>rfl);have Y8:=fg (K:=aV K Tb) (aJ X) G y6 (kI (P:=l.prog) (w:=w) (base:=base) y6.F T ) (bd3 y6.F fun _ _ _ _ _ _ _ _ _=>rfl);have Y1:=fg (K:=aV K Tb) (aJ X) G y7 (jU (P:=l.prog) (w:=w) (base:=base) y7.F T ) (bd3 y7.F fun _ _ _ _ _ _ _ _ _=>rfl);have ga8:=fg (K:=aV K Tb) (aJ X) G y8 (qN (P:=l.prog) (w:=w) (base:=base) y8.F T ) (bd1 y8.F fun _ _ _ _ _ _ _=>rfl);have G0:=fg (K:=aV K Tb) (aJ X) G y9 (uE (P:=l.prog) (w:=w) (base:=base) y9.F T ) (bd2 y9.F fun _ _ _ _ _ _ _ _=>rfl);have ga2:=fg (K:=aV K Tb) (aJ X) G y10 (qC (P:=l.prog) (w:=w) (base:=base) y10.F T ) (bd2 y10.F fun _ _ _ _ _ _ _ _=>rfl);have gb3:=fg (K:=aV K Tb) (aJ X) G y11 (uA (P:=l.prog) (w:=w) (base:=base) y11.F T ) (bd2 y11.F fun _ _ _ _ _ _ _ _=>rfl);have Y3:=fg (K:=aV K Tb) (aJ X) G y12 (uo (P:=l.prog) (w:=w) (base:=base) y12.F T ) (bd2 y12.F fun _ _ _ _ _ _ _ _=>rfl);have Y0:=fg (K:=aV K Tb) (aJ X) G y13 (me (P:=l.prog) (w:=w) (base:=base) y13.F T ) (bd1 y13.F fun _ _ _ _ _ _ _=>rfl);have Y7:=fg (K:=aV K Tb) (aJ X) G y14 (nX (P:=l.prog) (w:=w) (base:=base) y14.F T G3) (bd3 y14.F fun _ _ _ _ _ _ _ _ _=>rfl);have G9:=fg (K:=aV K Tb) (aJ X) G y15 (iN (P:=l.prog) (w:=w) (base:=base) y15.F T G3) (bd2 y15.F fun _ _ _ _ _ _ _ _=>rfl);have G2:=fg (K:=aV K Tb) (aJ X) G y16 (gJ (P:=l.prog) (w:=w) (base:=base) y16.F T G8) (bd1 y16.F fun _ _ _ _ _ _ _=>rfl);have ga6:=fg (K:=aV K Tb) (aJ X) G y17 (oR (P:=l.prog) (w:=w) (base:=base) y17.F T Y1 Y6 Y8) (bd3 y17.F fun _ _ _ _ _ _ _ _ _=>rfl);have ga1:=fg (K:=aV K Tb) (aJ X) G y18 (uB (P:=l.prog) (w:=w) (base:=base) y18.F T ga8) (bd2 y18.F fun _ _ _ _ _ _ _ _=>rfl);have ga7:=fg (K:=aV K Tb) (aJ X) G y19 (qF (P:=l.prog) (w:=w) (base:=base) y19.F T G0) (bd1 y19.F fun _ _ _ _ _ _ _=>rfl);have gb0:=fg (K:=aV K Tb) (aJ X) G y20 (rg (P:=l.prog) (w:=w) (base:=base) y20.F T G0) (bd2 y20.F fun _ _ _ _ _ _ _ _=>rfl);have G7:=fg (K:=aV K Tb) (aJ X) G y21 (rS (P:=l.prog) (w:=w) (base:=base) y21.F T ga2) (bd3 y21.F fun _ _ _ _ _ _ _ _ _=>rfl);have ga0:=fg (K:=aV K Tb) (aJ X) G y22 (xg (P:=l.prog) (w:=w) (base:=base) y22.F T G0) (bd4 y22.F fun _ _ _ _ _ _ _ _ _ _=>rfl);have Y4:=fg (K:=aV K Tb) (aJ X) G y23 (jY (P:=l.prog) (w:=w) (base:=base) y23.F T Y7) (bd4 y23.F fun _ _ _ _ _ _ _ _ _ _=>rfl);have Y9:=fg (K:=aV K Tb) (aJ X) G y24 (kX (P:=l.prog) (w:=w) (base:=base) y24.F T ga4 G9) (bd3 y24.F fun _ _ _ _ _ _ _ _ _=>rfl);have ga3:=fg (K:=aV K Tb) (aJ X) G y25 (nP (P:=l.prog) (w:=w) (base:=base) y25.F T G7) (bd3 y25.F fun _ _ _ _ _ _ _ _ _=>rfl);have G6:=fg (K:=aV K Tb) (aJ X) G y26 (pk (P:=l.prog) (w:=w) (base:=base) y26.F T Y4) (bd3 y26.F fun _ _ _ _ _ _ _ _ _=>rfl);have gb4:=fg (K:=aV K Tb) (aJ X) G y27 (uz (P:=l.prog) (w:=w) (base:=base) y27.F T G0 ga3 G7) (bd5 y27.F fun _ _ _ _ _ _ _ _ _ _ _=>rfl);have G5:=fg (K:=aV K Tb) (aJ X) G y28 (mB (P:=l.prog) (w:=w) (base:=base) y28.F T G6) (bd2 y28.F fun _ _ _ _ _ _ _ _=>rfl);have gb2:=fg (K:=aV K Tb) (aJ X) G y29 (t9 (P:=l.prog) (w:=w) (base:=base) y29.F T gb4 gb3) (bd6 y29.F fun _ _ _ _ _ _ _ _ _ _ _ _=>rfl);have Y5:=fg (K:=aV K Tb) (aJ X) G y30 (jW (P:=l.prog) (w:=w) (base:=base) y30.F T G5 G2 G4 G8) (bd2 y30.F fun _ _ _ _ _ _ _ _=>rfl);have ga5:=fg (K:=aV K Tb) (aJ X) G y31 (nY (P:=l.prog) (w:=w) (base:=base) y31.F T G2 G5 G4 Y9) (bd2 y31.F fun _ _ _ _ _ _ _ _=>rfl);have ga9:=fg (K:=aV K Tb) (aJ X) G y32 (rN (P:=l.prog) (w:=w) (base:=base) y32.F T Y5 Y2 ga6 ga5) (bd3 y32.F fun _ _ _ _ _ _ _ _ _=>rfl);have G1:=fg (K:=aV K Tb) (aJ X) G y33 (rH (P:=l.prog) (w:=w) (base:=base) y33.F T ga9) (bd3 y33.F fun _ _ _ _ _ _ _ _ _=>rfl);have gb1:=fg (K:=aV K Tb) (aJ X) G y34 (qV (P:=l.prog) (w:=w) (base:=base) y34.F T G1 Y0 Y3) (bd5 y34.F fun _ _ _ _ _ _ _ _ _ _ _=>rfl);exact Be y35.F T ga1 ga7 gb0 ga0 G1 G0 gb1 gb2
end My
namespace PySem.W.Fast
def tw10233818151890516534:=Nat
def tw10365253610886769837:=Nat
def tw10548723525676825135:=Nat
def tw10570549461656526617:=Nat
def tw10570938240050056149:=Nat
def tw1068708560279577439:=Nat
def tw11033868965850010277:=Nat
def tw11134566236556833137:=Nat
def tw11159997579417365519:=Nat
def tw11176696964428469932:=Nat
def tw11182902375781668636:=Nat
def tw11183599043146809286:=Nat
def tw11194354070979027062:=Nat
def tw11400900845352665864:=Nat
def tw11471887611939927250:=Nat
def tw11664486288745277037:=Nat
def tw11723692094222505156:=Nat
def tw11855450546756534263:=Nat
def tw11914349415170817611:=Nat
def tw12175949807074918722:=Nat
def tw12336423225517579642:=Nat
def tw12387588561032561233:=Nat
def tw1263843429380493722:=Nat
def tw12753302914700547115:=Nat
def tw12791197242640684940:=Nat
def tw1295687579520568062:=Nat
def tw12958241401406034176:=Nat
def tw13368682076858283277:=Nat
def tw13794577895532373305:=Nat
def tw13858954847138910793:=Nat
def tw13866088970472138404:=Nat
def tw13922818042899172811:=Nat
def tw14098433874684642583:=Nat
def tw14103164225105305179:=Nat
def tw14242566090190864484:=Nat
def tw14272747182491400737:=Nat
def tw14305637645457271533:=Nat
def tw1441325506239501082:=Nat
def tw14529129373360341682:=Nat
def tw14759406136201446512:=Nat
def tw14879365593158456193:=Nat
def tw14883565429728484528:=Nat
def tw15083153292284799783:=Nat
def tw15319281625825493999:=Nat
def tw15548308367205239742:=Nat
def tw15668787372252348370:=Nat
def tw15695938578075089617:=Nat
def tw15938764174608451755:=Nat
def tw1619009903198913831:=Nat
def tw16202398987203330624:=Nat
def tw16219378676482330368:=Nat
def tw16268151765571570857:=Nat
def tw16414641394101414632:=Nat
def tw16456219482052004984:=Nat
def tw16853572502020893384:=Nat
def tw16903633400970957185:=Nat
def tw17141635969680389769:=Nat
def tw17161010925872961655:=Nat
def tw17316168250143408093:=Nat
def tw17355678569918794722:=Nat
def tw17454219756363145025:=Nat
def tw17729181161191531175:=Nat
def tw17823343380912256159:=Nat
def tw17857304948792604523:=Nat
def tw17939110654789172142:=Nat
def tw18108225385924452780:=Nat
def tw18261460916983181790:=Nat
def tw18325633233607313744:=Nat
def tw1968595684278256070:=Nat
def tw1970824698110577072:=Nat
def tw2103785324380351163:=Nat
def tw2171334212929284473:=Nat
def tw2471537615028173659:=Nat
def tw2586629701800675620:=Nat
def tw2719910043598788498:=Nat
def tw2960408922359262389:=Nat
def tw3135687558951952383:=Nat
def tw3209732861072902824:=Nat
def tw3457394814649126875:=Nat
def tw3693528369345520405:=Nat
def tw3790703993848693591:=Nat
def tw4067931541155435624:=Nat
def tw4256373344897573978:=Nat
def tw4418093113044156106:=Nat
def tw445178955048176687:=Nat
def tw4514858187012962311:=Nat
def tw4617569417461764059:=Nat
def tw4731649650220272117:=Nat
def tw4781705481750781747:=Nat
def tw4819241846825179925:=Nat
def tw4830541591118602676:=Nat
def tw4976782019022886380:=Nat
def tw5256945749271875518:=Nat
def tw5372150491866573906:=Nat
def tw5422836026938272357:=Nat
def tw5512852728982637088:=Nat
def tw5529047557757275875:=Nat
def tw5529661639790179514:=Nat
def tw5594823947013522437:=Nat
def tw5605111160110872205:=Nat
def tw5640088428863543299:=Nat
def tw5751228123207293772:=Nat
def tw5814469714064333006:=Nat
def tw5821132628453339352:=Nat
def tw5832648957574790731:=Nat
def tw5970130843904948208:=Nat
def tw6057805767994711490:=Nat
def tw6080126404773923180:=Nat
def tw6154722781928179170:=Nat
def tw6272956237237794291:=Nat
def tw6493702797428781112:=Nat
def tw6493743742981328100:=Nat
def tw6836601668570794724:=Nat
def tw7209294268249093150:=Nat
def tw7279029789615677455:=Nat
def tw7340944078777505669:=Nat
def tw7662981630837225031:=Nat
def tw7676627345288077432:=Nat
def tw7833583074062079790:=Nat
def tw7841777848182672813:=Nat
def tw7866337900119847148:=Nat
def tw7988351327512612528:=Nat
def tw8012739555831667456:=Nat
def tw8066893852448894485:=Nat
def tw8080626241158563588:=Nat
def tw8151389839822762311:=Nat
def tw8205526848176231409:=Nat
def tw8293056307228036819:=Nat
def tw838234268585444840:=Nat
def tw8410182034042090957:=Nat
def tw8410391535608182532:=Nat
def tw8485928374784723026:=Nat
def tw8501469611878906606:=Nat
def tw851500307717568099:=Nat
def tw8523440184528381565:=Nat
def tw8572868048917008987:=Nat
def tw8777618657276393353:=Nat
def tw8814701299062506775:=Nat
def tw9052113802976762395:=Nat
def tw9254810503146369112:=Nat
def tw9269507603854726477:=Nat
def tw9421284149512173230:=Nat
def tw959689429059415678:=Nat
def tw9604055605819931121:=Nat
def tw9673036405593007472:=Nat
def tw9762400943857972678:=Nat
def tw9810346701284850110:=Nat
end PySem.W.Fast
open PySem PySem.W PyProof.Rows
set_option maxRecDepth 100000 in
set_option maxHeartbeats 0 in
theorem PySem.Challenge.cw_wordwishes_k33_whole_comes_goes_on_holds : PySem.Challenge.rw_wordwishes_k33_whole_comes_goes_on.Holds := by
 w_on;o_law;z_head;(case hw=>w_witness2)
 k_fill
 refine L2.xI (fun _=>rfl) ?_;refine L2.A2 (S:=My.S_law) My.CJ (k:=10) (x:="_law_script") (l:=PySem.Challenge.rw_wordwishes_k33_whole_comes_goes_on) ⟨rfl,by decide,by decide⟩ rfl rfl (fun w h Y=>Y) ?F
 case F =>
  intro w mg fa h KX G hmg
  refine' My.Ca KX G hmg ?_ ?_ ?_ ?_ ?_ ?_ ?_ ?_ ?_ ?_ ?_ ?_ ?_ ?_ ?_ ?_ ?_ ?_ ?_ ?_ ?_ ?_ ?_ ?_ ?_ ?_ ?_ ?_ ?_ ?_ ?_ ?_ ?_ ?_ ?_ ?_ ?_ ?_ ?_ ?_ ?_ ?_ ?_ ?_ ?_ ?_ ?_ ?_ ?_ ?_ ?_ ?_ ?_ ?_
  all_goals try first|exact L2.Dt (by k_is) (by k_is) (by k_is) (by k_is)|exact L2.vO (by k_is) (by k_is) (by k_is)|k_is|exact rfl
