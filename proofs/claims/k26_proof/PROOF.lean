import PyProof.Rows.All
import Wide.All
import OpenK.AllK
import Wide.FinOn
import Lean
import PyProof.EqAt
import PyProof.EqKinds
import PyProof.TupleCall
import KE.KRevIter
import PyProof.NeKinds
import PyProof.Draws
import PyProof.EnumMake
import KE.KSortTup
import PyProof.ZipIter
import KE.KDictList
import PyProof.AttrMissHeap
import KE.KDictOf
import PySem.Challenge.RW_wordwishes_k26_drawings_counted
set_option Elab.async false
set_option linter.all false
set_option maxRecDepth 100000
set_option maxHeartbeats 4000000
set_option compiler.extract_closed false
noncomputable section
open PySem.W renaming Frag->o0,cellsFrom_some->O9,emptyDict->P5,instObj->R3,findIn->S8,keepIn->V5,fnOf->X5
open PySem renaming Value->s0,wpAny_bind->t3,Shared->I0,sizeLine->J0,wpAny_pure->J3,starEach->J5,Addr->J9,Builtin->K3,Expr->K4,wpAny->K5,NameKind->K8,model->L3,mem_of_lookup->L4,compareOp->L7,Program->L8,Heap->L9,wpAny_newObj_type->N3,foldedSetIterable->O0,Around->O3,behindInMarks->P0,World->P2,bootBuiltins->P3,assignEach->P4,binaryOp->P9,cellsFrom->Q0,wpAny_callSpecial?_slot->Q9,wpAny_truthy_bool->R1,Paired->S0,wpAny_mono->S5,sysModules->T1,backTo->T3,wpAny_passesOwn->T4,eval->T7,mainGlobals->T8,attributeBase->U2,FuncData->U3,wpAny_field->U5,wpAny_getItem_str_slice->U6,swapsWith->U7,Spec->U8,Scope->U9,tupleKind_room_in1->V1,wpAny_call_entry->V6,wpAny_holding->W1,wpAny_Call_Name_kw->W4,wpAny_loadPart'->W6,sliceBounds->X0,cLine->X7,Keyword->X8,assign->X9,swapsWithSole->Y0,swappedStores->Y1,holding->Y3,wpAny_execs_nil->Y4,letOwnedTupleGo->Y5,getItem->Y8,keywordEach->Y9,post_val_or_str->Z1,codeAny->Z4,newFunctionEnv->Z6,Stmt->Z7,call_meets->Z9,comprehension->aa1,sizeLine_eq->aa2,subscripted->aa5,relabel->aa6,CmpOp->aa7,tupleKind->aa8,Within->aa9,PassesOwn->ab0,codeAny_mono->ab1,wpAny_typeOf->ab2,Operator->ab5,typeIs_int->ab7,IsRangeIter->ac1,callerA->ac2,inplaceOp->ac3,IsPart->ac4,backToKw->ac5,valueAt->ac8,compEnvC->ac9,standAt->ad3,unaryOp->ad4,DictEntry->ad5,BindsTo->ad6
open PySem.Heap renaming get?_push_of_some->u8,get?_push_size->J6,lt_size->J7,size_push->R0,SameBut->S7
open List renaming size_toArray->J1,mem_append_right->K1,replicate->K2,lookup_cons->K7,mem_cons_of_mem->L5,getElem?_eq_some_iff->N0,map_cons->N2,length_append->N4,getElem?_append_left->N6,mem_cons_self->N8,length_cons->N9,mem_cons->O4,mem_singleton->O5,getElem?_map->O7,replicate_succ->Q6,any_cons->Q7,filterMap_cons->R4,find?_cons->R6,getElem?_set_self->R9,getElem?_append_right->S1,all_eq_true->S6,lookup->S9,flatten_cons->T5,getElem?_replicate->U4,mem_filterMap->V0,length_map->V2,mem_append_left->V3,getElem?_set_ne->V4,range->V7,length_nil->W3,nodup_cons->W5,all_cons->W7,reverse_cons->X1,append_nil->Y6,length->aa3,foldl->ac7
open Nat renaming le_refl->J4,lt_of_lt_of_le->J8,ne_of_lt->K0,le_trans->M9,lt_succ_of_lt->N7,lt_succ_self->P1,lt_irrefl->P7,zero_le->U1,ne_of_gt->V8,le_of_succ_le->X4,le_succ->Y7
open PyProof.Rows renaming slot_tuple_getitem->K6,callWith_type1->R5,AllBare->Z3,slicePart_none->Z5,kindOf->Z8,tupleItemsOf_->aa4,envOfC->ab8,Subscript_->ac6,IsTup->ad2
open Option.some renaming inj->K9
open PySem.Builtin.Tuple renaming tupleExact->L1,tupleItemsOf->S3
open Bool renaming and_eq_true->L6,false_ne_true->N1,false_eq_true->O8
open PySem.NameKind renaming free->M7,cell->Q8
open Option renaming some->N5,isSome_iff_exists->P6,map_some->R8
open PySem.Builtin.Slice renaming slicePlaces->O1,sliceApplied->S2
open PySem.Value renaming ref->O2,none->W8,type->Y2,int->ad0,str->ad1
open PySem.SeqAt renaming EqAt->O6
open PySem.Builtin.Range renaming rangeSize->P8
open False renaming elim->Q5
open ForInStep renaming yield->R7
open PySem.F renaming slot_tuple_iterator_next->S4,slot_int_rmul->Z0
open PySem.Builtin.SmallTypes renaming nextOf->T0
open PySem.Builtin.List renaming listTooLong->T6
open Array renaming length_toList->T9
open PySem.Builtin.Str renaming occurrences->U0
open True renaming intro->V9
open Pure renaming pure->W0
open Ne renaming symm->W9
open PySem.Str renaming ofString->X6
open PySem.Paired renaming length->aa0
open PySem.Txt renaming slice->ab3,slice_le->ab4
open PySem.Obj renaming mapSeq->ab6
open Sum renaming inl->ab9,inr->ac0
open LawfulMonad renaming pure_bind->ad7
/-! THE HAND LAYER,for ints,bools,texts,own classes,LISTS and tuples (index,slices,in,append,pop ..),calls,loops. Paste it whole ahead of your own text;what your proof does not reach may be deleted. -/
namespace L2
open PySem PySem.Spec PyProof.Rows
abbrev Key:=Sum Int Str
def nq:Key->s0->Bool
 |.inl k,v=>s0.isInt k v
 |.inr x,v=>s0.isStrOf x v
def Ik(w:P2):Key->Int
 |.inl k=>hashInt k
 |.inr x=>hashStr w x
theorem bC:∀{k:Key}{v:s0},nq k v=true->(∃i t,k=ab9 i/\v=ad0 i t)∨(∃x t,k=ac0 x/\v=ad1 x t)
 |.inl i,v,h=>by
  obtain⟨t,e⟩:=s0.isInt_shape (k:=i) (v:=v) h
  exact .inl ⟨i,t,rfl,e⟩
 |.inr x,v,h=>by
  obtain⟨t,e⟩:=s0.isStrOf_shape (x:=x) (v:=v) h
  exact .inr ⟨x,t,rfl,e⟩
theorem wQ(i:Int) (t:Tok):nq (.inl i) (.int i t)=true:=by simp[nq,s0.isInt]
theorem wN(x:Str) (t:Tok):nq (.inr x) (.str x t)=true:=by simp[nq,s0.isStrOf]
theorem EH(a b:Int):decide ((ab9 a:Key)=ab9 b)=(a==b):=by
 by_cases e:a=b
 ·subst e;simp
 ·have h:¬ (ab9 a:Key)=ab9 b:=fun q=>e (ab9.inj q)
  rw[decide_eq_false h]
  exact(beq_eq_false_iff_ne.mpr e).symm
theorem Fp(a b:Str):decide ((ac0 a:Key)=ac0 b)=decide (a=b):=by
 by_cases e:a=b
 ·subst e;simp
 ·have h:¬ (ac0 a:Key)=ac0 b:=fun q=>e (ac0.inj q)
  rw[decide_eq_false h,decide_eq_false e]
theorem EN(a:Int) (b:Str):decide ((ab9 a:Key)=ac0 b)=false:=decide_eq_false (fun q=>nomatch q)
theorem C6(a:Str) (b:Int):decide ((ac0 a:Key)=ab9 b)=false:=decide_eq_false (fun q=>nomatch q)
def aO(prog:L8) (w:P2):PySem.KeyKind prog w Key where
 is:=nq
 hash:=Ik w
 inj:=fun v a b ha hb=>by
  rcases bC ha with⟨i,t,rfl,rfl⟩|⟨x,t,rfl,rfl⟩
  ·rcases bC hb with⟨j,u,rfl,e⟩|⟨y,u,rfl,e⟩
   ·injection e with e1 _;rw[e1]
   ·exact nomatch e
  ·rcases bC hb with⟨j,u,rfl,e⟩|⟨y,u,rfl,e⟩
   ·exact nomatch e
   ·injection e with e1 _;rw[e1]
 byValue:=fun k v h=>by
  rcases bC h with⟨i,t,rfl,rfl⟩|⟨x,t,rfl,rfl⟩<;>rfl
 pyHash:=fun hv h=>by
  rcases bC hv with⟨i,t,rfl,rfl⟩|⟨x,t,rfl,rfl⟩
  ·exact wpAny_pyHash_int h
  ·exact wpAny_pyHash_str h
 eqBool:=fun hu hv h=>by
  rcases bC hu with⟨i,t,rfl,rfl⟩|⟨x,t,rfl,rfl⟩
  ·rcases bC hv with⟨j,u,rfl,rfl⟩|⟨y,u,rfl,rfl⟩
   ·rw[EH]at h;exact wpAny_eqBool_int h
   ·rw[EN]at h;exact O6.int_str i t y u _ _ _ _ h
  ·rcases bC hv with⟨j,u,rfl,rfl⟩|⟨y,u,rfl,rfl⟩
   ·rw[C6]at h;exact O6.str_int x t j u _ _ _ _ h
   ·rw[Fp]at h;exact wpAny_eqBool_str h
 «strs»:=fun k x t v h=>by
  rcases bC h with⟨i,u,rfl,e⟩|⟨y,u,rfl,e⟩
  ·exact nomatch e
  ·injection e with e1 _
   subst e1
   cases v<;>rfl
theorem qG(prog:L8) (w:P2) (i:Int) (t:Tok):(aO prog w).is (.inl i) (.int i t)=true:=wQ i t
theorem qF(prog:L8) (w:P2) (x:Str) (t:Tok):(aO prog w).is (.inr x) (.str x t)=true:=wN x t
inductive V where
 |non|bl (b:Bool)|int (i:Int)|str (x:Str)|byt (b:Array UInt8)|flt (b:UInt64)|ref (a:J9)|ty (n:String)
 deriving DecidableEq
def aD:V->s0->Prop
 |.non,u=>u=W8
 |.bl b,u=>u=s0.bool b
 |.int i,u=>∃t,u=ad0 i t
 |.str x,u=>∃t,u=ad1 x t
 |.byt b,u=>∃t,u=s0.bytes b t
 |.flt b,u=>∃t,u=s0.float b t
 |.ref a,u=>u=O2 a
 |.ty n,u=>u=Y2 n
abbrev aA:List V->List s0->Prop:=S0 aD
theorem aA.length{xs:List V}{us:List s0}(r:aA xs us):xs.length=us.length:=aa0 r
theorem aA.get:∀{xs:List V}{us:List s0}{i:Nat}{x:V},aA xs us->xs[i]?=some x->∃u,us[i]?=some u/\aD x u
 |_,_,_,_,.nil,e=>by simp at e
 |_,_,0,_,.cons r _,e=>by simp at e;subst e;exact⟨_,rfl,r⟩
 |_,_,i+1,x,.cons _ t,e=>by
  obtain⟨u,h1,h2⟩:=aA.get (i:=i) (x:=x) t (by simpa using e)
  exact⟨u,by simpa using h1,h2⟩
theorem aA.set{x:V}{u:s0}(r:aD x u):∀{xs:List V}{us:List s0}(i:Nat),aA xs us->aA (xs.set i x) (us.set i u)
 |_,_,_,.nil=>.nil
 |_,_,0,.cons _ t=>.cons r t
 |_,_,i+1,.cons q t=>.cons q (aA.set r i t)
theorem aA.append:∀{xs ys:List V}{us ws:List s0},aA xs us->aA ys ws->aA (xs++ys) (us++ws)
 |_,_,_,_,.nil,s=>s
 |_,_,_,_,.cons r t,s=>.cons r (aA.append t s)
theorem aA.take:∀{xs:List V}{us:List s0}(n:Nat),aA xs us->aA (xs.take n) (us.take n)
 |_,_,0,_=>.nil
 |_,_,_+1,.nil=>.nil
 |_,_,n+1,.cons r t=>.cons r (aA.take n t)
theorem aA.drop:∀{xs:List V}{us:List s0}(n:Nat),aA xs us->aA (xs.drop n) (us.drop n)
 |_,_,0,r=>r
 |_,_,_+1,.nil=>.nil
 |_,_,n+1,.cons _ t=>aA.drop n t
def iA:Option V->Option s0->Prop
 |some v,some u=>aD v u
 |none,none=>True
 |_,_=>False
def KV{κ:Type}:List (κ×V)->List (κ×s0)->Prop:=S0 fun(p:κ×V) (q:κ×s0)=>p.1=q.1/\aD p.2 q.2
def kV:Key->V
 |.inl i=>.int i
 |.inr x=>.str x
inductive HO where
 |lst (xs:List V)
 |tup (xs:List V)
 |dK (kvs:List (Key×V))|dT (kvs:List (List Key×V))
 |set (S:Int->Bool) (n:Nat)
 |ins (C dx:J9) (fs:List (Str×V))
 |own (x:J9)
 |xd (fs:List (Str×V))
 |met (f x:J9)
 |rng (lo hi:Int)
 |frz (o:Obj) (u:HO)
 |tbl (ps:Array s0)
 |ext (φ:L9->Prop)
abbrev Hp:=J9->Option HO
def upd(H:Hp) (a:J9) (o:HO):Hp:=fun b=>if b=a then some o else H b
theorem aC{H:Hp}{a:J9}{o:HO}:upd H a o a=some o:=by unfold upd;rw[if_pos rfl]
theorem aI{H:Hp}{a b:J9}{o:HO}(h:b≠a):upd H a o b=H b:=by unfold upd;rw[if_neg h]
theorem CU{H:Hp}{a b:J9}{o u:HO}(h:H a=some o) (h':H b=some u) (d:o≠u):a≠b:=by
 intro e;subst e;rw[h]at h';exact d (K9 h')
theorem bW{H:Hp}{a b:J9}{o:HO}(h:H a=some o) (h':H b=none):a≠b:=by
 intro e;subst e;rw[h]at h';cases h'
def iR(h:L9) (a:J9) (xs:Array s0):Prop:=∃o,h.get? a=some o/\o.cls=.type "tuple"/\(∃n,o.data=.seq xs n)/\o.dict=none
theorem iR.tup{h:L9}{a:J9}{xs:Array s0}(x:iR h a xs):ad2 h a xs:=let⟨o,e,c,d,_⟩:=x;⟨o,e,c,d⟩
theorem iR.lt{h:L9}{a:J9}{xs:Array s0}(x:iR h a xs):a<h.objs.size:=let⟨_,e,_⟩:=x;J7 e
theorem iR.new(h:L9) (xs:Array s0):iR (h.push { cls:=.type "tuple",data:=.seq xs }) h.objs.size xs:=⟨_,J6 h rfl,rfl,⟨_,rfl⟩,rfl⟩
section
variable(P:L8) (w:P2)
def cu(H:Hp) (h:L9) (a:J9):HO->Prop
 |.lst xs=>xs.length<=J0/\∃(its:List s0) (n:Nat),aA xs its/\h.get? a=some { cls:=.type "list",data:=.seq its.toArray n }
 |.tup xs=>xs.length<=J0/\∃its:List s0,aA xs its/\iR h a its.toArray
 |.dK kvs=>kvs.length<=J0/\(a==T1)=false/\∃vs,KV kvs vs/\h.DictOf (aO P w) a vs
 | .dT kvs => kvs.length ≤ J0 ∧ (a == T1) = false ∧ ∃ xs:List (List Key × J9 × s0),
   S0 (fun(p:List Key×V) (q:List Key×J9×s0)=>p.1=q.1/\H q.2.1=some (.tup (p.1.map kV))/\aD p.2 q.2.2) kvs xs /\
   ∃o es ep,h.get? a=some o/\o.ExactDict/\o.data=.dict es ep/\es.toList=xs.map (entryOfKey (aa8 (aO P w)))/\(xs.map (·.1)).Nodup
 |.set S n=>h.SetOf (intKind P w) a S n
 | .ins C dx fs => H dx = some (.own a) ∧ fs.length ≤ 1000 ∧ dx ≠ a ∧ h.get? a = some (R3 C dx) ∧
   ∃mA,h.Ns1 dx mA/\(∀f,iA (fs.lookup f) (mA f))/\aa9 mA (fs.map (·.1))
 |.own _=>∃o,h.get? a=some o
 |.xd fs=>∃mA,h.Ns1 a mA/\∀f,iA (fs.lookup f) (mA f)
 |.rng lo hi=>∃t u v,h.get? a=some { cls:=.type "range",data:=.fields #[.int lo t,.int hi u,.int 1 v] }
 |.frz o u=>h.get? a=some o/\cu H h a u
 |.tbl ps=>h.get? a=some { cls:=.none,data:=.fields ps }
 |.met f x=>h.get? a=some (PySem.W.methodObj (.ref f) (.ref x))
 |.ext φ=>φ h/\(∃o,h.get? a=some o)/\∀h1 h2:L9,φ h1->(∀o,h1.get? a=some o->h2.get? a=some o)->φ h2
def HOk(H:Hp) (h:L9):Prop:=∀a o,H a=some o->cu P w H h a o
end
section
variable{P:L8}{w:P2}{H H':Hp}{h h':L9}{a:J9}{o:HO}
theorem cu.lt(x:cu P w H h a o):a<h.objs.size:=by
 cases o with
 |lst xs=>obtain⟨_,_,_,_,e⟩:=x;exact J7 e
 |tup xs=>obtain⟨_,_,_,p⟩:=x;exact p.lt
 |dK kvs=>obtain⟨_,_,_,_,o,_,_,e,_⟩:=x;exact J7 e
 |dT kvs=>obtain⟨_,_,_,_,o,_,_,e,_⟩:=x;exact J7 e
 |set S n=>obtain⟨o,_,_,_,e,_⟩:=x;exact J7 e
 |ins C dx fs=>obtain⟨_,_,_,e,_⟩:=x;exact J7 e
 |own y=>obtain⟨_,e⟩:=x;exact J7 e
 |xd fs=>obtain⟨_,⟨_,_,_,e,_⟩,_⟩:=x;exact J7 e
 |rng lo hi=>obtain⟨_,_,_,e⟩:=x;exact J7 e
 |frz ob u=>obtain⟨e,_⟩:=x;exact J7 e
 |tbl ps=>exact J7 (show h.get? a=some _ from x)
 |met f y=>exact J7 (show h.get? a=some _ from x)
 |ext φ=>obtain⟨_,⟨_,e⟩,_⟩:=x;exact J7 e
theorem S0.mapP{α β:Type}{F G:α->β->Prop}:∀{l₁:List α}{l₂:List β},S0 F l₁ l₂->(∀a b,F a b->G a b)->S0 G l₁ l₂
 |_,_,.nil,_=>.nil
 |_,_,.cons r t,f=>.cons (f _ _ r) (S0.mapP t f)
theorem S0.imp'{α β:Type}{F G:α->β->Prop}(f:∀a b,F a b->G a b) {l₁:List α}{l₂:List β}(r:S0 F l₁ l₂):S0 G l₁ l₂:=S0.mapP r f
theorem cu.stay(x:cu P w H h a o) (k:∀b u,(b=a∨H b=some (.own a))->h.get? b=some u->h'.get? b=some u)
  (ho:∀b,H b=some (.own a)->H' b=some (.own a)) (ht:∀b xs,H b=some (.tup xs)->H' b=some (.tup xs)):cu P w H' h' a o:=by
 induction o with
 |lst xs=>obtain⟨z,its,n,r,e⟩:=x;exact⟨z,its,n,r,k _ _ (.inl rfl) e⟩
 |tup xs=>obtain⟨z,its,r,ob,e,c⟩:=x;exact⟨z,its,r,ob,k _ _ (.inl rfl) e,c⟩
 |dK kvs=>obtain⟨z,y,vs,r,ob,es,ep,e,c⟩:=x;exact⟨z,y,vs,r,ob,es,ep,k _ _ (.inl rfl) e,c⟩
 |dT kvs =>
  obtain⟨z,y,xs,r,ob,es,ep,e,c⟩:=x
  exact⟨z,y,xs,S0.mapP r fun p q z=>⟨z.1,ht _ _ z.2.1,z.2.2⟩,ob,es,ep,k _ _ (.inl rfl) e,c⟩
 |set S n=>obtain⟨ob,es,ep,t,e,c⟩:=x;exact⟨ob,es,ep,t,k _ _ (.inl rfl) e,c⟩
 |ins C dx fs =>
  obtain⟨d,z,ne,e,mA,⟨od,es,ep,e2,c⟩,r⟩:=x
  exact⟨ho _ d,z,ne,k _ _ (.inl rfl) e,mA,⟨od,es,ep,k _ _ (.inr d) e2,c⟩,r⟩
 |own y=>obtain⟨ob,e⟩:=x;exact⟨ob,k _ _ (.inl rfl) e⟩
 |xd fs=>obtain⟨mA,⟨od,es,ep,e,c⟩,r⟩:=x;exact⟨mA,⟨od,es,ep,k _ _ (.inl rfl) e,c⟩,r⟩
 |rng lo hi=>obtain⟨t,u,v,e⟩:=x;exact⟨t,u,v,k _ _ (.inl rfl) e⟩
 |frz ob u ih=>obtain⟨e,q⟩:=x;exact⟨k _ _ (.inl rfl) e,ih q⟩
 |tbl ps =>
  have e:h.get? a=some { cls:=.none,data:=.fields ps }:=x
  show h'.get? a=some { cls:=.none,data:=.fields ps }
  exact k a _ (.inl rfl) e
 |met f y =>
  have e:h.get? a=some (PySem.W.methodObj (.ref f) (.ref y)):=x
  show h'.get? a=some (PySem.W.methodObj (.ref f) (.ref y))
  exact k a _ (.inl rfl) e
 |ext φ=>obtain⟨p,⟨o,e⟩,st⟩:=x;exact⟨st _ _ p fun o q=>k _ _ (.inl rfl) q,⟨o,k _ _ (.inl rfl) e⟩,st⟩
theorem HOk.lt(x:HOk P w H h) (e:H a=some o):a<h.objs.size:=(x a o e).lt
theorem HOk.fresh(x:HOk P w H h) (e:h.objs.size<=a):H a=none:=by
 cases q:H a with
 |none=>rfl
 |some u=>exact absurd (J8 (x.lt q) e) (P7 _)
theorem HOk.kept(x:HOk P w H h) (k:∀b u,h.get? b=some u->h'.get? b=some u):HOk P w H h':=fun a o e =>
 (x a o e).stay (fun b u _ q=>k b u q) (fun _ q=>q) fun _ _ q=>q
theorem HOk.laid(x:HOk P w H h) (k:∀b u,h.get? b=some u->h'.get? b=some u) (hp:h.objs.size<=a) (new:cu P w (upd H a o) h' a o):HOk P w (upd H a o) h':=fun b u e=>by
 have hn:=x.fresh hp
 by_cases hb:b=a
 ·subst hb;rw[aC]at e;cases e;exact new
 ·rw[aI hb]at e
  exact(x b u e).stay (fun c v _ q=>k c v q) (fun c q=>by rw[aI (bW q hn)];exact q) fun c xs q=>by rw[aI (bW q hn)];exact q
end
def Rd(H:Hp) (a:J9) (u:HO):Prop:=H a=some u∨∃o,H a=some (.frz o u)
theorem Rd.of{H:Hp}{a:J9}{u:HO}(h:H a=some u):Rd H a u:=.inl h
theorem Rd.ok{P:L8}{w:P2}{H:Hp}{h:L9}{a:J9}{u:HO}(r:Rd H a u) (x:HOk P w H h):cu P w H h a u:=by
 rcases r with r|⟨o,r⟩
 ·exact x a u r
 ·obtain⟨_,q⟩:=x a _ r
  exact q
def Mut:Option HO->Prop
 |some (.lst _)=>True
 |some (.dK _)=>True
 |some (.dT _)=>True
 |some (.set _ _)=>True
 |some (.ins _ _ _)=>True
 |some (.ext _)=>True
 |_=>False
section
variable{P:L8}{w:P2}{H:Hp}{h h':L9}{x e:J9}{o':HO}
theorem HOk.write(ok:HOk P w H h) (mu:Mut (H x)) (he:e=x∨H e=some (.own x)) (k:∀b u,b≠e->h.get? b=some u->h'.get? b=some u) (heo:∃u,h'.get? e=some u)
  (new:cu P w (upd H x o') h' x o'):HOk P w (upd H x o') h':=fun b u q=>by
 have nown:∀c y,H c=some (.own y)->c≠x:=fun c y r z=>by subst z;rw[r]at mu;exact mu
 have ntup:∀c xs,H c=some (.tup xs)->c≠x:=fun c xs r z=>by subst z;rw[r]at mu;exact mu
 by_cases hb:b=x
 ·subst hb;rw[aC]at q;cases q;exact new
 ·rw[aI hb]at q
  by_cases hbe:b=e
  ·have q':H b=some (.own x):=by
    rcases he with z|z
    ·exact absurd (hbe.trans z) hb
    ·rw[hbe];exact z
   rw[q]at q';cases q'
   obtain⟨v,hv⟩:=heo
   exact⟨v,by rw[hbe];exact hv⟩
  ·refine(ok b u q).stay (fun c v hc r=>k c v ?_ r) (fun c r=>by rw[aI (nown c b r)];exact r) fun c xs r=>by rw[aI (ntup c xs r)];exact r
   rcases hc with rfl|hc
   ·exact hbe
   ·rintro rfl
    rcases he with z|z
    ·exact nown c b hc z
    ·rw[hc]at z;cases z;exact hb rfl
end
/-! ### kept unless tracked;of the frames at fs (the callers') the slots may change (an exception that passes writes there);of the records at ex (iterators) nothing is said -/
structure Un(fs ex:List J9) (H H':Hp) (h h':L9):Prop where
 keep:∀b o,h.get? b=some o->H b=none->b∉fs->b∉ex->h'.get? b=some o
 slot:∀b o,h.get? b=some o->H b=none->b∈fs->b∉ex->∃sl,h'.get? b=some { o with slots:=sl }
 free:∀b o,h.get? b=some o->H b=none->b∉ex->H' b=none
 there:∀b o,h.get? b=some o->b∉ex->∃o',h'.get? b=some o'
 tups:∀b xs,H b=some (.tup xs)->H' b=some (.tup xs)
 frzs:∀b o u,H b=some (.frz o u)->H' b=some (.frz o u)
 tbls:∀b ps,H b=some (.tbl ps)->∃more,H' b=some (.tbl (ps++more))
section
variable{fs fs' ex ex':List J9}{H H1 H2:Hp}{h h1 h2 h':L9}{a x e:J9}{o:HO}
theorem Un.any(u:Un fs ex H H1 h h1) {b:J9}{ob:Obj}(q:h.get? b=some ob) (n:H b=none) (hx:b∉ex):∃sl,h1.get? b=some { ob with slots:=sl }:=by
 by_cases hb:b∈fs
 ·exact u.slot b ob q n hb hx
 ·exact⟨ob.slots,u.keep b ob q n hb hx⟩
theorem Un.kept(k:∀b u,h.get? b=some u->h'.get? b=some u):Un fs ex H H h h' :=
 ⟨fun b ob q _ _ _=>k b ob q,fun b ob q _ _ _=>⟨ob.slots,k b ob q⟩,fun _ _ _ n _=>n,fun b ob q _=>⟨ob,k b ob q⟩,fun _ _ q=>q,fun _ _ _ q=>q,fun _ ps q=>⟨#[],by rw[q];simp⟩⟩
theorem Un.refl:Un fs ex H H h h:=Un.kept fun _ _ q=>q
theorem Un.laid(k:∀b u,h.get? b=some u->h'.get? b=some u) (hp:h.objs.size<=a) (hn:H a=none):Un fs ex H (upd H a o) h h' where
 keep:=fun b u q _ _ _=>k b u q
 slot:=fun b u q _ _ _=>⟨u.slots,k b u q⟩
 free:=fun b u q n _=>by rw[aI (K0 (J8 (J7 q) hp))];exact n
 there:=fun b u q _=>⟨u,k b u q⟩
 tups:=fun b xs q=>by rw[aI (bW q hn)];exact q
 frzs:=fun b u xs q=>by rw[aI (bW q hn)];exact q
 tbls:=fun b ps q=>⟨#[],by rw[aI (bW q hn),q];simp⟩
theorem Un.write(mu:Mut (H x)) (he:e=x∨H e=some (.own x)) (k:∀b u,b≠e->h.get? b=some u->h'.get? b=some u) (heo:∃u,h'.get? e=some u):Un fs ex H (upd H x o) h h':=by
 have hx:∀b,H b=none->b≠x:=fun b n z=>by subst z;rw[n]at mu;exact mu
 have hb:∀b,H b=none->b≠e:=fun b n z=>by
  subst z
  rcases he with r|r
  ·exact hx b n r
  ·rw[n]at r;cases r
 have hm:∀b u,H b=some u->¬ Mut (some u)->b≠x:=fun b u q nm z=>by subst z;rw[q]at mu;exact nm mu
 refine⟨fun b u q n _ _=>k b u (hb b n) q,fun b u q n _ _=>⟨u.slots,k b u (hb b n) q⟩,fun b u q n _=>by rw[aI (hx b n)];exact n,fun b u q _=>?_,
  fun b xs q=>by rw[aI (hm b _ q fun z=>z)];exact q,fun b u xs q=>by rw[aI (hm b _ q fun z=>z)];exact q,fun b ps q=>⟨#[],by rw[aI (hm b _ q fun z=>z),q];simp⟩⟩
 by_cases hbe:b=e
 ·subst hbe;exact heo
 ·exact⟨u,k b u hbe q⟩
end
/-! ### the heap without what is tracked -/
def trk(h:L9) (H:Hp):List J9:=(V7 h.objs.size).filter fun a=>(H a).isSome
def qx(h:L9) (H:Hp):L9:=PySem.W.hideAll h (trk h H)
theorem wm(h:L9) (H:Hp):(qx h H).objs.size=h.objs.size:=PySem.W.hideAll_size _ _
theorem xC{h:L9}{H:Hp}{b:J9}{o:Obj}(e:h.get? b=some o) (n:H b=none):(qx h H).get? b=some o :=
 PySem.W.hideAll_get _ e fun hm=>by
  have q:(H b).isSome=true:=(List.mem_filter.mp hm).2
  rw[n]at q;simp at q
theorem BU{h:L9}{H:Hp}{b:J9}{o:Obj}(e:(qx h H).get? b=some o):h.get? b=some o/\H b=none:=by
 have e':h.get? b=some o:=PySem.W.of_hideAll (trk h H) e
 refine⟨e',?_⟩
 cases q:H b with
 |none=>rfl
 |some x =>
  have hm:b∈trk h H:=List.mem_filter.mpr ⟨List.mem_range.mpr (J7 e'),by simp[q]⟩
  have z:(qx h H).get? b=none:=PySem.W.hideAll_none (trk h H) hm
  rw[z]at e;cases e
/-! ### OpenK's ledger,filled with every new object but one -/
structure Mod(K:o0) (mg:Str->Option s0) (base:L9):Prop where
 kin:K.In base
 glob:base.Ns T8 mg
 blt:∃mb,base.Ns builtinsNs mb/\∀x:Str,x≠"__name__"->mb x=P3 x
 nolimit:base.NoLimit
structure Cx where
 prog:L8
 w:P2
 K:o0
 mg:Str->Option s0
 base:L9
 A:O3
 N:List Str
 s₀:I0
 H₀:Hp
 env:Env
 outer:List Env
 stack:List Env
 ex:List J9
 fn:Str->Bool
 calm:Bool
 pn:List (J9×Obj)
 xe:s0->I0->Prop
def frs(l:List Env):List J9:=l.filterMap (·.frame)
abbrev Cx.fs(X:Cx):List J9:=frs X.outer
def Vis(sc:U9) (x:Str):Prop:=sc.names.lookup x=some .local∨sc.names.lookup x=some .cell∨sc.names.lookup x=some .free
def Loc(sc:U9) (x:Str):Prop:=sc.names.lookup x=some .local∨sc.names.lookup x=some .cell
def Ig(env:Env) (h:L9) (m:Str->Option s0) (x:Str) (u:s0):Prop :=
 (env.kindOf x=some .local/\m x=some u)∨((env.kindOf x=some .cell∨env.kindOf x=some .free)/\∃c,env.cells.lookup x=some c/\h.IsCell c (some u))
structure Cx.Ok(X:Cx):Prop where
 mod:Mod X.K X.mg X.base
 kind:X.env.scope.kind=.function
 glob:X.env.globals=T8
 blt:X.env.builtins=builtinsNs
 above:X.s₀.heap.objs.size<=X.env.locals
 inj:∀x y c,X.env.cells.lookup x=some c->X.env.cells.lookup y=some c->x=y
 has:∀x,(X.env.kindOf x=some .cell∨X.env.kindOf x=some .free)->∃c,X.env.cells.lookup x=some c
 cab:∀x c,X.fn x=true->X.env.cells.lookup x=some c->X.s₀.heap.objs.size<=c
 hd:X.calm=true->X.A.handled=none
 frames:X.A.frames=some X.stack
 stk:X.stack=X.outer∨(X.stack=X.env::X.outer/\X.env.frame=some X.env.locals)
 exf:∀b∈X.ex,b≠X.env.locals/\∀x c,X.env.cells.lookup x=some c->c≠b
 bs:∀b o,X.base.get? b=some o->X.s₀.heap.get? b=some o/\X.H₀ b=none
 bsz:X.base.objs.size<=X.s₀.heap.objs.size
 noex:∀b o,X.base.get? b=some o->b∉X.ex
 exfs:∀b∈X.ex,b∉X.fs
 funs:X.s₀.heap.FunFrames X.base X.outer
 frf:∀b∈X.fs,X.H₀ b=none
structure Inv(X:Cx) (ae:List (J9×Obj)) (σ:List (Option V)) (H:Hp) (s:I0):Prop where
 ok:X.Ok
 os:s.os=X.s₀.os
 bare:Z3 s.gens
 base:Un X.fs X.ex X.H₀ H X.s₀.heap s.heap
 loc:∃m,s.heap.Ns X.env.locals m/\∀(i:Nat) (x:Str) (v:V),X.N[i]?=some x->σ[i]?=some (some v)->Vis X.env.scope x->∃u,aD v u/\Ig X.env s.heap m x u
 cell:∀x c,X.env.cells.lookup x=some c->∃v,s.heap.IsCell c v
 free:H X.env.locals=none
 freeC:∀x c,X.env.cells.lookup x=some c->H c=none
 pin:∀p∈X.pn++ae,s.heap.get? p.1=some p.2/\H p.1=none/\p.1≠X.env.locals/\p.1∉X.fs/\∀v,p.2.data≠.cell v
 hok:HOk X.prog X.w H s.heap
 len:σ.length=X.N.length
section
variable{X:Cx}{ae:List (J9×Obj)}{σ:List (Option V)}{H H':Hp}{s:I0}{h':L9}
theorem Cx.Ok.nofr(ok:X.Ok) {b:J9}{o:Obj}(e:X.base.get? b=some o):b∉X.fs:=fun hb=>by
 have:=(ok.funs.mem hb).1
 rw[e]at this;cases this
theorem Inv.bs(I:Inv X ae σ H s):∀b o,X.base.get? b=some o->s.heap.get? b=some o/\H b=none:=fun b o e =>
 ⟨I.base.keep b o (I.ok.bs b o e).1 (I.ok.bs b o e).2 (I.ok.nofr e) (I.ok.noex b o e),I.base.free b o (I.ok.bs b o e).1 (I.ok.bs b o e).2 (I.ok.noex b o e)⟩
theorem Inv.bk(I:Inv X ae σ H s):∀b o,X.base.get? b=some o->s.heap.get? b=some o:=fun b o e=>(I.bs b o e).1
theorem Inv.mod(I:Inv X ae σ H s):Mod X.K X.mg X.base:=I.ok.mod
theorem Inv.kIn(I:Inv X ae σ H s):X.K.In s.heap:=I.ok.mod.kin.keeps I.bk
theorem Inv.lt(I:Inv X ae σ H s):X.env.locals<s.heap.objs.size:=let⟨_,hn,_⟩:=I.loc;hn.lt
theorem Inv.sz(I:Inv X ae σ H s):X.s₀.heap.objs.size<=s.heap.objs.size:=M9 I.ok.above (Nat.le_of_lt I.lt)
theorem Inv.nofs(I:Inv X ae σ H s) {a:J9}(h:s.heap.objs.size<=a):a∉X.fs:=fun hb=>by
 obtain⟨_,o,ho,_⟩:=I.ok.funs.mem hb
 exact absurd (J8 (J7 ho) (M9 I.sz h)) (P7 _)
theorem Inv.cne(I:Inv X ae σ H s):∀x c,X.env.cells.lookup x=some c->c≠X.env.locals:=fun x c e z=>by
 obtain⟨v,o,ho,hd⟩:=I.cell x c e
 obtain⟨m,⟨o',es,ep,ho',hd',_⟩,_⟩:=I.loc
 rw[z,ho']at ho;cases ho;rw[hd']at hd;cases hd
theorem Inv.funs(I:Inv X ae σ H s):s.heap.FunFrames X.base X.outer:=by
 have all:∀(l:List Env),(∀b∈frs l,b∈X.fs)->X.s₀.heap.FunFrames X.base l->s.heap.FunFrames X.base l:=by
  intro l
  induction l with
  |nil=>intro _ _;trivial
  |cons env r ih =>
   intro hs hl
   obtain⟨hk,⟨L,o,hf,hn,ho,hd⟩,hr⟩:=hl
   have hL:L∈X.fs:=hs L (by unfold frs;rw[R4,hf];exact N8)
   obtain⟨sl,e⟩:=I.base.slot L o ho (I.ok.frf L hL) hL fun z=>I.ok.exfs L z hL
   exact⟨hk,⟨L,_,hf,hn,e,hd⟩,ih (fun b hb=>hs b (by unfold frs;rw[R4,hf];exact L5 _ hb)) hr⟩
 exact all X.outer (fun _ hb=>hb) I.ok.funs
theorem Inv.stack(I:Inv X ae σ H s):s.heap.FunFrames X.base X.stack:=by
 rcases I.ok.stk with e|⟨e,hf⟩
 ·rw[e];exact I.funs
 ·rw[e]
  obtain⟨m,hn,_⟩:=I.loc
  refine .cons (by rw[I.ok.kind];decide) hf hn ?_ I.funs
  exact L9.get?_none_of_le (M9 I.ok.bsz I.ok.above)
theorem Inv.stkSub(I:Inv X ae σ H s):∀b∈frs X.stack,b∈X.env.locals::X.fs:=fun b hb=>by
 rcases I.ok.stk with e|⟨e,hf⟩
 ·rw[e]at hb;exact L5 _ hb
 ·rw[e]at hb
  unfold frs at hb
  rw[R4,hf]at hb
  exact hb
theorem Inv.stkFree(I:Inv X ae σ H s):∀b∈frs X.stack,H b=none:=fun b hb=>by
 rcases O4.mp (I.stkSub b hb)with e|hb
 ·rw[e];exact I.free
 ·obtain⟨_,o,ho,_⟩:=I.ok.funs.mem hb
  exact I.base.free b o ho (I.ok.frf b hb) fun z=>I.ok.exfs b z hb
theorem Inv.step{g':Array GenState}{t':Nat}{d':Drawn}{ch:List J9}(I:Inv X ae σ H s)
  (hch:∀b∈ch,(b∈X.ex∨X.s₀.heap.objs.size<=b)/\b≠X.env.locals/\(∀x c,X.env.cells.lookup x=some c->c≠b)/\∀p∈X.pn++ae,p.1≠b)
  (keep:∀b o,b≠X.env.locals->b∉X.fs->b∉ch->s.heap.get? b=some o->H b=none->h'.get? b=some o)
  (slot:∀b o,b≠X.env.locals->b∈X.fs->b∉ch->s.heap.get? b=some o->H b=none->∃sl,h'.get? b=some { o with slots:=sl }) (free:∀b o,b∉ch->s.heap.get? b=some o->H b=none->H' b=none)
  (there:∀b o,b∉ch->s.heap.get? b=some o->∃o',h'.get? b=some o')
  (tups:∀b xs,H b=some (.tup xs)->H' b=some (.tup xs)) (frzs:∀b o u,H b=some (.frz o u)->H' b=some (.frz o u)) (tbls:∀b ps,H b=some (.tbl ps)->∃more,H' b=some (.tbl (ps++more)))
  (ns:∀m,s.heap.Ns X.env.locals m->h'.Ns X.env.locals m) (hok:HOk X.prog X.w H' h') (hg:Z3 g') :
  Inv X ae σ H' { s with heap:=h',gens:=g',drawn:=d',toks:=t' }:=by
 have neL:∀b o,X.s₀.heap.get? b=some o->b≠X.env.locals:=fun b o e=>K0 (J8 (J7 e) I.ok.above)
 have neC:∀b o,X.s₀.heap.get? b=some o->b∉X.ex->b∉ch:=fun b o e hx hb=>by
  rcases(hch b hb).1 with z|z
  ·exact hx z
  ·exact absurd (J8 (J7 e) z) (P7 _)
 have cellK:∀x c,X.env.cells.lookup x=some c->∀v,s.heap.IsCell c v->h'.IsCell c v:=fun x c e v ⟨o,ho,hd⟩=>by
  have nch:c∉ch:=fun z=>(hch c z).2.2.1 x c e rfl
  by_cases hc:c∈X.fs
  ·obtain⟨sl,q⟩:=slot c o (I.cne x c e) hc nch ho (I.freeC x c e)
   exact⟨_,q,hd⟩
  ·exact⟨o,keep c o (I.cne x c e) hc nch ho (I.freeC x c e),hd⟩
 refine⟨I.ok,I.os,hg,⟨fun b o e n hb hx=>?_,fun b o e n hb hx=>?_,fun b o e n hx=>?_,fun b o e hx=>?_,fun b xs e=>tups b xs (I.base.tups b xs e),fun b o xs e=>frzs b o xs (I.base.frzs b o xs e),fun b ps e=>?_⟩,?_,fun x c e=>?_,?_,fun x c e=>?_,fun p hp=>?_,hok,I.len⟩
 ·exact keep b o (neL b o e) hb (neC b o e hx) (I.base.keep b o e n hb hx) (I.base.free b o e n hx)
 ·obtain⟨sl,e1⟩:=I.base.slot b o e n hb hx
  obtain⟨sl',e2⟩:=slot b _ (neL b o e) hb (neC b o e hx) e1 (I.base.free b o e n hx)
  exact⟨sl',e2⟩
 ·obtain⟨o',e1⟩:=I.base.there b o e hx
  exact free b o' (neC b o e hx) e1 (I.base.free b o e n hx)
 ·obtain⟨o',e1⟩:=I.base.there b o e hx
  exact there b o' (neC b o e hx) e1
 ·obtain⟨m1,e1⟩:=I.base.tbls b ps e
  obtain⟨m2,e2⟩:=tbls b _ e1
  exact⟨m1++m2,by rw[e2,Array.append_assoc]⟩
 ·obtain⟨m,hn,hl⟩:=I.loc
  refine⟨m,ns m hn,fun i x v e1 e2 e3=>?_⟩
  obtain⟨u,r,l⟩:=hl i x v e1 e2 e3
  refine⟨u,r,?_⟩
  rcases l with l|⟨k,c,e,z⟩
  ·exact .inl l
  ·exact .inr ⟨k,c,e,cellK x c e _ z⟩
 ·obtain⟨v,z⟩:=I.cell x c e
  exact⟨v,cellK x c e v z⟩
 ·obtain⟨m,⟨o,_,_,ho,_⟩,_⟩:=I.loc
  exact free _ o (fun z=>(hch _ z).2.1 rfl) ho I.free
 ·obtain⟨v,o,ho,hd⟩:=I.cell x c e
  exact free c o (fun z=>(hch c z).2.2.1 x c e rfl) ho (I.freeC x c e)
 ·obtain⟨e,n,ne,nf,d⟩:=I.pin p hp
  have nch:p.1∉ch:=fun z=>(hch p.1 z).2.2.2 p hp rfl
  exact⟨keep p.1 p.2 ne nf nch e n,free p.1 p.2 nch e n,ne,nf,d⟩
theorem Inv.un{t':Nat}(I:Inv X ae σ H s) (u:Un X.fs [] H H' s.heap h') (hok:HOk X.prog X.w H' h'):Inv X ae σ H' { s with heap:=h',toks:=t' }:=by
 obtain⟨m,⟨o,es,ep,ho,r⟩,_⟩:=id I.loc
 obtain⟨sl,hL⟩:=u.any ho I.free (by simp)
 exact I.step (g':=s.gens) (d':=s.drawn) (ch:=[]) (fun _ z=>nomatch z) (fun b o _ hb _ e n=>u.keep b o e n hb (by simp)) (fun b o _ hb _ e n=>u.slot b o e n hb (by simp)) (fun b o _ e n=>u.free b o e n (by simp)) (fun b o _ e=>u.there b o e (by simp)) u.tups u.frzs u.tbls (fun m' hm=>by
  obtain⟨o',es',ep',ho',r'⟩:=hm
  rw[ho]at ho';cases ho'
  exact⟨_,es',ep',hL,r'⟩) hok I.bare
theorem Inv.call{g':Array GenState}{t':Nat}{d':Drawn}{ch:List J9}(I:Inv X ae σ H s) (u:Un (frs X.stack) ch H H' s.heap h') (hok:HOk X.prog X.w H' h') (hg:Z3 g')
  (hch:∀b∈ch,(b∈X.ex∨X.s₀.heap.objs.size<=b)/\b≠X.env.locals/\(∀x c,X.env.cells.lookup x=some c->c≠b)/\∀p∈X.pn++ae,p.1≠b) :
  Inv X ae σ H' { s with heap:=h',gens:=g',drawn:=d',toks:=t' }:=by
 obtain⟨m,⟨o,es,ep,ho,r⟩,_⟩:=id I.loc
 obtain⟨sl,hL⟩:=u.any ho I.free fun z=>(hch _ z).2.1 rfl
 exact I.step (ch:=ch) hch (fun b o hL hb hc e n=>u.keep b o e n (fun z=>(O4.mp (I.stkSub b z)).elim hL hb) hc) (fun b o _ _ hc e n=>u.any e n hc) (fun b o hc e n=>u.free b o e n hc) (fun b o hc e=>u.there b o e hc) u.tups u.frzs u.tbls (fun m' hm=>by
  obtain⟨o',es',ep',ho',r'⟩:=hm
  rw[ho]at ho';cases ho'
  exact⟨_,es',ep',hL,r'⟩) hok hg
theorem Inv.turned{t':Nat}{it:J9}(I:Inv X ae σ H s) (k:∀b o,b≠it->s.heap.get? b=some o->h'.get? b=some o) (hn:H it=none) (hL:it≠X.env.locals)
  (h1:it∈X.ex∨X.s₀.heap.objs.size<=it) (h2:∀x c,X.env.cells.lookup x=some c->c≠it) (h3:∀p∈X.pn++ae,p.1≠it):Inv X ae σ H { s with heap:=h',toks:=t' }:=by
 have nit:∀b u,H b=some u->b≠it:=fun b u e z=>by rw[z,hn]at e;cases e
 refine I.step (g':=s.gens) (d':=s.drawn) (ch:=[it]) (fun b hb=>?_) (fun b o _ _ hc e _=>k b o (fun z=>hc (by simp[z])) e) (fun b o _ _ hc e _=>⟨o.slots,k b o (fun z=>hc (by simp[z])) e⟩) (fun _ _ _ _ n=>n)
  (fun b o hc e=>⟨o,k b o (fun z=>hc (by simp[z])) e⟩) (fun _ _ e=>e) (fun _ _ _ e=>e) (fun b ps e=>⟨#[],by rw[e];simp⟩) (fun m hm=>?_) (fun b u e=>?_) I.bare
 ·have e:b=it:=by simpa using hb
  subst e
  exact⟨h1,hL,h2,h3⟩
 ·obtain⟨o,es,ep,ho,r⟩:=hm
  exact⟨o,es,ep,k _ o (W9 hL) ho,r⟩
 ·refine(I.hok b u e).stay (fun c v hc q=>k c v ?_ q) (fun _ q=>q) fun _ _ q=>q
  rcases hc with z|z
  ·rw[z];exact nit b u e
  ·exact nit c _ z
theorem Inv.tok(I:Inv X ae σ H s) (t:Nat):Inv X ae σ H { s with toks:=t }:=I.un (h':=s.heap) (t':=t) Un.refl I.hok
theorem Inv.kept{t':Nat}(I:Inv X ae σ H s) (k:∀b u,s.heap.get? b=some u->h'.get? b=some u):Inv X ae σ H { s with heap:=h',toks:=t' }:=I.un (Un.kept k) (I.hok.kept k)
theorem Inv.laid{a:J9}{o:HO}{t':Nat}(I:Inv X ae σ H s) (k:∀b u,s.heap.get? b=some u->h'.get? b=some u) (hp:s.heap.objs.size<=a) (new:cu X.prog X.w (upd H a o) h' a o) :
  Inv X ae σ (upd H a o) { s with heap:=h',toks:=t' }:=I.un (Un.laid k hp (I.hok.fresh hp)) (I.hok.laid k hp new)
theorem Inv.write{x e:J9}{o:HO}{t':Nat}(I:Inv X ae σ H s) (mu:Mut (H x)) (he:e=x∨H e=some (.own x)) (k:∀b u,b≠e->s.heap.get? b=some u->h'.get? b=some u) (heo:∃u,h'.get? e=some u)
  (new:cu X.prog X.w (upd H x o) h' x o):Inv X ae σ (upd H x o) { s with heap:=h',toks:=t' }:=I.un (Un.write mu he k heo) (I.hok.write mu he k heo new)
theorem Inv.pins_of{pins':List (J9×Obj)}(I:Inv X ae σ H s) (h:∀p∈pins',s.heap.get? p.1=some p.2/\H p.1=none/\p.1≠X.env.locals/\p.1∉X.fs/\∀v,p.2.data≠.cell v):Inv X pins' σ H s :=
 ⟨I.ok,I.os,I.bare,I.base,I.loc,I.cell,I.free,I.freeC,fun p hp=>(List.mem_append.mp hp).elim (fun z=>I.pin p (V3 _ z)) (h p),I.hok,I.len⟩
theorem rY{N:List Str}(hN:N.Nodup) {i j:Nat}{x:Str}(a:N[i]?=some x) (b:N[j]?=some x):i=j:=by
 obtain⟨h1,e1⟩:=N0.mp a
 obtain⟨h2,e2⟩:=N0.mp b
 exact(List.getElem_inj hN).mp (e1.trans e2.symm)
theorem oO{M:Model}{A:O3}{E:s0->I0->Prop}{i:Nat}{x:Str}{v:V}{u:s0}{Q:Unit->I0->Prop}(I:Inv X ae σ H s) (hN:X.N.Nodup) (hi:X.N[i]?=some x) (hx:Loc X.env.scope x) (r:aD v u)
  (h:∀s',Inv X ae (σ.set i (some v)) H s'->(∃a,S7 a s.heap s'.heap/\(a=X.env.locals∨X.env.cells.lookup x=some a))->Q () s') (hf:X.fn x=true∨X.env.scope.names.lookup x=some .local:=by first|exact .inl rfl|exact .inr rfl|assumption):K5 M A (storeName X.env x u) Q E s:=by
 obtain⟨m,hn,hl⟩:=id I.loc
 have hcls:(X.env.scope.kind==.class || (X.env.scope.kind==.module&&X.env.locals != X.env.globals))=false:=by rw[I.ok.kind];rfl
 have hiσ:i<σ.length:=by rw[I.len];exact(N0.mp hi).1
 have cne:=I.cne
 have tracked:∀{a:J9} {h':L9},(∃o,s.heap.get? a=some o/\H a=none)->S7 a s.heap h'->HOk X.prog X.w H h':=fun {a h'} ha hs b ob e=>by
  obtain⟨_,_,hfree⟩:=ha
  refine(I.hok b ob e).stay (fun c w' hc q=>(hs.2 c ?_).trans q) (fun _ q=>q) fun _ _ q=>q
  rintro rfl
  rcases hc with rfl|hc
  ·rw[hfree]at e;cases e
  ·rw[hfree]at hc;cases hc
 rcases hx with hk|hk
 ·refine wpAny_storeName_local hk hn (fun h' hn' hs=>?_) hcls
  obtain⟨oL,_,_,hoL,_⟩:=id hn
  refine h _ ⟨I.ok,I.os,I.bare,⟨fun b o e n hb hx=>?_,fun b o e n hb hx=>?_,I.base.free,fun b o e hx=>?_,I.base.tups,I.base.frzs,I.base.tbls⟩,⟨_,hn',fun j y v' e1 e2 e3=>?_⟩,fun y c e=>?_,I.free,I.freeC,fun p hp=>?_,tracked ⟨oL,hoL,I.free⟩ hs,by simpa using I.len⟩ ⟨_,hs,.inl rfl⟩
  ·exact(hs.2 b (K0 (J8 (J7 e) I.ok.above))).trans (I.base.keep b o e n hb hx)
  ·obtain⟨sl,e1⟩:=I.base.slot b o e n hb hx
   exact⟨sl,(hs.2 b (K0 (J8 (J7 e) I.ok.above))).trans e1⟩
  ·obtain⟨o',e1⟩:=I.base.there b o e hx
   exact⟨o',(hs.2 b (K0 (J8 (J7 e) I.ok.above))).trans e1⟩
  ·by_cases hj:j=i
   ·subst hj
    rw[hi]at e1;cases e1
    rw[R9 hiσ]at e2
    cases e2
    exact⟨u,r,.inl ⟨hk,by simp⟩⟩
   ·rw[V4 (W9 hj)]at e2
    obtain⟨u',r',q⟩:=hl j y v' e1 e2 e3
    refine⟨u',r',?_⟩
    rcases q with⟨k,e⟩|⟨k,c,e,z⟩
    ·refine .inl ⟨k,?_⟩
     have:y≠x:=fun e=>hj (rY hN e1 (e▸hi))
     simp[this,e]
    ·exact .inr ⟨k,c,e,z.sameBut hs (cne y c e)⟩
  ·obtain⟨w',z⟩:=I.cell y c e
   exact⟨w',z.sameBut hs (cne y c e)⟩
  ·obtain⟨e,n,ne,nf,d⟩:=I.pin p hp
   exact⟨(hs.2 p.1 ne).trans e,n,ne,nf,d⟩
 ·have hfn:X.fn x=true:=by
   rcases hf with z|z
   ·exact z
   ·rw[z]at hk;cases hk
  obtain⟨c,hc⟩:=I.ok.has x (.inl hk)
  obtain⟨w',z⟩:=I.cell x c hc
  refine wpAny_storeName_cell I.ok.kind hk hc z (fun h' hc' hs=>?_)
  obtain⟨oc,hoc,hocd⟩:=id z
  refine h { s with heap:=h' } ⟨I.ok,I.os,I.bare,⟨fun b o e n hb hx=>?_,fun b o e n hb hx=>?_,I.base.free,fun b o e hx=>?_,I.base.tups,I.base.frzs,I.base.tbls⟩,⟨m,hn.sameBut hs (W9 (cne x c hc)),fun j y v' e1 e2 e3=>?_⟩,fun y c' e=>?_,I.free,I.freeC,fun p hp=>?_,tracked ⟨oc,hoc,I.freeC x c hc⟩ hs,by simpa using I.len⟩ ⟨c,hs,.inr hc⟩
  ·exact(hs.2 b (K0 (J8 (J7 e) (I.ok.cab x c hfn hc)))).trans (I.base.keep b o e n hb hx)
  ·obtain⟨sl,e1⟩:=I.base.slot b o e n hb hx
   exact⟨sl,(hs.2 b (K0 (J8 (J7 e) (I.ok.cab x c hfn hc)))).trans e1⟩
  ·obtain⟨o',e1⟩:=I.base.there b o e hx
   exact⟨o',(hs.2 b (K0 (J8 (J7 e) (I.ok.cab x c hfn hc)))).trans e1⟩
  ·by_cases hj:j=i
   ·subst hj
    rw[hi]at e1;cases e1
    rw[R9 hiσ]at e2
    cases e2
    exact⟨u,r,.inr ⟨.inl hk,c,hc,hc'⟩⟩
   ·rw[V4 (W9 hj)]at e2
    obtain⟨u',r',q⟩:=hl j y v' e1 e2 e3
    refine⟨u',r',?_⟩
    rcases q with q|⟨k,c',e,z'⟩
    ·exact .inl q
    ·refine .inr ⟨k,c',e,z'.sameBut hs ?_⟩
     rintro rfl
     exact hj (rY hN e1 (I.ok.inj _ _ _ e hc▸hi))
  ·by_cases hcc:c'=c
   ·subst hcc;exact⟨_,hc'⟩
   ·obtain⟨w2,z2⟩:=I.cell y c' e
    exact⟨w2,z2.sameBut hs hcc⟩
  ·obtain⟨e,n,ne,nf,d⟩:=I.pin p hp
   refine⟨(hs.2 p.1 ?_).trans e,n,ne,nf,d⟩
   intro q
   rw[q,hoc]at e
   have q':oc=p.2:=K9 e
   exact d w' (by rw[<-q'];exact hocd)
theorem mz{M:Model}{A:O3}{E:s0->I0->Prop}{i:Nat}{x:Str}{v:V}{u:s0}{Q:Unit->I0->Prop}(I:Inv X ae σ H s) (hN:X.N.Nodup) (hi:X.N[i]?=some x) (hx:Loc X.env.scope x) (r:aD v u)
  (h:∀s',Inv X ae (σ.set i (some v)) H s'->Q () s') (hf:X.fn x=true∨X.env.scope.names.lookup x=some .local:=by first|exact .inl rfl|exact .inr rfl|assumption):K5 M A (storeName X.env x u) Q E s :=
 oO I hN hi hx r (fun s' I' _=>h s' I') hf
theorem Inv.call'{s':I0}{ch:List J9}(I:Inv X ae σ H s) (ho:s'.os=s.os) (u:Un (frs X.stack) ch H H' s.heap s'.heap) (hok:HOk X.prog X.w H' s'.heap) (hg:Z3 s'.gens)
  (hch:∀b∈ch,(b∈X.ex∨X.s₀.heap.objs.size<=b)/\b≠X.env.locals/\(∀x c,X.env.cells.lookup x=some c->c≠b)/\∀p∈X.pn++ae,p.1≠b):Inv X ae σ H' s':=by
 obtain⟨h',g',d',t',o'⟩:=s'
 have e:o'=s.os:=ho
 subst e
 exact I.call (g':=g') (t':=t') (d':=d') u hok hg hch
end
/-! ### the judgements -/
abbrev XK:=s0->Option J9->Hp->Prop
abbrev St:=List (Option V)
abbrev VK:=V->Hp->Prop
abbrev TE:=St->Hp->VK->Prop
abbrev TT:=St->Hp->(Bool->Hp->Prop)->Prop
abbrev TA:=St->Hp->(List V->Hp->Prop)->Prop
structure ue where
 nx:St->Hp->Prop
 rt:VK
 bk:St->Hp->Prop:=fun _ _=>False
 ct:St->Hp->Prop:=fun _ _=>False
abbrev TS:=ue->St->Hp->Prop
def EP(X:Cx) (ae:List (J9×Obj)) (σ:St) (Q:VK) (u:s0) (s':I0):Prop:=∃v H',Inv X ae σ H' s'/\aD v u/\Q v H'
def TP(X:Cx) (ae:List (J9×Obj)) (σ:St) (Q:Bool->Hp->Prop) (b:Bool) (s':I0):Prop:=∃H',Inv X ae σ H' s'/\Q b H'
def AP(X:Cx) (ae:List (J9×Obj)) (σ:St) (Q:List V->Hp->Prop) (us:List s0) (s':I0):Prop:=∃vs H',Inv X ae σ H' s'/\aA vs us/\Q vs H'
def SP(X:Cx) (ae:List (J9×Obj)) (D:ue) (f:Flow) (s':I0):Prop :=
 match f with
 |.next=>∃ σ' H',Inv X ae σ' H' s'/\D.nx σ' H'
 |.brk=>∃ σ' H',Inv X ae σ' H' s'/\D.bk σ' H'
 |.cont=>∃ σ' H',Inv X ae σ' H' s'/\D.ct σ' H'
 |.ret u=>∃v σ' H',Inv X ae σ' H' s'/\aD v u/\D.rt v H'
def PE(X:Cx) (e:K4) (t:TE):Prop :=
 ∀(ae:List (J9×Obj)) (s:I0) (σ:St) (H:Hp) (Q:VK),Inv X ae σ H s->t σ H Q->K5 (L3 X.prog X.w) X.A (T7 e X.env) (EP X ae σ Q) X.xe s
def PT(X:Cx) (e:K4) (t:TT):Prop :=
 ∀(ae:List (J9×Obj)) (s:I0) (σ:St) (H:Hp) (Q:Bool->Hp->Prop),Inv X ae σ H s->t σ H Q->K5 (L3 X.prog X.w) X.A (isTrue e X.env (T7 e X.env)) (TP X ae σ Q) X.xe s
def PW(X:Cx) (e:K4) (t:TT):Prop :=
 ∀(whole:Sem s0) (ae:List (J9×Obj)) (s:I0) (σ:St) (H:Hp) (Q:Bool->Hp->Prop),Inv X ae σ H s->t σ H Q->K5 (L3 X.prog X.w) X.A (isTrue e X.env whole) (TP X ae σ Q) X.xe s
theorem PW.pt{X:Cx}{e:K4}{t:TT}(h:PW X e t):PT X e t:=h _
def PA(X:Cx) (es:List K4) (t:TA):Prop :=
 ∀(pos:Pos) (ae:List (J9×Obj)) (s:I0) (σ:St) (H:Hp) (Q:List V->Hp->Prop),Inv X ae σ H s->t σ H Q->K5 (L3 X.prog X.w) X.A (spliced (T3 pos (J5 es X.env))) (AP X ae σ Q) X.xe s
def PS(X:Cx) (st:Z7) (t:TS):Prop :=
 ∀(ae:List (J9×Obj)) (s:I0) (σ:St) (H:Hp) (D:ue),Inv X ae σ H s->t D σ H->K5 (L3 X.prog X.w) X.A (exec st X.env) (SP X ae D) X.xe s
def PSs(X:Cx) (st:List Z7) (t:TS):Prop :=
 ∀(ae:List (J9×Obj)) (s:I0) (σ:St) (H:Hp) (D:ue),Inv X ae σ H s->t D σ H->K5 (L3 X.prog X.w) X.A (execs st X.env) (SP X ae D) X.xe s
theorem thn{α:Type}{t:Sem α}{Q Q':α->I0->Prop}{M:Model}{A:O3}{E:s0->I0->Prop}{s:I0}(h:K5 M A t Q E s) (hQ:∀a s,Q a s->Q' a s):K5 M A t Q' E s:=S5 h hQ fun _ _ x=>x
section
variable{X:Cx}
/-! ### names and constants -/
def Ii(i:Nat):TE:=fun σ H Q=>∃v,σ[i]?=some (some v)/\Q v H
def tC(v:V):TE:=fun _ H Q=>Q v H
theorem C1{i:Nat}{x:Str}{pos:Pos}(hN:X.N[i]?=some x) (hv:Vis X.env.scope x) (hd:(x==("__debug__":Str))=false:=by decide) (hcd:(x==("__classdict__":Str))=false:=by decide):PE X (.Name x pos) (Ii i):=by
 intro ae s σ H Q I h
 obtain⟨v,e,h⟩:=h
 obtain⟨m,hn,hl⟩:=I.loc
 obtain⟨u,r,l⟩:=hl i x v hN e hv
 have fin:EP X ae σ Q u s:=⟨v,H,I,r,h⟩
 rcases l with⟨hk,hm⟩|⟨hk,c,hc,hcell⟩
 ·exact wpAny_Name (wpAny_loadName_local I.ok.kind hk hn hm fin) hd
 ·rcases hk with hk|hk
  ·exact wpAny_Name (wpAny_loadName_cell I.ok.kind hk hc hcell fin) hd
  ·exact wpAny_Name (wpAny_loadName_free I.ok.kind hk hc hcell fin hcd) hd
theorem DT{i j pos}:PE X (.Constant (.int i) j pos) (tC (.int i)):=fun _ _ _ H _ I h=>wpAny_Constant_int ⟨.int i,H,I.tok _,⟨_,rfl⟩,h⟩
theorem FM{b j pos}:PE X (.Constant (.bool b) j pos) (tC (.bl b)):=fun _ _ _ H _ I h=>Constant_bool ⟨.bl b,H,I,rfl,h⟩
theorem D8{j pos}:PE X (.Constant .none j pos) (tC .non):=fun _ _ _ H _ I h=>Constant_none ⟨.non,H,I,rfl,h⟩
theorem E5{x j pos}:PE X (.Constant (.str x) j pos) (tC (.str x)):=fun _ _ _ H _ I h=>Calls.Constant_str ⟨.str x,H,I.tok _,⟨_,rfl⟩,h⟩
def Gl(X:Cx) (x:Str):Prop:=X.env.kindOf x=some .globalImplicit
theorem pI{E:s0->I0->Prop}{ae:List (J9×Obj)}{s:I0}{σ:St}{H:Hp}{x:Str}{u:s0}{pos:Pos}{Q:s0->I0->Prop}(I:Inv X ae σ H s) (hg:Gl X x) (hm:X.mg x=some u) (h:Q u s)
  (hd:(x==("__debug__":Str))=false:=by decide):K5 (L3 X.prog X.w) X.A (T7 (.Name x pos) X.env) Q E s :=
 Calls.Name_function_global I.ok.kind hg (Calls.loadGlobal_global (by rw[I.ok.glob];exact I.mod.glob.keeps I.bk) hm h) hd
theorem gR{E:s0->I0->Prop}{ae:List (J9×Obj)}{s:I0}{σ:St}{H:Hp}{x:Str}{u:s0}{pos:Pos}{Q:s0->I0->Prop}(I:Inv X ae σ H s) (hg:Gl X x) (hm:X.mg x=none) (hv:P3 x=some u) (h:Q u s)
  (hn:x≠"__name__":=by decide) (hd:(x==("__debug__":Str))=false:=by decide):K5 (L3 X.prog X.w) X.A (T7 (.Name x pos) X.env) Q E s:=by
 obtain⟨mb,h1,h2⟩:=I.mod.blt
 exact Calls.Name_function_global I.ok.kind hg (Calls.loadGlobal_builtin (by rw[I.ok.glob];exact I.mod.glob.keeps I.bk) hm (by rw[I.ok.blt];exact h1.keeps I.bk) ((h2 x hn).trans hv) h) hd
theorem pk{x:Str}{v:V}{u:s0}{pos:Pos}(hg:Gl X x) (hm:X.mg x=some u) (r:aD v u) (hd:(x==("__debug__":Str))=false:=by decide):PE X (.Name x pos) (tC v) :=
 fun _ _ _ H _ I h=>pI I hg hm ⟨v,H,I,r,h⟩ hd
theorem BQ{x:Str}{v:V}{u:s0}{pos:Pos}(hg:Gl X x) (hm:X.mg x=none) (hv:P3 x=some u) (r:aD v u) (hn:x≠"__name__":=by decide) (hd:(x==("__debug__":Str))=false:=by decide):PE X (.Name x pos) (tC v) :=
 fun _ _ _ H _ I h=>gR I hg hm hv ⟨v,H,I,r,h⟩ hn hd
/-! ### arithmetic -/
variable{a b:K4}{ta tb:TE}{pos:Pos}
/-! ### comparisons -/
def PC(X:Cx) (op:aa7) (a b:K4) (t:TE):Prop :=
 ∀(ae:List (J9×Obj)) (s:I0) (σ:St) (H:Hp) (Q:VK),Inv X ae σ H s->t σ H Q ->
  K5 (L3 X.prog X.w) X.A (T7 a X.env) (fun v s₁=>K5 (L3 X.prog X.w) X.A (T7 b X.env) (fun u s₂=>K5 (L3 X.prog X.w) X.A (L7 op v u) (EP X ae σ Q) X.xe s₂) X.xe s₁) X.xe s
theorem mE(b:K4) {op:aa7}(h:op≠.In) (h2:op≠.NotIn):P0 op b=false:=by
 have e1:(op==aa7.In)=false:=by cases op<;>first|rfl|exact absurd rfl h
 have e2:(op==aa7.NotIn)=false:=by cases op<;>first|rfl|exact absurd rfl h2
 cases b<;>simp[P0,e1,e2]
def tB(t:TE):TT:=fun σ H Q=>t σ H fun x H1=>∃c,x=.bl c/\Q c H1
theorem Df{op:aa7}{t:TE}(h:PC X op a b t) (h1:P0 op b=false:=by first|exact mE _ (by decide) (by decide)|rfl):PE X (.Compare a [op] [b] pos) t:=fun ae s σ H Q I hw=>wpAny_Compare1 (h ae s σ H Q I hw) h1
theorem ym{op:aa7}{t:TE}(h:PC X op a b t) (h1:P0 op b=false:=by first|exact mE _ (by decide) (by decide)|rfl):PT X (.Compare a [op] [b] pos) (tB t):=by
 intro ae s σ H Q I hw
 refine wpAny_isTrue_Compare1 (thn (h ae s σ H _ I hw) fun v s1 h1=>thn h1 fun u s2 h2=>thn h2 fun c s3 ⟨x,H1,I1,r1,q1⟩=>?_) h1
 obtain⟨d,rfl,q⟩:=q1
 cases r1
 exact R1 ⟨H1,I1,q⟩
theorem Dd{e:K4}{t:TE}(h:PE X e t) (he:∀whole,isTrue e X.env whole=(do let v <-whole;ad3 e.pos;Y3 [v] (truthy v)):=by intro _;rfl):PT X e (tB t):=by
 intro ae s σ H Q I hw
 refine isTrue_plain (thn (h ae s σ H _ I hw) fun v s1 ⟨x,H1,I1,r1,q1⟩=>?_) (he _)
 obtain⟨d,rfl,q⟩:=q1
 cases r1
 exact R1 ⟨H1,I1,q⟩
/-! ### and,or,not -/
variable{tA tB':TT}{rest:List K4}
def HZ(t u:TT):TT:=fun σ H Q=>t σ H fun c H1=>if c=true then u σ H1 Q else Q false H1
def tOr(t u:TT):TT:=fun σ H Q=>t σ H fun c H1=>if c=true then Q true H1 else u σ H1 Q
def Io(t:TT):TT:=fun σ H Q=>t σ H fun c H1=>Q (!c) H1
theorem Ai(ha:PT X a tA):PW X (.BoolOp .And [a] pos) tA:=by
 intro wh ae s σ H Q I h
 refine isTrue_and (thn (ha ae s σ H Q I h) fun c s1 e=>?_)
 cases c with
 |true=>exact isTrue_and_nil e
 |false=>exact e
theorem EF(ha:PT X a tA):PW X (.BoolOp .Or [a] pos) tA:=by
 intro wh ae s σ H Q I h
 refine isTrue_or (thn (ha ae s σ H Q I h) fun c s1 e=>?_)
 cases c with
 |false=>exact isTrue_or_nil e
 |true=>exact e
theorem EA(ha:PT X a tA) (hb:PW X (.BoolOp .And (b::rest) pos) tB'):PW X (.BoolOp .And (a::b::rest) pos) (HZ tA tB'):=by
 intro wh ae s σ H Q I h
 refine isTrue_and (thn (ha ae s σ H _ I h) fun c s1 ⟨H1,I1,q1⟩=>?_)
 cases c with
 |true=>exact hb wh ae s1 σ H1 Q I1 q1
 |false=>exact⟨H1,I1,q1⟩
theorem HA(ha:PT X a tA) (hb:PW X (.BoolOp .Or (b::rest) pos) tB'):PW X (.BoolOp .Or (a::b::rest) pos) (tOr tA tB'):=by
 intro wh ae s σ H Q I h
 refine isTrue_or (thn (ha ae s σ H _ I h) fun c s1 ⟨H1,I1,q1⟩=>?_)
 cases c with
 |true=>exact⟨H1,I1,q1⟩
 |false=>exact hb wh ae s1 σ H1 Q I1 q1
theorem Eg(ha:PT X a tA):PT X (.UnaryOp .Not a pos) (Io tA):=by
 intro ae s σ H Q I h
 exact isTrue_not (ha ae s σ H (fun c H1=>Q (!c) H1) I h)
def G6(ta tb:TE):TE:=fun σ H Q=>ta σ H fun x H1=>∃c,x=.bl c/\if c=true then tb σ H1 Q else Q (.bl false) H1
def HC(ta:TE):TE:=fun σ H Q=>ta σ H fun x H1=>∃c,x=.bl c/\Q (.bl (!c)) H1
theorem En{op}{t:TE}(h:PE X a t):PE X (.BoolOp op [a] pos) t:=fun ae s σ H Q I hw=>BoolOp_one (h ae s σ H Q I hw)
theorem Fs(ha:PE X a ta) (hb:PE X (.BoolOp .And (b::rest) pos) tb):PE X (.BoolOp .And (a::b::rest) pos) (G6 ta tb):=by
 intro ae s σ H Q I h
 refine BoolOp_and (thn (ha ae s σ H _ I h) fun v s1 ⟨x,H1,I1,r1,q1⟩=>?_)
 obtain⟨c,rfl,q1⟩:=q1
 cases r1
 refine R1 ?_
 cases c with
 |true=>exact hb ae s1 σ H1 Q I1 q1
 |false=>exact⟨.bl false,H1,I1,rfl,q1⟩
theorem Dp(ha:PE X a ta):PE X (.UnaryOp .Not a pos) (HC ta):=by
 intro ae s σ H Q I h
 refine UnaryOp_ (thn (ha ae s σ H _ I h) fun v s1 ⟨x,H1,I1,r1,q1⟩=>?_)
 obtain⟨c,rfl,q1⟩:=q1
 cases r1
 exact not_of (R1 ⟨.bl (!c),H1,I1,rfl,q1⟩)
def tIf(t:TT) (ta tb:TE):TE:=fun σ H Q=>t σ H fun c H1=>if c=true then ta σ H1 Q else tb σ H1 Q
theorem xy{c:K4}(hc:PT X c tA) (ha:PE X a ta) (hb:PE X b tb):PE X (.IfExp c a b pos) (tIf tA ta tb):=by
 intro ae s σ H Q I h
 refine wpAny_IfExp (thn (hc ae s σ H _ I h) fun d s1 ⟨H1,I1,q1⟩=>?_)
 cases d with
 |true=>exact ha ae s1 σ H1 Q I1 q1
 |false=>exact hb ae s1 σ H1 Q I1 q1
end
/-! ### a list,a tuple that is read: tracked,frozen,or an object of the module -/
def SqL(K:o0) (H:Hp) (a:J9) (xs:List V):Prop :=
 Rd H a (.lst xs) ∨
  ∃(o:Obj) (its:Array s0) (n:Nat),K.lookup a=some o/\o.cls=.type "list"/\o.dict=none/\o.data=.seq its n/\its.size<=J0/\aA xs its.toList
def SqT(K:o0) (H:Hp) (a:J9) (xs:List V):Prop :=
 Rd H a (.tup xs) ∨
  ∃(o:Obj) (its:Array s0) (n:Nat),K.lookup a=some o/\(o.cls=.type "tuple"/\o.dict=none)/\o.data=.seq its n/\its.size<=J0/\aA xs its.toList
def IE:s0->Option V
 |.none=>some .non
 |.bool b=>some (.bl b)
 |.int i _=>some (.int i)
 |.str x _=>some (.str x)
 |.bytes b _=>some (.byt b)
 |.float b _=>some (.flt b)
 |.ref a=>some (.ref a)
 |.type n=>some (.ty n)
 |_=>none
theorem aD.abs{x:V}{u:s0}(r:aD x u):IE u=some x:=by
 cases x with
 |non=>cases r;rfl
 |bl _=>cases r;rfl
 |int _=>obtain⟨t,rfl⟩:=r;rfl
 |str _=>obtain⟨t,rfl⟩:=r;rfl
 |byt _=>obtain⟨t,rfl⟩:=r;rfl
 |flt _=>obtain⟨t,rfl⟩:=r;rfl
 |ref _=>cases r;rfl
 |ty _=>cases r;rfl
theorem aD.inj{x y:V}{u:s0}(r:aD x u) (q:aD y u):x=y:=K9 (r.abs.symm.trans q.abs)
theorem aA.inj:∀{xs ys:List V}{us:List s0},aA xs us->aA ys us->xs=ys
 |_,_,_,.nil,.nil=>rfl
 |_,_,_,.cons r t,.cons r' t'=>by rw[r.inj r',aA.inj t t']
section
variable{X:Cx}{ae:List (J9×Obj)}{σ:St}{H:Hp}{s:I0}{a:J9}{xs ys:List V}
theorem SqL.of{K:o0}(h:H a=some (.lst xs)):SqL K H a xs:=.inl (.inl h)
theorem SqT.of{K:o0}(h:H a=some (.tup xs)):SqT K H a xs:=.inl (.inl h)
theorem Inv.list(I:Inv X ae σ H s) (h:SqL X.K H a xs):∃its:List s0,aA xs its/\PlainL s.heap a its.toArray/\xs.length<=J0:=by
 rcases h with h|⟨o,its,n,hk,hc,hd,hs,hz,r⟩
 ·obtain⟨z,its,n,r,e⟩:=h.ok I.hok
  exact⟨its,r,⟨_,n,e,rfl,rfl,rfl⟩,z⟩
 ·refine⟨its.toList,r,⟨o,n,I.kIn a o hk,hc,hd,by simpa using hs⟩,?_⟩
  have e:=r.length
  simp only[T9]at e
  omega
theorem Inv.tuple(I:Inv X ae σ H s) (h:SqT X.K H a xs):∃its:List s0,aA xs its/\ad2 s.heap a its.toArray/\xs.length<=J0:=by
 rcases h with h|⟨o,its,n,hk,hc,hs,hz,r⟩
 ·obtain⟨z,its,r,p⟩:=h.ok I.hok
  exact⟨its,r,p.tup,z⟩
 ·refine⟨its.toList,r,⟨o,I.kIn a o hk,hc.1,n,by simpa using hs⟩,?_⟩
  have e:=r.length
  simp only[T9]at e
  omega
theorem Inv.tupN(I:Inv X ae σ H s) (h:SqT X.K H a xs):∃its:List s0,aA xs its/\iR s.heap a its.toArray/\xs.length<=J0:=by
 rcases h with h|⟨o,its,n,hk,hc,hs,hz,r⟩
 ·obtain⟨z,its,r,p⟩:=h.ok I.hok
  exact⟨its,r,p,z⟩
 ·refine⟨its.toList,r,⟨o,I.kIn a o hk,hc.1,⟨n,by simpa using hs⟩,hc.2⟩,?_⟩
  have e:=r.length
  have e2:its.toList.length=its.size:=T9
  omega
theorem Inv.list_inj(I:Inv X ae σ H s) (h:SqL X.K H a xs) (h':SqL X.K H a ys):xs=ys:=by
 obtain⟨its,r,⟨o,n,e,_,_,d⟩,_⟩:=I.list h
 obtain⟨its',r',⟨o',n',e',_,_,d'⟩,_⟩:=I.list h'
 rw[e]at e';cases e'
 rw[d]at d'
 injection d' with d1 _
 have:its=its':=by simpa using congrArg Array.toList d1
 subst this
 exact r.inj r'
theorem Inv.tuple_inj(I:Inv X ae σ H s) (h:SqT X.K H a xs) (h':SqT X.K H a ys):xs=ys:=by
 obtain⟨its,r,⟨o,e,_,n,d⟩,_⟩:=I.tuple h
 obtain⟨its',r',⟨o',e',_,n',d'⟩,_⟩:=I.tuple h'
 rw[e]at e';cases e'
 rw[d]at d'
 injection d' with d1 _
 have:its=its':=by simpa using congrArg Array.toList d1
 subst this
 exact r.inj r'
end
/-! ### another wish about exceptions -/
abbrev Cx.wish(X:Cx) (E:s0->I0->Prop):Cx:={ X with xe:=E }
abbrev Cx.nox(X:Cx):Cx:=X.wish fun _ _=>False
theorem Cx.Ok.wish{X:Cx}(ok:X.Ok) (E:s0->I0->Prop):(X.wish E).Ok :=
 ⟨ok.mod,ok.kind,ok.glob,ok.blt,ok.above,ok.inj,ok.has,ok.cab,ok.hd,ok.frames,ok.stk,ok.exf,ok.bs,ok.bsz,ok.noex,ok.exfs,ok.funs,ok.frf⟩
theorem Cx.Ok.unwish{X:Cx}{E:s0->I0->Prop}(ok:(X.wish E).Ok):X.Ok :=
 ⟨ok.mod,ok.kind,ok.glob,ok.blt,ok.above,ok.inj,ok.has,ok.cab,ok.hd,ok.frames,ok.stk,ok.exf,ok.bs,ok.bsz,ok.noex,ok.exfs,ok.funs,ok.frf⟩
section
variable{X:Cx}{ae:List (J9×Obj)}{σ:St}{H:Hp}{s:I0}{E:s0->I0->Prop}
theorem Inv.wish(I:Inv X ae σ H s) (E:s0->I0->Prop):Inv (X.wish E) ae σ H s:=⟨I.ok.wish E,I.os,I.bare,I.base,I.loc,I.cell,I.free,I.freeC,I.pin,I.hok,I.len⟩
theorem Inv.unwish(I:Inv (X.wish E) ae σ H s):Inv X ae σ H s:=⟨I.ok.unwish,I.os,I.bare,I.base,I.loc,I.cell,I.free,I.freeC,I.pin,I.hok,I.len⟩
theorem SP.unwish{D:ue}{f:Flow}{s':I0}(h:SP (X.wish E) ae D f s'):SP X ae D f s':=by
 cases f with
 |next=>obtain⟨σ',H',I,q⟩:=h;exact⟨σ',H',I.unwish,q⟩
 |brk=>obtain⟨σ',H',I,q⟩:=h;exact⟨σ',H',I.unwish,q⟩
 |cont=>obtain⟨σ',H',I,q⟩:=h;exact⟨σ',H',I.unwish,q⟩
 |ret u=>obtain⟨v,σ',H',I,r,q⟩:=h;exact⟨v,σ',H',I.unwish,r,q⟩
theorem PSs.nox{st:List Z7}{t:TS}(h:PSs X.nox st t):PSs X st t:=fun ae s σ H D I hw =>
 S5 (h ae s σ H D (I.wish _) hw) (fun _ _ q=>q.unwish) fun _ _ z=>Q5 z
end
/-! ### blocks and small statements -/
section
variable{X:Cx}{st:Z7}{rest:List Z7}{t u:TS}{e:K4}{te:TE}{pos:Pos}
def GA:TS:=fun D σ H=>D.nx σ H
def HU(t u:TS):TS:=fun D σ H=>t { D with nx:=u D } σ H
theorem Bz:PSs X [] GA:=fun _ _ σ H _ I h=>Y4 ⟨σ,H,I,h⟩
theorem yg(h1:PS X st t) (h2:PSs X rest u):PSs X (st::rest) (HU t u):=by
 intro ae s σ H D I h
 refine wpAny_execs_cons (thn (h1 ae s σ H { D with nx:=u D } I h) fun f s1 q=>?_)
 cases f with
 |next =>
  obtain⟨σ',H',I',q⟩:=q
  exact h2 ae s1 σ' H' D I' q
 |ret v=>exact q
 |brk=>exact q
 |cont=>exact q
theorem A8(h1:PS X st t):PSs X [st] t:=by
 intro ae s σ H D I h
 refine wpAny_execs_cons (thn (h1 ae s σ H D I h) fun f s1 q=>?_)
 cases f with
 |next=>exact Y4 q
 |ret v=>exact q
 |brk=>exact q
 |cont=>exact q
theorem Inv.quiet{ae:List (J9×Obj)}{σ:St}{H:Hp}{s:I0}(I:Inv X ae σ H s):interactive X.env=false:=by simp[interactive,I.ok.kind]
def FY(te:TE):TS:=fun D σ H=>te σ H fun _ H1=>D.nx σ H1
theorem Cg(he:PE X e te) (hs:U7 e none pos.line X.env=W0 false:=by rfl):PS X (.Expr e pos) (FY te):=by
 intro ae s σ H D I h
 exact wpAny_Expr_any (thn (he ae s σ H _ I h) fun v s1 ⟨x,H1,I1,r1,q1⟩=>⟨σ,H1,I1,q1⟩) I.quiet hs
def HV(te:TE):TS:=fun D σ H=>te σ H D.rt
theorem tT(he:PE X e te):PS X (.Return (some e) pos) (HV te):=by
 intro ae s σ H D I h
 exact wpAny_Return_some (thn (he ae s σ H _ I h) fun v s1 ⟨x,H1,I1,r1,q1⟩=>⟨x,σ,H1,I1,r1,q1⟩)
def ID(c:TT) (t u:TS):TS:=fun D σ H=>c σ H fun b H1=>if b=true then t D σ H1 else u D σ H1
theorem Gr{c:K4}{a b:List Z7}{tc:TT}(hc:PT X c tc) (ha:PSs X a t) (hb:PSs X b u):PS X (.If c a b pos) (ID tc t u):=by
 intro ae s σ H D I h
 refine wpAny_If (thn (hc ae s σ H _ I h) fun d s1 ⟨H1,I1,q1⟩=>?_)
 cases d with
 |true=>exact ha ae s1 σ H1 D I1 q1
 |false=>exact hb ae s1 σ H1 D I1 q1
end
/-! ### targets -/
abbrev TG:=V->St->Hp->(St->Hp->Prop)->Prop
abbrev TGs:=List V->St->Hp->(St->Hp->Prop)->Prop
def PG(X:Cx) (target:K4) (t:TG):Prop :=
 ∀(ae:List (J9×Obj)) (s:I0) (σ:St) (H:Hp) (v:V) (u:s0) (Q:St->Hp->Prop),Inv X ae σ H s->aD v u->t v σ H Q ->
  K5 (L3 X.prog X.w) X.A (X9 target X.env u) (fun _ s'=>∃ σ' H',Inv X ae σ' H' s'/\Q σ' H') X.xe s
def PGs(X:Cx) (ts:List K4) (t:TGs):Prop :=
 ∀(ae:List (J9×Obj)) (s:I0) (σ:St) (H:Hp) (vs:List V) (us:List s0) (Q:St->Hp->Prop),Inv X ae σ H s->aA vs us->t vs σ H Q ->
  K5 (L3 X.prog X.w) X.A (assignInOrder ((P4 ts X.env).map (·.2)) us) (fun _ s'=>∃ σ' H',Inv X ae σ' H' s'/\Q σ' H') X.xe s
abbrev DJ:=V->V->V->Hp->(Hp->Prop)->Prop
def Hv(X:Cx) (t:DJ):Prop :=
 ∀(ae:List (J9×Obj)) (s:I0) (σ:St) (H:Hp) (o i v:V) (ov iv u:s0) (Q:Hp->Prop),Inv X ae σ H s->aD o ov->aD i iv->aD v u->t o i v H Q ->
  K5 (L3 X.prog X.w) X.A (setItem ov iv u) (fun _ s'=>∃H',Inv X ae σ H' s'/\Q H') X.xe s
abbrev TIp:=V->V->Hp->VK->Prop
def PIp(X:Cx) (op:ab5) (t:TIp):Prop :=
 ∀(ae:List (J9×Obj)) (s:I0) (σ:St) (H:Hp) (x y:V) (v u:s0) (Q:VK),Inv X ae σ H s->aD x v->aD y u->t x y H Q ->
  K5 (L3 X.prog X.w) X.A (ac3 op v u) (EP X ae σ Q) X.xe s
section
variable{X:Cx}{pos:Pos}
def oP(i:Nat):TG:=fun v σ H Q=>Q (σ.set i (some v)) H
theorem qA{i:Nat}{x:Str}(hN:X.N.Nodup) (hi:X.N[i]?=some x) (hx:Loc X.env.scope x) (hf:X.fn x=true∨X.env.scope.names.lookup x=some .local:=by first|exact .inl rfl|exact .inr rfl|assumption):PG X (.Name x pos) (oP i):=by
 intro ae s σ H v u Q I r h
 exact wpAny_assign_Name (mz I hN hi hx r (fun s' I'=>⟨_,H,I',h⟩) hf)
def ES:TGs:=fun vs σ H Q=>vs=[]/\Q σ H
def Ab(t:TG) (u:TGs):TGs:=fun vs σ H Q=>∃v r,vs=v::r/\t v σ H fun σ' H'=>u r σ' H' Q
theorem uH:PGs X [] ES:=by
 intro ae s σ H vs us Q I r h
 obtain⟨e,h⟩:=h
 subst e
 cases r
 exact assignInOrder_nil ⟨σ,H,I,h⟩
theorem qM{e:K4}{es:List K4}{t:TG}{u:TGs}(h1:PG X e t) (h2:PGs X es u)
  (hs:(P4 (e::es) X.env).map (·.2)=X9 e X.env::(P4 es X.env).map (·.2):=by rfl):PGs X (e::es) (Ab t u):=by
 intro ae s σ H vs us Q I r h
 obtain⟨v,vr,e1,h⟩:=h
 subst e1
 cases r with
 |cons r rr =>
  rw[hs]
  refine assignInOrder_cons (thn (h1 ae s σ H _ _ _ I r h) fun _ s1 ⟨σ1,H1,I1,q1⟩=>?_)
  exact h2 ae s1 σ1 H1 _ _ Q I1 rr q1
def Fu(K:o0) (n:Nat) (t:TGs):TG:=fun v σ H Q=>∃a xs,v=.ref a/\SqT K H a xs/\xs.length=n/\t xs σ H Q
theorem yU{es:List K4}{k:Nat}{t:TGs}{n:Nat}(hc:X.calm=true) (h:PGs X es t)
  (hn:(P4 es X.env).length=n:=by rfl) (hst:(P4 es X.env).findIdx? (·.1)=none:=by rfl):PG X (.Tuple es k pos) (Fu X.K n t):=by
 intro ae s σ H v u Q I r hw
 obtain⟨a,xs,e1,hq,hl,hw⟩:=hw
 subst e1
 cases r
 obtain⟨its,rv,ht,hz⟩:=I.tuple hq
 refine assign_Tuple_tuple (I.ok.hd hc) ht (by simp[hn,<-hl,rv.length]) hst fun h' hx=>?_
 have I1:Inv X ae σ H { s with heap:=h' }:=I.kept (t':=s.toks) fun b o e=>hx b o (K0 (J7 e)) e
 exact h ae _ σ H xs _ Q I1 (by simpa using rv) hw
def IA(to ti:TE) (t:DJ):TG:=fun v σ H Q=>to σ H fun o H1=>ti σ H1 fun i H2=>t o i v H2 fun H3=>Q σ H3
theorem Ed{o i:K4}{to ti:TE}{t:DJ}(ho:PE X o to) (hi:PE X i ti) (hs:Hv X t)
  (ha:∀ v,X9 (.Subscript o i pos) X.env v = (do
   let ov <-Y3 [v] (T7 o X.env)
   let iv <-Y3 [v,ov] (T7 i X.env)
   ad3 pos
   Y3 [v,ov,iv] (setItem ov iv v)
   release [v,ov,iv] []):=by intro _;rfl):PG X (.Subscript o i pos) (IA to ti t):=by
 intro ae s σ H v u Q I r h
 rw[ha]
 refine t3 (W1 (thn (ho ae s σ H _ I h) fun ov s1 ⟨x,H1,I1,r1,q1⟩=>?_))
 refine t3 (W1 (thn (hi ae s1 σ H1 _ I1 q1) fun iv s2 ⟨y,H2,I2,r2,q2⟩=>?_))
 refine t3 (wpAny_standAt (t3 (W1 (thn (hs ae s2 σ H2 x y v ov iv u _ I2 r1 r2 r q2) fun _ s3 ⟨H3,I3,q3⟩=>?_))))
 exact wpAny_release ⟨σ,H3,I3,q3⟩
def E3(te:TE) (g:TG):TS:=fun D σ H=>te σ H fun x H1=>g x σ H1 D.nx
theorem yp{tg e:K4}{te:TE}{g:TG}(he:PE X e te) (hg:PG X tg g) (hs:Y0 [tg] e pos.line X.env=W0 false:=by rfl) (hw:Y1 [tg] e X.env=W0 none:=by rfl)
  (h1:(P4 [tg] X.env).map (·.2)=[X9 tg X.env]:=by rfl):PS X (.Assign [tg] e pos) (E3 te g):=by
 intro ae s σ H D I h
 refine wpAny_Assign_stores (thn (he ae s σ H _ I h) fun v s1 ⟨x,H1,I1,r1,q1⟩=>?_) hs hw
 rw[h1]
 exact thn (hg ae s1 σ H1 x v _ I1 r1 q1) fun _ s2 q=>q
theorem DN{i:Nat}{x:Str}{e:K4}{te:TE}{pos':Pos}(hN:X.N.Nodup) (hi:X.N[i]?=some x) (hx:Loc X.env.scope x) (he:PE X e te) (hs:U7 e (some (.Name x pos')) pos.line X.env=W0 false:=by rfl) (hf:X.fn x=true∨X.env.scope.names.lookup x=some .local:=by first|exact .inl rfl|exact .inr rfl|assumption) :
  PS X (.Assign [.Name x pos'] e pos) (E3 te (oP i)):=by
 intro ae s σ H D I h
 refine wpAny_Assign_Name (thn (he ae s σ H _ I h) fun v s1 ⟨y,H1,I1,r1,q1⟩=>?_) hs
 exact mz I1 hN hi hx r1 (fun s2 I2=>⟨_,H1,I2,q1⟩) hf
def HK(i:Nat) (te:TE) (ti:TIp):TS:=fun D σ H=>∃x,σ[i]?=some (some x)/\te σ H fun y H1=>ti x y H1 fun z H2=>D.nx (σ.set i (some z)) H2
theorem DS{i:Nat}{x:Str}{e:K4}{te:TE}{op:ab5}{ti:TIp}{pos':Pos}(hN:X.N.Nodup) (hi:X.N[i]?=some x) (hx:Loc X.env.scope x) (he:PE X e te) (ho:PIp X op ti) (hf:X.fn x=true∨X.env.scope.names.lookup x=some .local:=by first|exact .inl rfl|exact .inr rfl|assumption) :
  PS X (.AugAssign (.Name x pos') op e pos) (HK i te ti):=by
 intro ae s σ H D I h
 obtain⟨v,e1,h⟩:=h
 obtain⟨m,hn,hl⟩:=I.loc
 have vis:Vis X.env.scope x:=by rcases hx with k|k;exact .inl k;exact .inr (.inl k)
 obtain⟨u,r,l⟩:=hl i x v hi e1 vis
 refine wpAny_AugAssign_Name ?_
 have go:K5 (L3 X.prog X.w) X.A (T7 e X.env) (fun w s₂=>K5 (L3 X.prog X.w) X.A (ac3 op u w) (fun r s₃=>K5 (L3 X.prog X.w) X.A (storeName X.env x r) (fun _=>SP X ae D .next) X.xe s₃) X.xe s₂) X.xe s:=by
  refine thn (he ae s σ H _ I h) fun w s1 ⟨y,H1,I1,r1,q1⟩=>?_
  refine thn (ho ae s1 σ H1 v y u w _ I1 r r1 q1) fun z s2 ⟨zv,H2,I2,r2,q2⟩=>?_
  exact mz I2 hN hi hx r2 (fun s3 I3=>⟨_,H2,I3,q2⟩) hf
 rcases l with⟨hk,hm⟩|⟨hk,c,hc,hcell⟩
 ·exact wpAny_loadName_local I.ok.kind hk hn hm go
 ·rcases hk with hk|hk
  ·exact wpAny_loadName_cell I.ok.kind hk hc hcell go
  ·rcases hx with k|k
   ·have:X.env.scope.names.lookup x=some .free:=hk
    rw[k]at this;cases this
   ·have:X.env.scope.names.lookup x=some .free:=hk
    rw[k]at this;cases this
def ipI(f:Int->Int->Int):TIp:=fun x y H Q=>∃i j,x=.int i/\y=.int j/\Q (.int (f i j)) H
theorem EG:PIp X .Add (ipI fun i j=>i+j):=by
 intro ae s σ H x y v u Q I r1 r2 h
 obtain⟨i,j,e1,e2,q⟩:=h
 subst e1;subst e2
 obtain⟨t,rfl⟩:=r1
 obtain⟨t',rfl⟩:=r2
 exact iadd_int ⟨.int _,H,I.tok _,⟨_,rfl⟩,q⟩
end
/-! ### while -/
section
variable{X:Cx}{pos:Pos}
def D0(c:TT) (tb:TS):TS:=fun D σ H=>∃W:Nat->St->Hp->Prop,(∃m,W m σ H)/\∀m σ H,W m σ H ->
 c σ H fun b H1=>if b=true then ∃N:St->Hp->Prop,(∀ σ' H',N σ' H'->∃m',m'<m/\W m' σ' H')/\tb { D with nx:=N,ct:=N,bk:=D.nx } σ H1 else D.nx σ H1
theorem xP{c:K4}{body:List Z7}{tc:TT}{tb:TS}(hp:ab0 (L3 X.prog X.w) X.A X.env X.xe) (hc:PT X c tc) (hb:PSs X body tb):PS X (.While c body [] pos) (D0 tc tb):=by
 intro ae s σ H D I h
 obtain⟨W,⟨m0,w0⟩,turn⟩:=h
 refine wpAny_While (codeAny_whileLoop (fun n s'=>∃ σ' H',Inv X ae σ' H' s'/\W n σ' H') ?_ m0 ⟨σ,H,I,w0⟩)
 rintro n s1 ⟨σ1,H1,I1,w1⟩
 refine T4 hp (thn (hc ae s1 σ1 H1 _ I1 (turn n σ1 H1 w1)) fun b s2 ⟨H2,I2,q2⟩=>?_)
 cases b with
 |true =>
  obtain⟨N,hN,q2⟩:=q2
  rw[if_pos rfl]
  refine T4 hp (thn (hb ae s2 σ1 H2 _ I2 q2) fun f s3 q3=>?_)
  cases f with
  |next =>
   obtain⟨σ3,H3,I3,n3⟩:=q3
   obtain⟨m',hm,w3⟩:=hN σ3 H3 n3
   exact⟨m',hm,σ3,H3,I3,w3⟩
  |cont =>
   obtain⟨σ3,H3,I3,n3⟩:=q3
   obtain⟨m',hm,w3⟩:=hN σ3 H3 n3
   exact⟨m',hm,σ3,H3,I3,w3⟩
  |brk=>exact q3
  |ret v=>exact q3
 |false =>
  rw[if_neg N1]
  exact Y4 ⟨σ1,H2,I2,q2⟩
end
/-! ### what a loop or a aa1 walks -/
structure It where
 go:Nat->Hp->Prop
 yld:Nat->Hp->V->Hp->Prop
 stop:Nat->Hp->Prop
def cJ(X:Cx) (ae:List (J9×Obj)) (H:Hp) (b:J9):Prop :=
 H b=none/\b≠X.env.locals/\b∉X.fs/\(b∈X.ex∨X.s₀.heap.objs.size<=b)/\(∀x c,X.env.cells.lookup x=some c->c≠b)/\∀p∈X.pn++ae,p.1≠b
theorem Inv.fpOk{X:Cx}{ae:List (J9×Obj)}{σ:St}{H H':Hp}{s:I0}{b:J9}(I:Inv X ae σ H s) (hb:s.heap.objs.size<=b) (hn:H' b=none):cJ X ae H' b:=by
 refine⟨hn,V8 (J8 I.lt hb),I.nofs hb,.inr (M9 I.sz hb),fun x c e z=>?_,fun p hp z=>?_⟩
 ·obtain⟨v,q⟩:=I.cell x c e
  exact absurd (J8 q.lt (by rw[z];exact hb)) (P7 _)
 ·exact absurd (J8 (J7 (I.pin p hp).1) (by rw[z];exact hb)) (P7 _)
structure gK(P:L8) (w:P2) (K:o0) (tg:K4) (J:It) (fp:List J9) (it:J9) (tn:Nat->L9->Prop):Prop where
 mem:it∈fp
 obj:∀i h,tn i h->∀b∈fp,∃o,h.get? b=some o/\∀v,o.data≠.cell v
 keep:∀i h h',tn i h->(∀b∈fp,∀o,h.get? b=some o->h'.get? b=some o)->tn i h'
 item:∀(X:Cx),X.prog=P->X.w=w->X.K=K->X.calm=true->∀(i:Nat) (ae:List (J9×Obj)) (s:I0) (σ:St) (H:Hp) (E:s0->I0->Prop),Inv X ae σ H s->(∀b∈fp,cJ X ae H b)->tn i s.heap->J.go i H ->
  K5 (L3 P w) X.A (pyNext (.ref it)) (fun r s1=>∃u,r=some u /\
   K5 (L3 P w) X.A (Y5 tg (.ref it) u) (fun _ s2=>∃x H',Inv X ae σ H' s2/\aD x u/\J.yld i H x H'/\tn (i+1) s2.heap/\∀b∈fp,H' b=none) E s1) E s
 done:∀(X:Cx),X.prog=P->X.w=w->X.K=K->X.calm=true->∀(i:Nat) (ae:List (J9×Obj)) (s:I0) (σ:St) (H:Hp) (E:s0->I0->Prop),Inv X ae σ H s->(∀b∈fp,cJ X ae H b)->tn i s.heap->J.stop i H ->
  K5 (L3 P w) X.A (pyNext (.ref it)) (fun r s1=>r=none/\Inv X ae σ H s1) E s
 self:∀(A:O3) (i:Nat) (s:I0) (Q:s0->I0->Prop) (E:s0->I0->Prop),tn i s.heap->Q (.ref it) s->K5 (L3 P w) A (pyIter (.ref it)) Q E s
abbrev TI:=St->Hp->(It->Hp->Prop)->Prop
def PIE(X:Cx) (ae:List (J9×Obj)) (σ:St) (tg:K4) (R:It->Hp->Prop) (itv:s0) (s2:I0):Prop :=
 ∃(it:J9) (fp:List J9) (tn:Nat->L9->Prop) (J:It) (H':Hp),itv=.ref it/\Inv X ae σ H' s2/\gK X.prog X.w X.K tg J fp it tn/\tn 0 s2.heap/\(∀b∈fp,cJ X ae H' b)/\R J H'
def PI(X:Cx) (tg iter:K4) (wi:TI):Prop :=
 ∀(ae:List (J9×Obj)) (s:I0) (σ:St) (H:Hp) (R:It->Hp->Prop),Inv X ae σ H s->wi σ H R ->
  K5 (L3 X.prog X.w) X.A (T7 iter X.env) (fun v s1=>K5 (L3 X.prog X.w) X.A (pyIter v) (PIE X ae σ tg R) X.xe s1) X.xe s
theorem lT{M:Model}{A:O3}{E:s0->I0->Prop}{s:I0}{tg:K4}{it:J9}{u:s0}{o:Obj}{n:String}{vs:Array s0}{Q:Unit->I0->Prop}(ho:s.heap.get? it=some o) (hc:o.cls=.type n) (hd:o.data=.fields vs)
    (hn:["enumerate","zip","dict_itemiterator","dict_reverseitemiterator","odict_iterator","itertools.zip_longest","itertools.pairwise"].contains n=false) (hQ:Q () s):K5 M A (Y5 tg (.ref it) u) Q E s:=by
  unfold Y5
  cases tg<;>first
    |exact J3 hQ
    |(cases u<;>first
        |exact J3 hQ
        | (refine t3 (wpAny_load ho ?_)
           rw[hc,hd]
           show K5 M A (if(["enumerate","zip","dict_itemiterator","dict_reverseitemiterator","odict_iterator","itertools.zip_longest","itertools.pairwise"].contains n&&vs[0]?==some (rawInt _))=true then _ else _) Q E s
           rw[if_neg (by intro h;rw[hn,Bool.false_and]at h;cases h)]
           exact J3 hQ))
def Itl(K:o0) (a:J9):It :=
 ⟨fun i H=>∃xs x,SqL K H a xs/\xs[i]?=some x,fun i H x H'=>H'=H/\∀xs,SqL K H a xs->xs[i]?=some x,fun i H=>∃xs,SqL K H a xs/\xs.length<=i⟩
def Itt(K:o0) (a:J9):It :=
 ⟨fun i H=>∃xs x,SqT K H a xs/\xs[i]?=some x,fun i H x H'=>H'=H/\∀xs,SqT K H a xs->xs[i]?=some x,fun i H=>∃xs,SqT K H a xs/\xs.length<=i⟩
def Itr(lo:Int) (n:Nat):It:=⟨fun i _=>i<n,fun i H x H'=>H'=H/\x=.int (lo+i),fun i _=>n<=i⟩
theorem oA{P:L8}{w:P2}{K:o0}{tg:K4}(a it:J9):gK P w K tg (Itl K a) [it] it (fun i h=>h.IsListIter it a i) where
 mem:=by simp
 obj:=fun i h st b hb=>by
  have e:b=it:=by simpa using hb
  subst e
  obtain⟨o,e,c,d⟩:=st
  exact⟨o,e,fun v z=>by rw[d]at z;cases z⟩
 keep:=fun i h h' st k=>st.at fun o e=>k it (by simp) o e
 item:=by
  intro X hP hw hK hc i ae s σ H E I hf st hg
  subst hP hw hK
  obtain⟨xs,x,hq,hx⟩:=hg
  obtain⟨its,rv,p,hz⟩:=I.list hq
  obtain⟨u,hu,ru⟩:=rv.get hx
  obtain⟨f0,f1,f2,f3,f4,f5⟩:=hf it (by simp)
  refine wpAny_pyNext_list_item st p.isList (x:=u) (by simpa using hu) fun h' st' sb=>?_
  have I1:Inv X ae σ H { s with heap:=h' }:=I.turned (t':=s.toks) (fun b o hb e=>(sb.2 b hb).trans e) f0 f1 f3 f4 f5
  obtain⟨o,e,c,d⟩:=id st'
  exact⟨u,rfl,lT (s:={ s with heap:=h' }) e c d (by decide) ⟨x,H,I1,ru,⟨rfl,fun ys hy=>by rw[I.list_inj hy hq];exact hx⟩,st',fun b hb=>(hf b hb).1⟩⟩
 done:=by
  intro X hP hw hK hc i ae s σ H E I hf st hg
  subst hP hw hK
  obtain⟨xs,hq,hx⟩:=hg
  obtain⟨its,rv,p,hz⟩:=I.list hq
  obtain⟨f0,f1,f2,f3,f4,f5⟩:=hf it (by simp)
  have hl:=rv.length
  exact wpAny_pyNext_list_end (I.ok.hd hc) st p.isList (by simp;omega) fun h' eb=>⟨rfl,I.turned (t':=s.toks) (fun b o hb e=>eb b o hb e) f0 f1 f3 f4 f5⟩
 self:=fun _ _ _ _ _ st h=>wpAny_pyIter_listiter st h
theorem tm{P:L8}{w:P2}{K:o0}{tg:K4}(a it:J9):gK P w K tg (Itt K a) [it] it (fun i h=>h.IsTupleIter it a i) where
 mem:=by simp
 obj:=fun i h st b hb=>by
  have e:b=it:=by simpa using hb
  subst e
  obtain⟨o,e,c,d⟩:=st
  exact⟨o,e,fun v z=>by rw[d]at z;cases z⟩
 keep:=fun i h h' st k=>st.at fun o e=>k it (by simp) o e
 item:=by
  intro X hP hw hK hc i ae s σ H E I hf st hg
  subst hP hw hK
  obtain⟨xs,x,hq,hx⟩:=hg
  obtain⟨its,rv,p,hz⟩:=I.tuple hq
  obtain⟨u,hu,ru⟩:=rv.get hx
  obtain⟨f0,f1,f2,f3,f4,f5⟩:=hf it (by simp)
  refine wpAny_pyNext_tuple_item st (show s.heap.IsTuple a its.toArray from p) (x:=u) (by simpa using hu) fun h' st' sb=>?_
  have I1:Inv X ae σ H { s with heap:=h' }:=I.turned (t':=s.toks) (fun b o hb e=>(sb.2 b hb).trans e) f0 f1 f3 f4 f5
  obtain⟨o,e,c,d⟩:=id st'
  exact⟨u,rfl,lT (s:={ s with heap:=h' }) e c d (by decide) ⟨x,H,I1,ru,⟨rfl,fun ys hy=>by rw[I.tuple_inj hy hq];exact hx⟩,st',fun b hb=>(hf b hb).1⟩⟩
 done:=by
  intro X hP hw hK hc i ae s σ H E I hf st hg
  subst hP hw hK
  obtain⟨xs,hq,hx⟩:=hg
  obtain⟨its,rv,p,hz⟩:=I.tuple hq
  obtain⟨f0,f1,f2,f3,f4,f5⟩:=hf it (by simp)
  have hl:=rv.length
  exact wpAny_pyNext_tuple_end (I.ok.hd hc) st (show s.heap.IsTuple a its.toArray from p) (by simp;omega) fun h' eb=>⟨rfl,I.turned (t':=s.toks) (fun b o hb e=>eb b o hb e) f0 f1 f3 f4 f5⟩
 self:=fun _ _ _ _ _ st h=>wpAny_pyIter_tupleiter st h
theorem sN{P:L8}{w:P2}{K:o0}{tg:K4}(it:J9) (lo:Int) (n:Nat):gK P w K tg (Itr lo n) [it] it (fun i h=>ac1 h it (lo+(i:Nat)*1) ((n:Int)-(i:Nat)) 1) where
 mem:=by simp
 obj:=fun i h st b hb=>by
  have e:b=it:=by simpa using hb
  subst e
  exact⟨_,st,fun v z=>by
   have z':Data.fields _=Data.cell v:=z
   cases z'⟩
 keep:=fun i h h' st k=>k it (by simp) _ st
 item:=by
  intro X hP hw hK hc i ae s σ H E I hf st hg
  subst hP hw hK
  obtain⟨f0,f1,f2,f3,f4,f5⟩:=hf it (by simp)
  have W:=Walks.range (prog:=X.prog) (w:=X.w) (I.ok.hd hc) it lo 1 n
  refine W.item i s _ _ hg st fun v h' tk hv st' kk=>?_
  obtain⟨t,rfl⟩:=hv
  have I1:Inv X ae σ H { s with heap:=h',toks:=tk }:=I.turned (fun b o hb e=>kk b o (by simpa using hb) e) f0 f1 f3 f4 f5
  refine⟨_,rfl,lT (s:={ s with heap:=h',toks:=tk }) (n:="range_iterator") st' rfl rfl (by decide) ⟨.int (lo+i),H,I1,⟨t,?_⟩,⟨rfl,rfl⟩,st',fun b hb=>(hf b hb).1⟩⟩
  rw[Int.mul_one]
 done:=by
  intro X hP hw hK hc i ae s σ H E I hf st hg
  subst hP hw hK
  obtain⟨f0,f1,f2,f3,f4,f5⟩:=hf it (by simp)
  exact wpAny_pyNext_range_end (I.ok.hd hc) st (by have:n<=i:=hg;omega) fun h' eb=>⟨rfl,I.turned (t':=s.toks) (fun b o hb e=>eb b o hb e) f0 f1 f3 f4 f5⟩
 self:=fun _ _ _ _ _ st h=>wpAny_pyIter_rangeiter st h
section
variable{X:Cx}{tg:K4}
theorem zK{ae:List (J9×Obj)}{σ:St}{H:Hp}{s:I0}{R:It->Hp->Prop}{E:s0->I0->Prop}{lo hi:Int}{t u v:Tok}{tk:Nat}(I:Inv X ae σ H s) (h1:-(2 ^ 62)<=lo) (h2:lo<2 ^ 62) (h3:-(2 ^ 62)<=hi) (h4:hi<2 ^ 62)
  (q:R (Itr lo (hi-lo).toNat) H):K5 (L3 X.prog X.w) X.A (pyIter (.ref s.heap.objs.size)) (PIE X ae σ tg R) E { s with heap:=s.heap.push { cls:=.type "range",data:=.fields #[.int lo t,.int hi u,.int 1 v] },toks:=tk }:=by
 refine wpAny_pyIter_range (IsRange.new ..) (small_one h1 h2 h3 h4) ?_
 have I1:Inv X ae σ H { s with heap:=s.heap.push { cls:=.type "range",data:=.fields #[.int lo t,.int hi u,.int 1 v] },toks:=tk }:=I.kept fun b o e=>u8 _ e
 refine⟨(s.heap.push { cls:=.type "range",data:=.fields #[.int lo t,.int hi u,.int 1 v] }).objs.size,[(s.heap.push { cls:=.type "range",data:=.fields #[.int lo t,.int hi u,.int 1 v] }).objs.size],_,_,H,rfl,
  I1.kept (t':=tk) fun b o e=>u8 _ e,sN _ lo (hi-lo).toNat,?_,fun b hb=>?_,q⟩
 ·have e1:lo+((0:Nat):Int)*1=lo:=by simp
  have e2:(((hi-lo).toNat:Nat):Int)-((0:Nat):Int)=P8 lo hi 1:=by rw[rangeSize_one];split<;>omega
  show ac1 _ _ (lo+((0:Nat):Int)*1) ((((hi-lo).toNat:Nat):Int)-((0:Nat):Int)) 1
  rw[e1,e2]
  exact J6 _ rfl
 ·have e:b=(s.heap.push { cls:=.type "range",data:=.fields #[.int lo t,.int hi u,.int 1 v] }).objs.size:=by simpa using hb
  subst e
  exact I1.fpOk (J4 _) (I1.hok.fresh (J4 _))
def G1(ta:TA):TI:=fun σ H R=>ta σ H fun vs H1=>∃j:Int,vs=[.int j]/\-(2 ^ 62)<=j/\j<2 ^ 62/\R (Itr 0 j.toNat) H1
theorem wb{a:K4}{ta:TA}{p pos:Pos}(hg:Gl X "range") (hm:X.mg "range"=none) (ha:PA X [a] ta) (hs:J5 [a] X.env=[(false,T7 a X.env)]:=by rfl):PI X tg (.Call (.Name "range" p) [a] [] pos) (G1 ta):=by
 intro ae s σ H R I h
 refine Call_ (gR I hg hm boot_range (R5 (thn (ha pos ae s σ H _ I h) fun us s1 ⟨vs,H1,I1,r1,q1⟩=>?_) hs rfl))
 obtain⟨j,e,q1,q2,q⟩:=q1
 subst e
 cases r1 with
 |cons r rr =>
  cases rr
  obtain⟨t,rfl⟩:=r
  exact call_range_1 (zK I1 (by omega) (by omega) q1 q2 (by simpa using q))
/-! ### for -/
def Iy(wi:TI) (g:TG) (tb:TS):TS:=fun D σ H=>wi σ H fun J H1=>∃W:Nat->Nat->St->Hp->Prop,(∃m,W 0 m σ H1)/\∀i m σ H,W i m σ H ->
 (J.stop i H/\D.nx σ H)∨(J.go i H/\∃N:St->Hp->Prop,(∀ σ' H',N σ' H'->∃m',m'<m/\W (i+1) m' σ' H')/\∀x H',J.yld i H x H'->g x σ H' fun σ2 H2=>tb { D with nx:=N,ct:=N,bk:=D.nx } σ2 H2)
def fX(fp:List J9) (h:L9):List (J9×Obj):=fp.filterMap fun b=>(h.get? b).map fun o=>(b,o)
theorem cv{fp:List J9}{h:L9}{b:J9}{o:Obj}(hb:b∈fp) (e:h.get? b=some o):(b,o)∈fX fp h:=V0.mpr ⟨b,hb,by rw[e];rfl⟩
theorem oK{fp:List J9}{h:L9}{p:J9×Obj}(hp:p∈fX fp h):p.1∈fp/\h.get? p.1=some p.2:=by
 obtain⟨b,hb,e⟩:=V0.mp hp
 cases q:h.get? b with
 |none=>rw[q]at e;cases e
 |some o =>
  rw[q]at e
  have e':(b,o)=p:=K9 e
  subst e'
  exact⟨hb,q⟩
theorem Inv.pinned{ae:List (J9×Obj)}{σ:St}{H:Hp}{s:I0}{fp:List J9}(I:Inv X ae σ H s) (hf:∀b∈fp,cJ X ae H b) (ho:∀b∈fp,∃o,s.heap.get? b=some o/\∀v,o.data≠.cell v):Inv X (ae++fX fp s.heap) σ H s :=
 I.pins_of fun p hp=>(List.mem_append.mp hp).elim (fun z=>I.pin p (K1 _ z)) fun z=>by
  obtain⟨hb,e⟩:=oK z
  obtain⟨f0,f1,f2,_⟩:=hf p.1 hb
  obtain⟨o,e',d⟩:=ho p.1 hb
  rw[e]at e';cases e'
  exact⟨e,f0,f1,f2,d⟩
theorem Inv.unpinned{ae pl:List (J9×Obj)}{σ:St}{H:Hp}{s:I0}(I:Inv X (ae++pl) σ H s):Inv X ae σ H s:=I.pins_of fun p hp=>I.pin p (K1 _ (V3 _ hp))
theorem FA{iter:K4}{body:List Z7}{wi:TI}{g:TG}{tb:TS}{pos:Pos}(hp:ab0 (L3 X.prog X.w) X.A X.env X.xe) (hc:X.calm=true) (hi:PI X tg iter wi) (hg:PG X tg g) (hb:PSs X body tb)
  (hs:∀x,O0 iter X.env x=W0 x:=by intro _;rfl):PS X (.For tg iter body [] pos) (Iy wi g tb):=by
 intro ae s σ H D I h
 refine wpAny_For (thn (hi ae s σ H _ I h) fun v s1 h1=>thn h1 fun itv s2 h2=>?_) hs
 obtain⟨it,fp,tn,J,H2,e,I2,T,st2,f2,W,⟨m0,w0⟩,turn⟩:=h2
 subst e
 -- what stays true of the iterator's objects through the loop
 have stat:∀{H':Hp},(∀b∈fp,H' b=none)->∀b∈fp,cJ X ae H' b:=fun hn b hb=>⟨hn b hb,(f2 b hb).2⟩
 refine codeAny_forLoop_any (fun n s'=>∃i σ' H',Inv X ae σ' H' s'/\tn i s'.heap/\(∀b∈fp,H' b=none)/\W i n σ' H') ?_ m0 ⟨0,σ,H2,I2,st2,fun b hb=>(f2 b hb).1,w0⟩
 rintro n s3 ⟨i,σ3,H3,I3,st3,fr3,w3⟩
 rcases turn i n σ3 H3 w3 with⟨stop,qn⟩|⟨go,N,hN,step⟩
 ·refine T4 hp (thn (T.done X rfl rfl rfl hc i ae s3 σ3 H3 X.xe I3 (stat fr3) st3 stop) fun r s4 ⟨hr,I4⟩=>?_)
  subst hr
  exact Y4 ⟨σ3,H3,I4,qn⟩
 ·refine T4 hp (thn (T.item X rfl rfl rfl hc i ae s3 σ3 H3 X.xe I3 (stat fr3) st3 go) fun r s4 ⟨u,hr,h4⟩=>?_)
  subst hr
  refine T4 hp (thn h4 fun _ s5 ⟨x,H5,I5,r5,y5,st5,fr5⟩=>?_)
  have I5':=I5.pinned (stat fr5) (T.obj _ _ st5)
  refine T4 hp (thn (hg _ s5 σ3 H5 x u _ I5' r5 (step x H5 y5)) fun _ s6 ⟨σ6,H6,I6,q6⟩=>?_)
  refine T4 hp (thn (hb _ s6 σ6 H6 _ I6 q6) fun f s7 q7=>?_)
  have again:∀{σ7:St} {H7:Hp},Inv X (ae++fX fp s5.heap) σ7 H7 s7->N σ7 H7->∃m,m<n/\∃i σ' H',Inv X ae σ' H' s7/\tn i s7.heap/\(∀b∈fp,H' b=none)/\W i m σ' H':=fun {σ7 H7} I7 n7=>by
   obtain⟨m',hm,w7⟩:=hN σ7 H7 n7
   refine⟨m',hm,i+1,σ7,H7,I7.unpinned,T.keep _ _ _ st5 fun b hb o e=>(I7.pin (b,o) (K1 _ (K1 _ (cv hb e)))).1,fun b hb=>?_,w7⟩
   obtain⟨o,e,d⟩:=T.obj _ _ st5 b hb
   exact(I7.pin (b,o) (K1 _ (K1 _ (cv hb e)))).2.1
  cases f with
  |next=>obtain⟨σ7,H7,I7,n7⟩:=q7;exact again I7 n7
  |cont=>obtain⟨σ7,H7,I7,n7⟩:=q7;exact again I7 n7
  |brk=>obtain⟨σ7,H7,I7,q7⟩:=q7;exact⟨σ7,H7,I7.unpinned,q7⟩
  |ret v=>obtain⟨x7,σ7,H7,I7,r7,q7⟩:=q7;exact⟨x7,σ7,H7,I7.unpinned,r7,q7⟩
end
/-! ### the forms one uses -/
abbrev R2:=V->V->Hp->VK->Prop
def OpR(X:Cx) (f:s0->s0->Sem s0) (r:R2):Prop :=
 ∀(ae:List (J9×Obj)) (s:I0) (σ:St) (H:Hp) (x y:V) (v u:s0) (Q:VK),Inv X ae σ H s->aD x v->aD y u->r x y H Q ->
  K5 (L3 X.prog X.w) X.A (f v u) (EP X ae σ Q) X.xe s
def UnR(X:Cx) (f:s0->Sem s0) (r:V->Hp->VK->Prop):Prop :=
 ∀(ae:List (J9×Obj)) (s:I0) (σ:St) (H:Hp) (x:V) (v:s0) (Q:VK),Inv X ae σ H s->aD x v->r x H Q ->
  K5 (L3 X.prog X.w) X.A (f v) (EP X ae σ Q) X.xe s
def cM(X:Cx) (f:s0) (r:List V->Hp->VK->Prop):Prop :=
 ∀(ae:List (J9×Obj)) (s:I0) (σ:St) (H:Hp) (xs:List V) (us:List s0) (Q:VK),Inv X ae σ H s->aA xs us->r xs H Q ->
  K5 (L3 X.prog X.w) X.A (call f us) (EP X ae σ Q) X.xe s
def tOp(r:R2) (ta tb:TE):TE:=fun σ H Q=>ta σ H fun x H1=>tb σ H1 fun y H2=>r x y H2 Q
def tUn(r:V->Hp->VK->Prop) (ta:TE):TE:=fun σ H Q=>ta σ H fun x H1=>r x H1 Q
def rI(C:Int->Int->Prop) (g:Int->Int->V):R2:=fun x y H Q=>∃i j,x=.int i/\y=.int j/\C i j/\Q (g i j) H
def rI0(g:Int->Int->V):R2:=fun x y H Q=>∃i j,x=.int i/\y=.int j/\Q (g i j) H
def rU(g:Int->V):V->Hp->VK->Prop:=fun x H Q=>∃i,x=.int i/\Q (g i) H
section
variable{X:Cx}{a b c:K4}{ta tb tc:TE}{pos:Pos}
theorem D4(ha:PE X a ta) (hb:PE X b tb) {ae:List (J9×Obj)}{s:I0}{σ:St}{H:Hp}{R:V->V->Hp->Prop}(I:Inv X ae σ H s)
  (h:ta σ H fun x H1=>tb σ H1 fun y H2=>R x y H2) {Q:s0->I0->Prop} {f:s0->s0->Sem s0}
  (hf:∀v u s2 x y H2,Inv X ae σ H2 s2->aD x v->aD y u->R x y H2->K5 (L3 X.prog X.w) X.A (f v u) Q X.xe s2) :
  K5 (L3 X.prog X.w) X.A (T7 a X.env) (fun v s₁=>K5 (L3 X.prog X.w) X.A (T7 b X.env) (fun u s₂=>K5 (L3 X.prog X.w) X.A (f v u) Q X.xe s₂) X.xe s₁) X.xe s:=by
 refine thn (ha ae s σ H _ I h) fun v s1 ⟨x,H1,I1,r1,q1⟩=>?_
 refine thn (hb ae s1 σ H1 _ I1 q1) fun u s2 ⟨y,H2,I2,r2,q2⟩=>?_
 exact hf v u s2 x y H2 I2 r1 r2 q2
theorem Cw{op:ab5}{r:R2}(ho:OpR X (P9 op) r) (ha:PE X a ta) (hb:PE X b tb):PE X (.BinOp a op b pos) (tOp r ta tb):=by
 intro ae s σ H Q I h
 exact wpAny_BinOp (D4 ha hb I h fun v u s2 x y H2 I2 rx ry q=>ho ae s2 σ H2 x y v u Q I2 rx ry q)
theorem FD{op:UnaryOp}{r:V->Hp->VK->Prop}(ho:UnR X (ad4 op) r) (ha:PE X a ta):PE X (.UnaryOp op a pos) (tUn r ta):=by
 intro ae s σ H Q I h
 exact UnaryOp_ (thn (ha ae s σ H _ I h) fun v s1 ⟨x,H1,I1,r1,q1⟩=>ho ae s1 σ H1 x v Q I1 r1 q1)
/-! ### ints -/
theorem opI{f:s0->s0->Sem s0}{C:Int->Int->Prop}{g:Int->Int->Int}
  (rule:∀(i j:Int) (t u:Tok) (s:I0) (Q:s0->I0->Prop) (E:s0->I0->Prop),C i j->Q (.int (g i j) s.toks) { s with toks:=s.toks+1 }->K5 (L3 X.prog X.w) X.A (f (.int i t) (.int j u)) Q E s) :
  OpR X f (rI C fun i j=>.int (g i j)):=by
 intro ae s σ H x y v u Q I rx ry h
 obtain⟨i,j,rfl,rfl,hc,q⟩:=h
 obtain⟨t,rfl⟩:=rx
 obtain⟨t',rfl⟩:=ry
 exact rule i j t t' s _ _ hc ⟨.int (g i j),H,I.tok _,⟨_,rfl⟩,q⟩
theorem Gu{f:s0->s0->Sem s0}{g:Int->Int->Int}
  (rule:∀(i j:Int) (t u:Tok) (s:I0) (Q:s0->I0->Prop) (E:s0->I0->Prop),Q (.int (g i j) s.toks) { s with toks:=s.toks+1 }->K5 (L3 X.prog X.w) X.A (f (.int i t) (.int j u)) Q E s) :
  OpR X f (rI0 fun i j=>.int (g i j)):=by
 intro ae s σ H x y v u Q I rx ry h
 obtain⟨i,j,rfl,rfl,q⟩:=h
 obtain⟨t,rfl⟩:=rx
 obtain⟨t',rfl⟩:=ry
 exact rule i j t t' s _ _ ⟨.int (g i j),H,I.tok _,⟨_,rfl⟩,q⟩
theorem Ag{f:s0->s0->Sem s0}{g:Int->Int->Bool}
  (rule:∀(i j:Int) (t u:Tok) (s:I0) (Q:s0->I0->Prop) (E:s0->I0->Prop),Q (.bool (g i j)) s->K5 (L3 X.prog X.w) X.A (f (.int i t) (.int j u)) Q E s) :
  OpR X f (rI0 fun i j=>.bl (g i j)):=by
 intro ae s σ H x y v u Q I rx ry h
 obtain⟨i,j,rfl,rfl,q⟩:=h
 obtain⟨t,rfl⟩:=rx
 obtain⟨t',rfl⟩:=ry
 exact rule i j t t' s _ _ ⟨.bl (g i j),H,I,rfl,q⟩
def mX(i j:Int):Prop:=0<j/\j<1073741824
def qQ(i j:Int):Prop:=0<=j/\j<=1000000/\i.natAbs<2 ^ 64
def g9(i j:Int):Prop:=(-(2 ^ 64)<i/\i<2 ^ 64)∨(-(2 ^ 64)<j/\j<2 ^ 64)
theorem g9.ok{i j:Int}(h:g9 i j):IntMulOk i j:=by
 rcases h with⟨h1,h2⟩|⟨h1,h2⟩
 ·exact .of_left (intBits_le_64 h1 h2)
 ·exact .of_right (intBits_le_64 h1 h2)
theorem Ec:OpR X (P9 .Add) (rI0 fun i j=>.int (i+j)):=Gu fun _ _ _ _ _ _ _ q=>add_int q
theorem Em:OpR X (P9 .Sub) (rI0 fun i j=>.int (i-j)):=Gu fun _ _ _ _ _ _ _ q=>sub_int q
theorem Dz:OpR X (P9 .Mult) (rI g9 fun i j=>.int (i*j)):=opI fun _ _ _ _ _ _ _ hc q=>mul_int q hc.ok
theorem A9:OpR X (P9 .FloorDiv) (rI mX fun i j=>.int (i / j)):=opI fun i j _ _ _ _ _ hc q=>by
 have h1:(0:Int)<j:=hc.1
 have h2:j<1073741824:=hc.2
 exact floordiv_int (by omega) (by rw[Int.fdiv_eq_ediv_of_nonneg i (by omega)];exact q) (.inl (PyProof.noPylong_small (by omega)))
theorem D9:OpR X (P9 .Mod) (rI (fun _ j=>0<j) fun i j=>.int (i % j)):=opI fun i j _ _ _ _ _ hc q=>by
 have h1:(0:Int)<j:=hc
 exact mod_int' (by omega) (by rw[Int.fmod_eq_emod_of_nonneg i (by omega)];exact q)
theorem Dh:OpR X (P9 .Pow) (rI qQ fun i j=>.int (i ^ j.toNat)):=opI fun _ _ _ _ _ _ _ hc q=>pow_int_small hc.1 hc.2.1 hc.2.2 q
theorem unI{f:s0->Sem s0}{g:Int->Int}
  (rule:∀(i:Int) (t:Tok) (s:I0) (Q:s0->I0->Prop) (E:s0->I0->Prop),Q (.int (g i) s.toks) { s with toks:=s.toks+1 }->K5 (L3 X.prog X.w) X.A (f (.int i t)) Q E s) :
  UnR X f (rU fun i=>.int (g i)):=by
 intro ae s σ H x v Q I rx h
 obtain⟨i,rfl,q⟩:=h
 obtain⟨t,rfl⟩:=rx
 exact rule i t s _ _ ⟨.int (g i),H,I.tok _,⟨_,rfl⟩,q⟩
theorem E6:UnR X (ad4 .USub) (rU fun i=>.int (-i)):=unI fun _ _ _ _ _ q=>neg_int q
/-! ### bools among ints: n += (a<b) -/
end
/-! ### comparisons -/
section
variable{X:Cx}{a b c:K4}{ta tb tc:TE}{pos:Pos}
theorem oZ{ae:List (J9×Obj)}{σ:St}{H:Hp}{s:I0}{Q:VK}{k k':Bool}(I:Inv X ae σ H s) (q:Q (.bl k) H) (e:k=k'):EP X ae σ Q (.bool k') s:=by
 subst e
 exact⟨.bl k,H,I,rfl,q⟩
theorem GW:OpR X (L7 .Lt) (rI0 fun i j=>.bl (decide (i<j))):=Ag fun _ _ _ _ _ _ _ q=>lt_int q
theorem G7:OpR X (L7 .LtE) (rI0 fun i j=>.bl (decide (i<=j))):=Ag fun _ _ _ _ _ _ _ q=>le_int q
theorem Hg:OpR X (L7 .Gt) (rI0 fun i j=>.bl (decide (j<i))):=Ag fun _ _ _ _ _ _ _ q=>gt_int q
theorem FH:OpR X (L7 .GtE) (rI0 fun i j=>.bl (decide (j<=i))):=Ag fun _ _ _ _ _ _ _ q=>ge_int q
theorem wH:OpR X (L7 .In) (fun x y H Q=>∃i j,x=.str i/\y=.str j/\Q (.bl (!(U0 j i 0 j.length 1).isEmpty)) H):=by
 intro ae s σ H x y v u Q I rx ry h
 obtain⟨i,j,rfl,rfl,q⟩:=h
 obtain⟨t,rfl⟩:=rx
 obtain⟨t',rfl⟩:=ry
 exact in_str (oZ I q rfl)
theorem Fy:OpR X (L7 .Is) (fun x y H Q=>y=.non/\Q (.bl (decide (x=.non))) H):=by
 intro ae s σ H x y v u Q I rx ry h
 obtain⟨rfl,q⟩:=h
 cases ry
 refine is_none_gen (oZ I q ?_)
 cases x<;>first
  |(cases rx;rfl)
  |(obtain⟨t,rfl⟩:=rx;rfl)
theorem Al:OpR X (L7 .IsNot) (fun x y H Q=>y=.non/\Q (.bl (!decide (x=.non))) H):=by
 intro ae s σ H x y v u Q I rx ry h
 obtain⟨rfl,q⟩:=h
 cases ry
 refine isnot_none_gen (oZ I q ?_)
 cases x<;>first
  |(cases rx;rfl)
  |(obtain⟨t,rfl⟩:=rx;rfl)
theorem p9:OpR X (L7 .NotIn) (fun x y H Q=>∃i j,x=.str i/\y=.str j/\Q (.bl (!(!(U0 j i 0 j.length 1).isEmpty))) H):=by
 intro ae s σ H x y v u Q I rx ry h
 obtain⟨i,j,rfl,rfl,q⟩:=h
 obtain⟨t,rfl⟩:=rx
 obtain⟨t',rfl⟩:=ry
 exact notIn_str (oZ I q rfl)
theorem AR{op:aa7}{r:R2}(ho:OpR X (L7 op) r) (ha:PE X a ta) (hb:PE X b tb) (hm:P0 op b=false):PE X (.Compare a [op] [b] pos) (tOp r ta tb):=by
 intro ae s σ H Q I h
 exact wpAny_Compare1 (D4 ha hb I h fun v u s2 x y H2 I2 rx ry q=>ho ae s2 σ H2 x y v u Q I2 rx ry q) hm
def Ct(t:TE):TT:=fun σ H Q=>t σ H fun x H'=>∃k,x=.bl k/\Q k H'
theorem Ci{op:aa7}{r:R2}(ho:OpR X (L7 op) r) (ha:PE X a ta) (hb:PE X b tb) (hm:P0 op b=false):PT X (.Compare a [op] [b] pos) (Ct (tOp r ta tb)):=by
 intro ae s σ H Q I h
 refine wpAny_isTrue_Compare1 (thn (ha ae s σ H _ I h) fun v s1 ⟨x,H1,I1,r1,q1⟩=>thn (hb ae s1 σ H1 _ I1 q1) fun u s2 ⟨y,H2,I2,r2,q2⟩ =>
  thn (ho ae s2 σ H2 x y v u _ I2 r1 r2 q2) fun c s3 ⟨z,H3,I3,r3,k,e,q3⟩=>?_) hm
 subst e
 cases r3
 exact R1 ⟨H3,I3,q3⟩
def Fn(r r':R2) (ta tb tc:TE):TE:=fun σ H Q=>ta σ H fun x H1=>tb σ H1 fun y H2=>r x y H2 fun z H3=>∃k,z=.bl k /\
 (if k=true then tc σ H3 fun w' H4=>r' y w' H4 Q else Q (.bl false) H3)
theorem zN{op op':aa7}{r r':R2}(ho:OpR X (L7 op) r) (ho':OpR X (L7 op') r') (ha:PE X a ta) (hb:PE X b tb) (hc:PE X c tc)
  (hm:lastMarks [op,op'] [b,c]=false:=by with_unfolding_all rfl):PE X (.Compare a [op,op'] [b,c] pos) (Fn r r' ta tb tc):=by
 intro ae s σ H Q I h
 refine Compare_chain (thn (ha ae s σ H _ I h) fun v s1 ⟨x,H1,I1,r1,q1⟩=>chain_link (thn (hb ae s1 σ H1 _ I1 q1) fun u s2 ⟨y,H2,I2,r2,q2⟩ =>
  thn (ho ae s2 σ H2 x y v u _ I2 r1 r2 q2) fun d s3 ⟨z,H3,I3,r3,k,e,q3⟩=>?_)) hm
 subst e
 cases r3
 refine R1 ?_
 cases k with
 |false=>exact ite_ff ⟨.bl false,H3,I3,rfl,q3⟩
 |true=>exact ite_tt (chain_last (thn (hc ae s3 σ H3 _ I3 q3) fun w' s4 ⟨z',H4,I4,r4,q4⟩=>ho' ae s4 σ H4 y z' u w' Q I4 r2 r4 q4))
/-! ### truth -/
theorem j8:(J0:Nat)<2 ^ 63:=by rw[aa2];decide
/-! ### strs and bytes -/
theorem tW:OpR X (P9 .Add) (fun x y H Q=>∃i j,x=.str i/\y=.str j/\i.length+j.length<=J0/\Q (.str (i++j)) H):=by
 intro ae s σ H x y v u Q I rx ry h
 obtain⟨i,j,rfl,rfl,hz,q⟩:=h
 obtain⟨t,rfl⟩:=rx
 obtain⟨t',rfl⟩:=ry
 exact add_str (fun t' tk=>⟨.str (i++j),H,I.tok _,⟨_,rfl⟩,q⟩) hz
/-! ### scalar builtins,by cM -/
theorem nt{x:V}{us:List s0}(r:aA [x] us):∃u,us=[u]/\aD x u:=by
 cases r with
 |cons r1 r2=>cases r2;exact⟨_,rfl,r1⟩
theorem xT{x y:V}{us:List s0}(r:aA [x,y] us):∃u w',us=[u,w']/\aD x u/\aD y w':=by
 cases r with
 |cons r1 r2 =>
  cases r2 with
  |cons r3 r4=>cases r4;exact⟨_,_,rfl,r1,r3⟩
theorem xN:cM X (.builtin "abs") (fun xs H Q=>∃i,xs=[.int i]/\Q (.int (if i<0 then -i else i)) H):=by
 intro ae s σ H xs us Q I r h
 obtain⟨i,rfl,q⟩:=h
 obtain⟨u,rfl,t,rfl⟩:=nt r
 exact call_abs_int fun u tk=>⟨.int (if i<0 then -i else i),H,I.tok _,⟨_,rfl⟩,q⟩
theorem wJ(hc:X.calm=true):cM X (.builtin "max") (fun xs H Q=>∃i j,xs=[.int i,.int j]/\Q (.int (if j > i then j else i)) H):=by
 intro ae s σ H xs us Q I r h
 obtain⟨i,j,rfl,q⟩:=h
 obtain⟨u,w',rfl,⟨t,rfl⟩,⟨t',rfl⟩⟩:=xT r
 refine max_two_ints (I.ok.hd hc) fun h' tk k=>⟨_,H,I.kept k,?_,q⟩
 by_cases hj:j > i
 ·rw[if_pos hj,if_pos hj];exact⟨_,rfl⟩
 ·rw[if_neg hj,if_neg hj];exact⟨_,rfl⟩
theorem w6(hc:X.calm=true):cM X (.builtin "min") (fun xs H Q=>∃i j,xs=[.int i,.int j]/\Q (.int (if j<i then j else i)) H):=by
 intro ae s σ H xs us Q I r h
 obtain⟨i,j,rfl,q⟩:=h
 obtain⟨u,w',rfl,⟨t,rfl⟩,⟨t',rfl⟩⟩:=xT r
 refine min_two_ints (I.ok.hd hc) fun h' tk k=>⟨_,H,I.kept k,?_,q⟩
 by_cases hj:j<i
 ·rw[if_pos hj,if_pos hj];exact⟨_,rfl⟩
 ·rw[if_neg hj,if_neg hj];exact⟨_,rfl⟩
theorem wy:cM X (.type "int") (fun xs H Q=>(∃i,xs=[.int i]/\Q (.int i) H)∨∃k,xs=[.bl k]/\Q (.int (if k then 1 else 0)) H):=by
 intro ae s σ H xs us Q I r h
 rcases h with⟨i,rfl,q⟩|⟨k,rfl,q⟩
 ·obtain⟨u,rfl,t,rfl⟩:=nt r
  exact call_int_int ⟨.int i,H,I,⟨_,rfl⟩,q⟩
 ·obtain⟨u,rfl,r1⟩:=nt r
  cases r1
  exact call_int_bool ⟨.int (if k then 1 else 0),H,I.tok _,⟨_,rfl⟩,q⟩
theorem rX:cM X (.builtin "divmod") (fun xs H Q=>∃i j,xs=[.int i,.int j]/\mX i j/\∀p,H p=none->Q (.ref p) (upd H p (.tup [.int (i / j),.int (i % j)]))):=by
 intro ae s σ H xs us Q I r h
 obtain⟨i,j,rfl,⟨h1,h2⟩,q⟩:=h
 obtain⟨u,w',rfl,⟨t,rfl⟩,⟨t',rfl⟩⟩:=xT r
 refine divmod_int (by omega) ?_ (.inl (PyProof.noPylong_small (by omega)))
 rw[Int.fdiv_eq_ediv_of_nonneg i (by omega),Int.fmod_eq_emod_of_nonneg i (by omega)]
 have hn:H s.heap.objs.size=none:=I.hok.fresh (J4 _)
 refine⟨.ref s.heap.objs.size,_,?_,rfl,q _ hn⟩
 refine I.laid (fun b o e=>u8 _ e) (J4 _) ⟨by simp only[N9,W3];rw[aa2];decide,[.int (i / j) s.toks,.int (i % j) (s.toks+1)],.cons ⟨_,rfl⟩ (.cons ⟨_,rfl⟩ .nil),?_⟩
 exact⟨_,J6 s.heap rfl,rfl,⟨0,rfl⟩,rfl⟩
end
/-! ### an instance,its attributes a map -/
structure wK(h:L9) (x dx C:J9) (mA:Str->Option s0):Prop where
 obj:h.get? x=some (R3 C dx)
 ns:h.Ns1 dx mA
 ne:dx≠x
theorem wz{h:L9}{dx:J9}{mA:Str->Option s0}(n:h.Ns1 dx mA):∃od,h.get? dx=some od/\∀name,PySem.W.lookIn name od=some (mA name):=by
 obtain⟨o,es,ep,ho,hd,hk,_,hm⟩:=n
 refine⟨o,ho,fun name=>?_⟩
 have e:=hm name
 unfold nsFind findBy at e
 rw[<-Array.find?_toList]at e
 unfold PySem.W.lookIn
 rw[hd]
 dsimp only
 split
 ·rename_i y q
  rw[q]at e
  exact congrArg some e
 ·rename_i q
  rw[q]at e
  have a:es.toList.any (·.refKey)=false:=by
   rw[List.any_eq_false]
   intro y hy
   obtain⟨z,t,hkey⟩:=hk y (Array.mem_toList_iff.mp hy)
   simp[ad5.refKey,hkey]
  have a':¬ es.toList.any (·.refKey)=true:=by rw[a];exact N1
  rw[if_neg a']
  exact congrArg some e
theorem wK.look{h:L9}{x dx C:J9}{mA:Str->Option s0}(I:wK h x dx C mA):∃od,PySem.W.InstAt h x (R3 C dx) C (some od)/\∀name,PySem.W.lookIn name od=some (mA name) :=
 let⟨od,ho,hl⟩:=wz I.ns
 ⟨od,⟨I.obj,rfl,rfl,ho⟩,hl⟩
section
variable{prog:L8}{w:P2}{A:O3}{E:s0->I0->Prop}{s:I0}{K:o0}{x dx C f:J9}{mA:Str->Option s0}{name:Str}{v:s0}
theorem Cf{expr:Bool}{Q:s0->I0->Prop}(X:K.In s.heap) (I:wK s.heap x dx C mA) (hg:PySem.W.plainGet K C name=true) (hh:PySem.W.hasDictIn K C=true)
  (ha:S8 K (.ref C) name=some none) (hv:mA name=some v) (hv':PySem.W.handedIn v=true) (h:Q v { s with toks:=s.toks+1 }) :
  K5 (L3 prog w) A (getAttr (.ref x) name expr) Q E s:=by
 obtain⟨od,J,hl⟩:=I.look
 exact PySem.W.get_value X J (PySem.W.plainGet_of hg).1 (PySem.W.findObj_own hh ha rfl (by rw[hl,hv])) hv' h
theorem Bl{ns:List Str}{Q:Unit->I0->Prop}(X:K.In s.heap) (I:wK s.heap x dx C mA)
  (hs:S8 K (.ref C) "__setattr__"=some (some (.builtin "object.__setattr__"))) (hp:PySem.W.plainOver K C=true) (ht:PySem.W.takerIn K C name=some none) (hh:PySem.W.hasDictIn K C=true)
  (hw:aa9 mA ns) (hsz:ns.length<=J0)
  (h:∀h',wK h' x dx C (fun y=>if y=name then some v else mA y)->S7 dx s.heap h'->Q () { s with heap:=h',toks:=s.toks+2 }) :
  K5 (L3 prog w) A (setAttr (.ref x) name v) Q E s:=by
 obtain⟨od,J,hl⟩:=I.look
 refine PySem.W.set_plain X J hs (PySem.W.osa_open (s:={ s with toks:=s.toks+1 }) (r:=none) X J hp ht fun b=>?_)
 obtain⟨cd,hc,hd'⟩:=PySem.W.any_some hh
 have hx:s.heap.get? x=some ⟨.ref C,some dx,.plain,#[]⟩:=I.obj
 refine t3 (J3 (t3 (t3 (wpAny_loadPart hx (t3 (PySem.W.Looks.here (s:={ s with toks:=s.toks+1 }) (PySem.W.looks_clsIn X hc) ?_))))))
 rw[hd']
 refine J3 (a:=some dx) (t3 (J3 (t3 ?_)))
 refine wpAny_nsSet1 (s:={ s with toks:=s.toks+1 }) I.ns fun h' hn2 hs2=>?_
 obtain⟨oD,esD,epD,hoD,hdD,hcD⟩:=hn2.count (aa9.cons name v hw)
 refine t3 (wpAny_lookBehind hoD (by rw[hdD];exact pastItsLine_dict (M9 hcD (by rw[N9];omega))) ?_)
 exact J3 (h _ ⟨(hs2.2 _ (W9 I.ne)).trans I.obj,hn2,I.ne⟩ hs2)
theorem zi{R:Result->I0->Prop}{vs:List s0}{kw:List (Str×s0)}(X:K.In s.heap) (hm:PySem.W.makesIn K C=true)
  (hi:S8 K (.ref C) "__init__"=some (some (.ref f))) (hf:PySem.W.typeIn K (.ref f)=some (.type "function"))
  (h:Z4 (L3 prog w) (A.under (.builtin "type.__call__" ⟨.ref C :: vs,kw⟩)) (.call (.ref f) ⟨.ref (s.heap.objs.size + 1) :: vs,kw⟩) (PySem.W.InitBack (s.heap.objs.size + 1) R)
   { s with heap:=(s.heap.push P5).push (R3 C s.heap.objs.size) }) :
  Z4 (L3 prog w) A (.call (.ref C) ⟨vs,kw⟩) R s:=by
 obtain⟨hh,g,d,t,os⟩:=s
 exact PySem.W.make_core (PySem.W.makes_of X hm) (PySem.W.looks_findIn X hi) (fun self=>PySem.W.bind_fn X self hf) (.inl rfl) h
end
/-! ### the attributes as a list of pairs -/
def putF(f:Str) (v:V):List (Str×V)->List (Str×V)
 |[]=>[(f,v)]
 |(g,x)::r=>if g=f then(g,v)::r else(g,x)::putF f v r
theorem kH(f g:Str) (v:V):∀fs:List (Str×V),(putF f v fs).lookup g=if g=f then some v else fs.lookup g
 |[]=>by
  show S9 g [(f,v)]=_
  by_cases h:g=f
  ·have hb:(g==f)=true:=beq_iff_eq.mpr h
   simp only[S9,hb,if_pos h]
  ·have hb:(g==f)=false:=beq_eq_false_iff_ne.mpr h
   simp only[S9,hb,if_neg h]
 |(k,x)::r=>by
  have ih:=kH f g v r
  rw[show putF f v ((k,x)::r)=(if k=f then(k,v)::r else(k,x)::putF f v r)from rfl]
  by_cases hk:k=f
  ·rw[if_pos hk]
   by_cases h:g=k
   ·have hb:(g==k)=true:=beq_iff_eq.mpr h
    simp only[S9,hb,if_pos (h.trans hk)]
   ·have hb:(g==k)=false:=beq_eq_false_iff_ne.mpr h
    simp only[S9,hb,if_neg (fun e:g=f=>h (e.trans hk.symm))]
  ·rw[if_neg hk]
   by_cases h:g=k
   ·have hb:(g==k)=true:=beq_iff_eq.mpr h
    simp only[S9,hb,if_neg (fun e:g=f=>hk (h.symm.trans e))]
   ·have hb:(g==k)=false:=beq_eq_false_iff_ne.mpr h
    simp only[S9,hb]
    exact ih
theorem kB(f:Str) (v:V):∀fs:List (Str×V),f∈(putF f v fs).map (·.1)/\∀g,g∈fs.map (·.1)->g∈(putF f v fs).map (·.1)
 |[]=>⟨by simp[putF],fun g h=>by simp at h⟩
 |(k,x)::r=>by
  obtain⟨i1,i2⟩:=kB f v r
  rw[show putF f v ((k,x)::r)=(if k=f then(k,v)::r else(k,x)::putF f v r)from rfl]
  by_cases hk:k=f
  ·rw[if_pos hk]
   subst hk
   exact⟨by simp,fun g h=>by simpa using h⟩
  ·rw[if_neg hk]
   refine⟨?_,fun g h=>?_⟩
   ·rw[N2]
    exact L5 _ i1
   ·rw[N2]at h ⊢
    rcases O4.mp h with e|e
    ·exact O4.mpr (.inl e)
    ·exact L5 _ (i2 g e)
theorem kP(f:Str) (v:V):∀fs:List (Str×V),(putF f v fs).length<=fs.length+1
 |[]=>by simp[putF]
 |(k,x)::r=>by
  have ih:=kP f v r
  rw[show putF f v ((k,x)::r)=(if k=f then(k,v)::r else(k,x)::putF f v r)from rfl]
  by_cases hk:k=f
  ·rw[if_pos hk,N9,N9];omega
  ·rw[if_neg hk,N9,N9];omega
theorem iA.some_of{v:V}{o:Option s0}(r:iA (some v) o):∃u,o=some u/\aD v u:=by
 cases o with
 |none=>exact(show False from r).elim
 |some u=>exact⟨u,rfl,r⟩
theorem vQ{v:V}{u:s0}(r:aD v u):PySem.W.handedIn u=true:=by
 cases v with
 |non=>cases(show u=W8 from r);rfl
 |bl b=>cases(show u=s0.bool b from r);rfl
 |int i=>obtain⟨t,e⟩:=(show ∃t,u=ad0 i t from r);cases e;rfl
 |str x=>obtain⟨t,e⟩:=(show ∃t,u=ad1 x t from r);cases e;rfl
 |byt b=>obtain⟨t,e⟩:=(show ∃t,u=s0.bytes b t from r);cases e;rfl
 |flt b=>obtain⟨t,e⟩:=(show ∃t,u=s0.float b t from r);cases e;rfl
 |ref a=>cases(show u=O2 a from r);rfl
 |ty n=>cases(show u=Y2 n from r);rfl
section
variable{P:L8}{w:P2}{H H':Hp}{h h':L9}{a C dx:J9}{fs fs':List (Str×V)}
theorem u7(hok:HOk P w H h) (e:H a=some (.ins C dx fs)):∃mA,wK h a dx C mA/\(∀f,iA (fs.lookup f) (mA f))/\aa9 mA (fs.map (·.1))/\fs.length<=1000/\H dx=some (.own a):=by
 obtain⟨d,z,ne,ob,mA,n,r,q⟩:=(show cu P w H h a (.ins C dx fs)from hok a _ e)
 exact⟨mA,⟨ob,n,ne⟩,r,q,z,d⟩
end
/-! ### what of the text a class must have -/
structure Cls(K:o0) (C:J9):Prop where
 pg:PySem.W.plainGet K C Str.empty=true
 hd:PySem.W.hasDictIn K C=true
 po:PySem.W.plainOver K C=true
 sa:S8 K (.ref C) "__setattr__"=some (some (.builtin "object.__setattr__"))
theorem Cls.get{K:o0}{C:J9}(c:Cls K C) (f:Str):PySem.W.plainGet K C f=true:=c.pg
def cT(K:o0) (C:J9) (f:Str):Prop:=S8 K (.ref C) f=some none
theorem cT.taker{K:o0}{C:J9}{f:Str}(n:cT K C f):PySem.W.takerIn K C f=some none:=by
 unfold PySem.W.takerIn
 rw[show S8 K (.ref C) f=some none from n]
 rfl
section
variable{X:Cx}{ae:List (J9×Obj)}{σ:St}{H:Hp}{s:I0}{a C dx:J9}{fs:List (Str×V)}{f:Str}{v:V}{A:O3}{E:s0->I0->Prop}
theorem sM{b:Bool}{Q:s0->I0->Prop}(I:Inv X ae σ H s) (e:H a=some (.ins C dx fs)) (c:Cls X.K C) (n:cT X.K C f) (l:fs.lookup f=some v)
  (h:∀u s',Inv X ae σ H s'->aD v u->Q u s'):K5 (L3 X.prog X.w) A (getAttr (.ref a) f b) Q E s:=by
 obtain⟨mA,O,r,_,_,_⟩:=u7 I.hok e
 obtain⟨u,hu,ru⟩:=iA.some_of (v:=v) (o:=mA f) (by rw[<-l];exact r f)
 exact Cf I.kIn O (c.get f) c.hd n hu (vQ ru) (h u _ (I.tok _) ru)
theorem um{y:V}{u:s0}{Q:Unit->I0->Prop}(I:Inv X ae σ H s) (e:H a=some (.ins C dx fs)) (c:Cls X.K C) (n:cT X.K C f) (hl:fs.length<1000) (ry:aD y u)
  (h:∀s',Inv X ae σ (upd H a (.ins C dx (putF f y fs))) s'->Q () s'):K5 (L3 X.prog X.w) A (setAttr (.ref a) f u) Q E s:=by
 obtain⟨mA,O,r,wi,_,ho⟩:=u7 I.hok e
 have hz:(fs.map (·.1)).length<=J0:=by rw[V2,aa2];omega
 refine Bl I.kIn O c.sa c.po n.taker c.hd wi hz fun h' O' sb=>h _ ?_
 have hd:∃o,h'.get? dx=some o:=let⟨o,_,_,e',_⟩:=O'.ns;⟨o,e'⟩
 refine I.write (x:=a) (e:=dx) (by rw[e];exact V9) (.inr ho) (fun b q hb z=>(sb.2 b hb).trans z) hd ?_
 refine⟨by rw[aI O.ne];exact ho,?_,O.ne,O'.obj,_,O'.ns,fun g=>?_,fun g hg=>?_⟩
 ·have:=kP f y fs;omega
 ·show iA ((putF f y fs).lookup g) (if g=f then some u else mA g)
  rw[kH]
  by_cases q:g=f
  ·rw[if_pos q,if_pos q];exact ry
  ·rw[if_neg q,if_neg q];exact r g
 ·by_cases q:g=f
  ·rw[q];exact(kB f y fs).1
  ·refine(kB f y fs).2 g (wi g fun z=>hg ?_)
   show(if g=f then some u else mA g)=none
   rw[if_neg q];exact z
theorem Inv.made(I:Inv X ae σ H s):Inv X ae σ (upd (upd H s.heap.objs.size (.own (s.heap.objs.size+1))) (s.heap.objs.size+1) (.ins C s.heap.objs.size []))
  { s with heap:=(s.heap.push P5).push (R3 C s.heap.objs.size) }:=by
 have e1:(s.heap.push P5).get? s.heap.objs.size=some P5:=J6 s.heap rfl
 have e2:((s.heap.push P5).push (R3 C s.heap.objs.size)).get? (s.heap.objs.size+1)=some (R3 C s.heap.objs.size):=by
  have:=J6 (s.heap.push P5) (o:=R3 C s.heap.objs.size) rfl
  rwa [R0]at this
 have e3:(s.heap.push P5).Ns s.heap.objs.size (fun _=>none):=⟨P5,#[],_,e1,rfl,(fun e he=>absurd he (by simp)),fun _=>rfl⟩
 have I1:=I.laid (a:=s.heap.objs.size) (o:=.own (s.heap.objs.size+1)) (h':=s.heap.push P5) (t':=s.toks) (fun b u q=>u8 _ q) (J4 _) ⟨_,e1⟩
 refine I1.laid (a:=s.heap.objs.size+1) (o:=.ins C s.heap.objs.size []) (t':=s.toks) (fun b u q=>u8 _ q) (Nat.le_of_eq (R0 _ _)) ?_
 have ne:s.heap.objs.size≠s.heap.objs.size+1:=K0 (P1 _)
 refine⟨by rw[aI ne,aC],U1 _,ne,e2,fun _=>none,(L9.Ns1.of_empty e3).at fun o q=>u8 _ q,fun _=>V9,fun y hy=>absurd rfl hy⟩
theorem AJ{prog:L8}{w:P2}{env:Env}{e:K4}{f:Str}{pos:Pos}{s:I0}{Q:s0->I0->Prop}(hb:U2 e f env (T7 e env)=T7 e env)
  (h:K5 (L3 prog w) A (T7 e env) (fun o s₁=>K5 (L3 prog w) A (getAttr o f true) Q E s₁) E s):K5 (L3 prog w) A (T7 (.Attribute e f pos) env) Q E s :=
 Attribute_any_ h (by rw[arm_eval_Attribute,hb])
end
/-! ### readings and rules -/
def HX(K:o0) (ta:TE) (f:Str):TE:=fun σ H Q=>ta σ H fun x H1=>∃a C dx fs v,x=.ref a/\H1 a=some (.ins C dx fs)/\Cls K C/\cT K C f/\fs.lookup f=some v/\Q v H1
def Ic(K:o0) (ta tv:TE) (f:Str):TS:=fun D σ H=>tv σ H fun y H1=>ta σ H1 fun x H2=>∃a C dx fs,x=.ref a/\H2 a=some (.ins C dx fs)/\Cls K C/\cT K C f/\fs.length<1000 /\
 D.nx σ (upd H2 a (.ins C dx (putF f y fs)))
section
variable{X:Cx}{o e value:K4}{f:Str}{pos pos' tpos:Pos}{ta tv:TE}
theorem DY(he:PE X e ta) (hb:U2 e f X.env (T7 e X.env)=T7 e X.env):PE X (.Attribute e f pos) (HX X.K ta f):=by
 intro ae s σ H Q I h
 refine AJ hb (thn (he ae s σ H _ I h) fun u s1 ⟨x,H1,I1,rx,a,C,dx,fs,v,ex,ea,c,n,l,q⟩=>?_)
 subst ex
 obtain rfl:u=O2 a:=rx
 exact sM I1 ea c n l fun u' s2 I2 ru=>⟨v,H1,I2,ru,q⟩
theorem DO(ha:PE X o ta) (hv:PE X value tv) (hs:U7 value (some (.Attribute o f pos')) pos.line X.env=W0 false):PS X (.Assign [.Attribute o f pos'] value pos) (Ic X.K ta tv f):=by
 intro ae s σ H D I h
 refine plainObj_wpAny_Assign_Attribute (thn (hv ae s σ H _ I h) fun u s1 ⟨y,H1,I1,ry,q⟩=>thn (ha ae s1 σ H1 _ I1 q) fun ov s2 ⟨x,H2,I2,rx,a,C,dx,fs,ex,ea,c,n,l,q2⟩=>?_) hs
 subst ex
 obtain rfl:ov=O2 a:=rx
 exact um I2 ea c n l ry fun s3 I3=>⟨σ,_,I3,q2⟩
end
/-! ### isinstance -/
section
variable{X:Cx}{ae:List (J9×Obj)}{σ:St}{H:Hp}{s:I0}{A:O3}{E:s0->I0->Prop}{Q:s0->I0->Prop}{c:s0}{b:Bool}
inductive lO (K:o0) (H:Hp):V->s0->Prop where
 |non:lO K H .non (.type "NoneType")
 |bl (x:Bool):lO K H (.bl x) (.type "bool")
 |int (i:Int):lO K H (.int i) (.type "int")
 |str (x:Str):lO K H (.str x) (.type "str")
 |flt (x:UInt64):lO K H (.flt x) (.type "float")
 |lst {a:J9} {xs:List V} (e:H a=some (.lst xs)):lO K H (.ref a) (.type "list")
 |frz {a:J9} {o:Obj} {xs:List V} (e:H a=some (.frz o (.lst xs))):lO K H (.ref a) (.type "list")
 |tup {a:J9} {xs:List V} (e:H a=some (.tup xs)):lO K H (.ref a) (.type "tuple")
 |dK {a:J9} {kvs:List (Key×V)} (e:H a=some (.dK kvs)):lO K H (.ref a) (.type "dict")
 |dT {a:J9} {kvs:List (List Key×V)} (e:H a=some (.dT kvs)):lO K H (.ref a) (.type "dict")
 | ins {a C dx:J9} {fs:List (Str × V)} (e:H a = some (.ins C dx fs)) (cl:Cls K C) (ha:S8 K (.ref C) "__class__" = some (some (.builtin "object.__class__")))
   (hn:PySem.W.specialIn K (.builtin "object.__class__") "__get__"=some (some (.builtin "getset_descriptor.__get__"))) (htk:PySem.W.takesIn K (.builtin "object.__class__")=some true)
   (hm:PySem.W.mroIn K C (.type "object")=some true):lO K H (.ref a) (.ref C)
end
/-! ### room -/
structure cA(k:Nat) (A:O3):Prop where
 hd:A.handled=none
 dp:A.depth+3*k+5<recursionLimit
 un:A.units+16*k+200<X7
theorem cA.mono{j k:Nat}{A:O3}(r:cA k A) (h:j<=k):cA j A:=⟨r.hd,by have:=r.dp;omega,by have:=r.un;omega⟩
theorem cA.deeper{k:Nat}{A:O3}(r:cA (k+1) A) (env:Env):cA k (A.deeper env) :=
 ⟨r.hd,by have:=r.dp;show A.depth+1+3*k+5<_;omega,by have:=r.un;show A.units+3+16*k+200<_;omega⟩
theorem sV{A:O3}{C:J9}{us:List s0}{kw:List (Str×s0)}:(A.under (.builtin "type.__call__" ⟨.ref C::us,kw⟩)).depth=A.depth+1:=by
 first|rfl|simp[O3.under,Code.weight,Code.isCreation,Code.isGuard,Code.isCaller,Code.frames,Code.isFrame,guardIds]
theorem sJ{A:O3}{C:J9}{us:List s0}{kw:List (Str×s0)}:(A.under (.builtin "type.__call__" ⟨.ref C::us,kw⟩)).units=A.units+1:=by
 first|rfl|simp[O3.under,Code.cUnits,Code.frames,Code.isFrame]
theorem cA.make{k:Nat}{A:O3}(r:cA (k+1) A) (C:J9) (us:List s0) (kw:List (Str×s0)):cA k (A.under (.builtin "type.__call__" ⟨.ref C::us,kw⟩)) :=
 ⟨r.hd,by have:=r.dp;rw[sV];omega,by have:=r.un;rw[sJ];omega⟩
theorem cA.depth{k:Nat}{A:O3}(r:cA k A):A.depth<recursionLimit:=by have:=r.dp;omega
theorem cA.units{k:Nat}{A:O3}(r:cA k A):A.units+64<X7:=by have:=r.un;omega
/-! ### argument lists and displays -/
def Ir:TA:=fun _ H Q=>Q [] H
def Ht(ta:TE) (tr:TA):TA:=fun σ H Q=>ta σ H fun x H1=>tr σ H1 fun xs H2=>Q (x::xs) H2
section
variable{X:Cx}{e:K4}{es:List K4}{te:TE}{t:TA}{pos:Pos}
theorem iU:PA X [] Ir:=fun _ _ _ _ H Q I h=>Calls.spliced_nil ⟨[],H,I,.nil,h⟩
theorem dP(ha:PE X e te) (hr:PA X es t) (hs:J5 (e::es) X.env=(false,T7 e X.env)::J5 es X.env:=by rfl):PA X (e::es) (Ht te t):=by
 intro pos ae s σ H Q I h
 rw[hs]
 show K5 _ _ (spliced ((false,T7 e X.env)::T3 pos (J5 es X.env))) _ _ s
 refine Calls.spliced_cons (thn (ha ae s σ H _ I h) fun u s1 ⟨x,H1,I1,r1,q1⟩=>?_)
 exact thn (hr pos ae s1 σ H1 _ I1 q1) fun us s2 ⟨xs,H2,I2,r2,q2⟩=>⟨x::xs,H2,I2,.cons r1 r2,q2⟩
def FP(t:TA):TE:=fun σ H Q=>t σ H fun xs H1=>xs.length<=J0/\∀p,H1 p=none->Q (.ref p) (upd H1 p (.tup xs))
def Iv(t:TA):TE:=fun σ H Q=>t σ H fun xs H1=>xs.length<=J0/\∀p,H1 p=none->Q (.ref p) (upd H1 p (.lst xs))
theorem iY{x1}(h:PA X es t):PE X (.Tuple es x1 pos) (FP t):=by
 intro ae s σ H Q I hq
 refine wpAny_Tuple_spliced (thn (h pos ae s σ H _ I hq) fun us s1 ⟨xs,H1,I1,r,z,q⟩=>⟨by rw[<-r.length];exact z,?_⟩)
 have hf:H1 s1.heap.objs.size=none:=I1.hok.fresh (J4 _)
 refine⟨.ref s1.heap.objs.size,upd H1 s1.heap.objs.size (.tup xs),I1.laid (t':=s1.toks) (fun b u e=>u8 _ e) (J4 _) ?_,rfl,q _ hf⟩
 exact⟨z,us,r,⟨_,J6 _ rfl,rfl,⟨_,rfl⟩,rfl⟩⟩
theorem zy(h:PA X es t):PE X (.List es pos) (Iv t):=by
 intro ae s σ H Q I hq
 refine wpAny_List_spliced (thn (h pos ae s σ H _ I hq) fun us s1 ⟨xs,H1,I1,r,z,q⟩=>⟨by rw[<-r.length];exact z,?_⟩)
 have hf:H1 s1.heap.objs.size=none:=I1.hok.fresh (J4 _)
 refine⟨.ref s1.heap.objs.size,upd H1 s1.heap.objs.size (.lst xs),I1.laid (t':=s1.toks) (fun b u e=>u8 _ e) (J4 _) ?_,rfl,q _ hf⟩
 exact⟨z,us,0,r,J6 _ rfl⟩
end
/-! ### what a def promises -/
abbrev Sp:=List V->Hp->VK->XK->Prop
abbrev CXT:=List Env->Hp->I0->XK->s0->I0->Prop
structure ui(P:L8) (w:P2) (K:o0) (mg:Str->Option s0) (base:L9) (A:O3) (outer:List Env) (s:I0) (H:Hp):Prop where
 frames:A.frames=some outer
 mod:Mod K mg base
 bs:∀b o,base.get? b=some o->s.heap.get? b=some o/\H b=none
 bsz:base.objs.size<=s.heap.objs.size
 funs:s.heap.FunFrames base outer
 frf:∀b∈frs outer,H b=none
 hok:HOk P w H s.heap
 bare:Z3 s.gens
def CE(outer:List Env) (P:L8) (w:P2) (H:Hp) (s:I0) (Q:VK) (u:s0) (s':I0):Prop :=
 ∃v H',s'.os=s.os/\Z3 s'.gens/\Un (frs outer) [] H H' s.heap s'.heap/\HOk P w H' s'.heap/\aD v u/\Q v H'
def CR(CX:CXT) (outer:List Env) (P:L8) (w:P2) (H:Hp) (s:I0) (Q:VK) (E:XK) (r:Result) (s':I0):Prop :=
 match r with
 |.ok (.ret u)=>CE outer P w H s Q u s'
 |.ok _=>False
 |.error e=>CX outer H s E e s'
structure ba(P:L8) (w:P2) (K:o0) (mg:Str->Option s0) (base:L9) (CX:CXT) (k:Nat) (f:J9) (fd:U3) (ps:List Str) (sp:Sp):Prop where
 len:∀vs H Q E,sp vs H Q E->vs.length=ps.length
 run:∀(A:O3) (outer:List Env) (s:I0) (H:Hp) (args:Args) (us:List s0) (vs:List V) (Q:VK) (E:XK),cA k A->ui P w K mg base A outer s H->ad6 s fd args (ps.zip us)->aA vs us->sp vs H Q E ->
  Z4 (L3 P w) A (.call (.ref f) args) (CR CX outer P w H s Q E) s
theorem ui.make{P:L8}{w:P2}{K:o0}{mg:Str->Option s0}{base:L9}{A:O3}{outer:List Env}{s:I0}{H:Hp}(e:ui P w K mg base A outer s H) (C:J9) (us:List s0) (kw:List (Str×s0)) :
  ui P w K mg base (A.under (.builtin "type.__call__" ⟨.ref C::us,kw⟩)) outer s H:=⟨by first|exact e.frames|(simpa[O3.under,Code.envs,Code.isFrame,pushEnvs]using e.frames),e.mod,e.bs,e.bsz,e.funs,e.frf,e.hok,e.bare⟩
section
variable{X:Cx}{ae:List (J9×Obj)}{σ:St}{H:Hp}{s s':I0}
theorem Inv.env0(I:Inv X ae σ H s):ui X.prog X.w X.K X.mg X.base X.A X.stack s H :=
 ⟨I.ok.frames,I.ok.mod,I.bs,M9 I.ok.bsz I.sz,I.stack,I.stkFree,I.hok,I.bare⟩
theorem Inv.after{Q:VK}{u:s0}(I:Inv X ae σ H s) (h:CE X.stack X.prog X.w H s Q u s'):EP X ae σ Q u s':=by
 obtain⟨v,H',os,bare,un,hok,r,q⟩:=h
 obtain⟨hh,g,d,t,os'⟩:=s'
 obtain rfl:os'=s.os:=os
 exact⟨v,H',I.call (h':=hh) (g':=g) (d':=d) (t':=t) (ch:=[]) un hok bare (fun b z=>absurd z (by simp)),r,q⟩
end
/-! ### calls -/
def FN(sp:Sp) (dvs:List V) (E:XK) (t:TA):TE:=fun σ H Q=>t σ H fun vs H1=>sp (vs++dvs) H1 Q E
def Hs(C:J9) (sp:Sp) (dvs:List V) (E:XK) (t:TA):TE:=fun σ H Q=>t σ H fun vs H1=>∀x dx,H1 x=none->H1 dx=none->dx≠x ->
 sp (.ref x::(vs++dvs)) (upd (upd H1 dx (.own x)) x (.ins C dx [])) (fun v H2=>v=.non/\Q (.ref x) H2) E
def dv(K:o0) (fd:U3) (ps:List Str) (ds:List s0):Prop :=
 ∀(s:I0) (us:List s0),K.In s.heap->(us++ds).length=ps.length->ad6 s fd ⟨us,[]⟩ (ps.zip (us++ds))
theorem dv.all{K:o0}{fd:U3}{ps:List Str}(h:∀us:List s0,us.length=ps.length->bindArgs fd ⟨us,[]⟩=W0 (ps.zip us)):dv K fd ps []:=fun s us _ hl=>by
 rw[Y6]at hl ⊢
 exact .of_eq (h us hl)
def mJ(CX:CXT) (X:Cx) (E:XK):Prop:=∀(ae:List (J9×Obj)) (σ:St) (H:Hp) (s:I0) (e:s0) (s':I0),Inv X ae σ H s->CX X.stack H s E e s'->X.xe e s'
section
variable{X:Cx}{CX:CXT}{k:Nat}{f C:J9}{fd:U3}{ps:List Str}{sp:Sp}{dvs:List V}{ds:List s0}{E:XK}{x m:Str}{p pos aW:Pos}{e o:K4}{es:List K4}{ta:TE}{t:TA}
theorem C9{ae:List (J9×Obj)}{σ:St}{H:Hp}{s:I0}{Q:VK}{us:List s0}{vs:List V}(F:ba X.prog X.w X.K X.mg X.base CX k f fd ps sp) (hr:cA k X.A) (hb:dv X.K fd ps ds) (hd:aA dvs ds) (hx:mJ CX X E)
  (I:Inv X ae σ H s) (r:aA vs us) (h:sp (vs++dvs) H Q E):K5 (L3 X.prog X.w) X.A (call (.ref f) us) (EP X ae σ Q) X.xe s:=by
 have r2:aA (vs++dvs) (us++ds):=r.append hd
 have hl:(us++ds).length=ps.length:=by rw[<-r2.length];exact F.len _ _ _ _ h
 refine wpAny_call (ab1 (F.run X.A X.stack s H ⟨us,[]⟩ (us++ds) (vs++dvs) Q E hr I.env0 (hb s us I.kIn hl) r2 h) fun r s' hq=>?_)
 cases r with
 |error e=>exact hx ae σ H s e s' I hq
 |ok fl =>
  cases fl with
  |ret u=>exact I.after hq
  |next=>exact Q5 hq
  |brk=>exact Q5 hq
  |cont=>exact Q5 hq
theorem BO(F:ba X.prog X.w X.K X.mg X.base CX k f fd ps sp) (hr:cA k X.A) (hg:Gl X x) (hm:X.mg x=some (.ref f)) (hk:V5 X.K (.ref f)=true) (hb:dv X.K fd ps ds) (hd:aA dvs ds) (hx:mJ CX X E)
  (ha:PA X (e::es) t) (hdb:(x==("__debug__":Str))=false:=by decide) (he:J5 (e::es) X.env=(false,T7 e X.env)::J5 es X.env:=by rfl) (hpl:(T3 pos (J5 es X.env)).any (·.1)=false:=by rfl) :
  PE X (.Call (.Name x p) (e::es) [] pos) (FN sp dvs E t):=by
 intro ae s σ H Q I h
 refine W4 (pI I hg hm ?_ hdb)
 refine PySem.W.callWith_K (h₀:=X.base) I.ok.mod.kin hk (thn (ha pos ae s σ H _ I h) fun us s1 ⟨vs,H1,I1,r,q⟩=>⟨I1.kIn,?_⟩) he hpl
 exact C9 F hr hb hd hx I1 r q
structure Mk(K:o0) (C f:J9):Prop where
 makes:PySem.W.makesIn K C=true
 init:S8 K (.ref C) "__init__"=some (some (.ref f))
 fn:PySem.W.isFn K (.ref f)=true
 kp:V5 K (.ref C)=true
theorem Ac{ae:List (J9×Obj)}{σ:St}{H:Hp}{s:I0}{Q:VK}{us:List s0}{vs:List V}(M:Mk X.K C f) (F:ba X.prog X.w X.K X.mg X.base CX k f fd ps sp) (hr:cA (k+1) X.A) (hb:dv X.K fd ps ds) (hd:aA dvs ds)
  (hx:mJ CX X E) (I:Inv X ae σ H s) (r:aA vs us)
  (h:∀x dx,H x=none->H dx=none->dx≠x->sp (.ref x::(vs++dvs)) (upd (upd H dx (.own x)) x (.ins C dx [])) (fun v H2=>v=.non/\Q (.ref x) H2) E) :
  K5 (L3 X.prog X.w) X.A (call (.ref C) us) (EP X ae σ Q) X.xe s:=by
 have hq:=h (s.heap.objs.size+1) s.heap.objs.size (I.hok.fresh (Y7 _)) (I.hok.fresh (J4 _)) (K0 (P1 _))
 have I2:=Inv.made (C:=C) I
 have r2:aA (V.ref (s.heap.objs.size+1)::(vs++dvs)) (O2 (s.heap.objs.size+1)::(us++ds)):=.cons rfl (r.append hd)
 have hl:(O2 (s.heap.objs.size+1)::us++ds).length=ps.length:=by
  have e:=r2.length
  rw[F.len _ _ _ _ hq]at e
  exact e.symm
 refine wpAny_call (zi (f:=f) I.kIn M.makes M.init (beq_iff_eq.mp M.fn) (ab1 (F.run _ X.stack _ _ ⟨O2 (s.heap.objs.size+1)::us,[]⟩ (O2 (s.heap.objs.size+1)::(us++ds)) _ _ E (hr.make C us [])
  (I2.env0.make C us []) (hb _ (O2 (s.heap.objs.size+1)::us) I2.kIn hl) r2 hq) fun r s' hq'=>?_))
 cases r with
 |error e=>exact hx ae σ _ _ e s' I2 hq'
 |ok fl =>
  cases fl with
  |ret u =>
   obtain⟨v,H',I3,rv,ev,q3⟩:=I2.after hq'
   subst ev
   exact⟨rv,⟨V.ref (s.heap.objs.size+1),H',I3,rfl,q3⟩⟩
  |next=>exact Q5 hq'
  |brk=>exact Q5 hq'
  |cont=>exact Q5 hq'
theorem Cn(M:Mk X.K C f) (F:ba X.prog X.w X.K X.mg X.base CX k f fd ps sp) (hr:cA (k+1) X.A) (hg:Gl X x) (hm:X.mg x=some (.ref C)) (hb:dv X.K fd ps ds) (hd:aA dvs ds) (hx:mJ CX X E)
  (ha:PA X (e::es) t) (hdb:(x==("__debug__":Str))=false:=by decide) (he:J5 (e::es) X.env=(false,T7 e X.env)::J5 es X.env:=by rfl) (hpl:(T3 pos (J5 es X.env)).any (·.1)=false:=by rfl) :
  PE X (.Call (.Name x p) (e::es) [] pos) (Hs C sp dvs E t):=by
 intro ae s σ H Q I h
 refine W4 (pI I hg hm ?_ hdb)
 refine PySem.W.callWith_K (h₀:=X.base) I.ok.mod.kin M.kp (thn (ha pos ae s σ H _ I h) fun us s1 ⟨vs,H1,I1,r,q⟩=>⟨I1.kIn,?_⟩) he hpl
 exact Ac M F hr hb hd hx I1 r q
end
/-! ### keywords -/
section
variable{X:Cx}{CX:CXT}{k:Nat}{f C:J9}{fd:U3}{ps ks:List Str}{sp:Sp}{E:XK}{x m:Str}{p pos aW kpos:Pos}{e o:K4}{es:List K4}{kws:List X8}{te ta:TE}{t tk:TA}{nm:Option Str}
structure HM(K:o0) (fd:U3) (ps ks:List Str) (g:List s0->List s0->List s0) (gV:List V->List V->List V):Prop where
 to:∀(s:I0) (us ws:List s0),K.In s.heap->(g us ws).length=ps.length->ad6 s fd ⟨us,ks.zip ws⟩ (ps.zip (g us ws))
 rel:∀{vs:List V} {us:List s0} {zs:List V} {ws:List s0},aA vs us->aA zs ws->aA (gV vs zs) (g us ws)
variable{g:List s0->List s0->List s0}{gV:List V->List V->List V}
end
/-! ### a def's body keeps its promise -/
structure az(N P:List Str) (sc:U9):Prop where
 kind:sc.kind=.function
 co:sc.isCoroutine=false
 gen:sc.isGenerator=false
 nd:N.Nodup
 pre:N.take P.length=P
 par:∀x∈P,sc.names.lookup x=some .local∨sc.names.lookup x=some .cell
 nofree:∀y∈sc.names,y.2≠.free
theorem oa{Z8:Str->Option K8}{x:Str}:∀{binds:List (Str×s0)}{m:Str->Option s0},(∀v,(x,v)∉binds)->bindL Z8 binds m x=m x
 |[],_,_=>rfl
 |(n,v)::r,m,h=>by
  unfold bindL
  rw[oa fun w hw=>h w (L5 _ hw)]
  split
  ·have:x≠n:=by rintro rfl;exact h v N8
   simp[this]
  ·rfl
theorem nV{Z8:Str->Option K8}{x:Str}:∀{binds:List (Str×s0)}{m:Str->Option s0},(∀v,(x,v)∉binds)->bindC Z8 binds m x=m x
 |[],_,_=>rfl
 |(n,v)::r,m,h=>by
  unfold bindC
  rw[nV fun w hw=>h w (L5 _ hw)]
  split
  ·rfl
  ·have:x≠n:=by rintro rfl;exact h v N8
   simp[this]
theorem oH{Z8:Str->Option K8}{x:Str}{v:s0}:∀{P:List Str}{vs:List s0}{i:Nat}{m:Str->Option s0},P.Nodup->P[i]?=some x->vs[i]?=some v->Z8 x=some .local ->
  bindL Z8 (P.zip vs) m x=some v
 |[],_,_,_,_,h,_,_=>by simp at h
 |_::_,[],_,_,_,_,h,_=>by simp at h
 |p::P,w::vs,0,m,nd,h1,h2,hk=>by
  simp at h1 h2;subst h1;subst h2
  show bindL Z8 ((p,w)::P.zip vs) m p=_
  unfold bindL
  rw[oa fun v hv=>(W5.mp nd).1 (List.of_mem_zip hv).1,if_pos hk]
  simp
 |p::P,w::vs,i+1,m,nd,h1,h2,hk=>by
  show bindL Z8 ((p,w)::P.zip vs) m x=_
  unfold bindL
  exact oH (i:=i) (W5.mp nd).2 (by simpa using h1) (by simpa using h2) hk
theorem ow{Z8:Str->Option K8}{x:Str}{v:s0}:∀{P:List Str}{vs:List s0}{i:Nat}{m:Str->Option s0},P.Nodup->P[i]?=some x->vs[i]?=some v->Z8 x≠some .local ->
  bindC Z8 (P.zip vs) m x=some v
 |[],_,_,_,_,h,_,_=>by simp at h
 |_::_,[],_,_,_,_,h,_=>by simp at h
 |p::P,w::vs,0,m,nd,h1,h2,hk=>by
  simp at h1 h2;subst h1;subst h2
  show bindC Z8 ((p,w)::P.zip vs) m p=_
  unfold bindC
  rw[nV fun v hv=>(W5.mp nd).1 (List.of_mem_zip hv).1,if_neg hk]
  simp
 |p::P,w::vs,i+1,m,nd,h1,h2,hk=>by
  show bindC Z8 ((p,w)::P.zip vs) m x=_
  unfold bindC
  exact ow (i:=i) (W5.mp nd).2 (by simpa using h1) (by simpa using h2) hk
def cN(N:List Str) (vs:List V):St:=vs.map some++K2 (N.length-vs.length) none
def sj(CX:CXT) (P:L8) (w:P2) (K:o0) (mg:Str->Option s0) (base:L9) (N:List Str) (qual:Str) (scope:U9) (f:J9) (cd:s0) (A:O3) (outer:List Env) (s:I0) (H:Hp) (E:XK):Cx where
 prog:=P
 w:=w
 K:=K
 mg:=mg
 base:=base
 A:=A.deeper (ab8 qual scope s.heap.objs.size f cd)
 N:=N
 s₀:=s
 H₀:=H
 env:=ab8 qual scope s.heap.objs.size f cd
 outer:=outer
 stack:=ab8 qual scope s.heap.objs.size f cd::outer
 ex:=[]
 calm:=true
 fn:=fun _=>true
 pn:=[]
 xe:=fun e s'=>K5 (L3 P w) (A.deeper (ab8 qual scope s.heap.objs.size f cd)) (leaving (ab8 qual scope s.heap.objs.size f cd) e) (fun _ s''=>CX outer H s E e s'') (fun e' s''=>CX outer H s E e' s'') s'
theorem se{sc:U9}{n:Nat}{x:Str}(h:sc.names.lookup x=some .cell):∃c,(Q0 n sc.names []).lookup x=some c:=by
 have q:=O9 sc.names n [] (.inl h)
 exact P6.mp q
theorem wx{CX:CXT}{P:L8}{w:P2}{K:o0}{mg:Str->Option s0}{base:L9}{N ps:List Str}{qual:Str}{scope:U9}{f:J9}{cd:s0}{A:O3}{outer:List Env}{s s1:I0}{H:Hp}{E:XK}{us:List s0}{vs:List V}
  (S:az N ps scope) (hd:A.handled=none) (e0:ui P w K mg base A outer s H) (hl:vs.length=ps.length) (r:aA vs us)
  (x:InCallC s s.heap.objs.size (bindL (ab8 qual scope s.heap.objs.size f cd).kindOf (ps.zip us) fun _=>none) (Q0 (s.heap.objs.size+1) scope.names []) (bindC (ab8 qual scope s.heap.objs.size f cd).kindOf (ps.zip us) fun _=>none) s1) :
  Inv (sj CX P w K mg base N qual scope f cd A outer s H E) [] (cN N vs) H s1:=by
 have hpl:ps.length<=N.length:=by have:=congrArg aa3 S.pre;rw[List.length_take]at this;omega
 obtain⟨h1,tk,rfl,hk⟩:=x.done
 have noA:∀b:J9,b∉(sj CX P w K mg base N qual scope f cd A outer s H E).ex:=fun b z=>absurd (show b∈([]:List J9)from z) (by simp)
 refine⟨⟨e0.mod,S.kind,rfl,rfl,J4 _,fun y z c h1 h2=>?_,fun y hy=>?_,fun y c _ h=>?_,fun _=>hd,O3.frames_deeper e0.frames,.inr ⟨rfl,rfl⟩,fun b z=>absurd z (noA b),e0.bs,e0.bsz,fun b _ _=>noA b,fun b z=>absurd z (noA b),e0.funs,e0.frf⟩,
  rfl,e0.bare,Un.kept hk,⟨_,x.toInCall.ns,fun i y v h1 h2 h3=>?_⟩,fun y c h=>⟨_,x.cell y c h⟩,e0.hok.fresh (J4 _),fun y c h=>?_,fun p hp=>absurd (show p∈([]:List (J9×Obj))from hp) (by simp),e0.hok.kept hk,?_⟩
 ·exact name_of_addr x.apart (L4 h1) (L4 h2)
 ·have hy:scope.names.lookup y=some .cell∨scope.names.lookup y=some .free:=hy
  rcases hy with hy|hy
  ·exact se hy
  ·exact absurd rfl (S.nofree _ (L4 hy))
 ·exact Nat.le_of_lt (x.above y c (L4 h))
 ·have hi:i<vs.length:=by
   unfold cN at h2
   by_cases hi:i<vs.length
   ·exact hi
   ·rw[S1 (by simpa using hi)]at h2
    rw[U4]at h2
    split at h2<;>cases h2
  have ha:vs[i]?=some v:=by
   unfold cN at h2
   rw[N6 (by simpa using hi),O7]at h2
   cases e:vs[i]? with
   |none=>rw[e]at h2;cases h2
   |some a=>rw[e]at h2;cases h2;rfl
  obtain⟨u,hu,rv⟩:=r.get ha
  have hp:ps[i]?=some y:=by
   rw[<-S.pre,List.getElem?_take_of_lt (by omega)];exact h1
  have ndP:ps.Nodup:=by rw[<-S.pre];exact S.nd.sublist (List.take_sublist _ _)
  refine⟨u,rv,?_⟩
  rcases S.par y (List.mem_of_getElem? hp)with k|k
  ·exact .inl ⟨k,oH ndP hp hu k⟩
  ·obtain⟨c,e⟩:=se (n:=s.heap.objs.size+1) k
   refine .inr ⟨.inl k,c,e,?_⟩
   have q:=x.cell y c e
   rw[ow ndP hp hu (by show scope.names.lookup y≠_;rw[k];decide)]at q
   exact q
 ·exact e0.hok.fresh (Nat.le_of_lt (x.above y c (L4 h)))
 ·unfold cN
  show _=N.length
  rw[N4,V2,List.length_replicate]
  omega
theorem FO{CX:CXT}{P:L8}{w:P2}{K:o0}{mg:Str->Option s0}{base:L9}{k:Nat}{f:J9}{name qual:Str}{params:Arguments}{body:List Z7}{scope:U9}{dV kV doc pm cdv ct oc:s0}{an od:Option J9}
  {osl:Array (Option s0)} {N ps:List Str} {sp:Sp} (lk:K.lookup f=some ⟨oc,od,.func (X5 name qual params body scope dV kV doc pm an cdv ct),osl⟩) (hcd:PySem.W.codeIn K cdv qual=true) (S:az N ps scope)
  (len:∀vs H Q E,sp vs H Q E->vs.length=ps.length)
  (hbody:∀ (A:O3) (outer:List Env) (s:I0) (H:Hp) (vs:List V) (Q:VK) (E:XK),cA k (A.deeper (ab8 qual scope s.heap.objs.size f cdv)) → sp vs H Q E →
   ∃t,PSs (sj CX P w K mg base N qual scope f cdv A outer s H E) body t/\t { nx:=fun _ H'=>Q .non H',rt:=Q } (cN N vs) H) :
  ba P w K mg base CX (k+1) f (X5 name qual params body scope dV kV doc pm an cdv ct) ps sp:=by
 refine⟨len,fun A outer s H args us vs Q E hr e0 hb r hsp=>?_⟩
 have hl:=len _ _ _ _ hsp
 have KX:K.In s.heap:=e0.mod.kin.keeps fun b o e=>(e0.bs b o e).1
 have lim:s.heap.NoLimit:=e0.mod.nolimit.keeps fun b o e=>(e0.bs b o e).1
 have hkind:∀y∈ps.zip us,scope.names.lookup y.1=some .local∨(scope.names.lookup y.1=some .cell/\((Q0 (s.heap.objs.size+1) scope.names []).lookup y.1).isSome=true):=fun⟨n,v⟩ hy=>by
  rcases S.par n (List.of_mem_zip hy).1 with q|q
  ·exact .inl q
  ·exact .inr ⟨q,O9 _ _ _ (.inl q)⟩
 refine codeAny_call_function hr.depth (KX _ _ lk) rfl S.co S.gen rfl (PySem.W.codeRec_of KX hcd) (hb _ _ _ _ ?_)
 refine wpAny_newFunctionEnv_cells S.kind hkind fun env he s1 x=>?_
 subst he
 refine⟨lim.keeps x.toInCall.keep,codeAny_func ?_⟩
 obtain⟨t,ht,hq⟩:=hbody A outer s H vs Q E (hr.deeper _) hsp
 have I:Inv (sj CX P w K mg base N qual scope f cdv A outer s H E) [] (cN N vs) H s1:=wx S hr.hd e0 hl r x
 refine S5 (ht [] s1 (cN N vs) H _ I hq) (fun fl s' hs=>?_) fun e s' hs=>hs
 have fin:∀{σ':St} {H':Hp} {v:V} {u:s0},Inv (sj CX P w K mg base N qual scope f cdv A outer s H E) [] σ' H' s'->aD v u->Q v H'->CE outer P w H s Q u s' :=
  fun {σ' H' v u} J rv q=>⟨v,H',J.os,J.bare,J.base,J.hok,rv,q⟩
 cases fl with
 |ret u =>
  obtain⟨v,σ',H',J,rv,q⟩:=hs
  exact fin J rv q
 |next =>
  obtain⟨σ',H',J,q⟩:=hs
  exact fin (v:=V.non) (u:=W8) J rfl q
 |brk =>
  obtain⟨_,_,_,q⟩:=hs
  exact Q5 q
 |cont =>
  obtain⟨_,_,_,q⟩:=hs
  exact Q5 q
section
variable{X:Cx}{x:Str}{p pos:Pos}{e:K4}{es:List K4}{t:TA}{id T:String}{r:List V->Hp->VK->Prop}
def tCB(r:List V->Hp->VK->Prop) (t:TA):TE:=fun σ H Q=>t σ H fun vs H1=>r vs H1 Q
theorem rE(hc:cM X (.builtin id) r) (hg:Gl X x) (hm:X.mg x=none) (hv:P3 x=some (.builtin id)) (ha:PA X (e::es) t) (hn:x≠"__name__":=by decide) (hdb:(x==("__debug__":Str))=false:=by decide)
  (he:J5 (e::es) X.env=(false,T7 e X.env)::J5 es X.env:=by rfl) (hpl:(T3 pos (J5 es X.env)).any (·.1)=false:=by rfl):PE X (.Call (.Name x p) (e::es) [] pos) (tCB r t):=by
 intro ae s σ H Q I h
 refine W4 (gR I hg hm hv ?_ hn hdb)
 exact PyProof.Rows.callWith_builtin1 (thn (ha pos ae s σ H _ I h) fun us s1 ⟨vs,H1,I1,r1,q1⟩=>hc ae s1 σ H1 vs us Q I1 r1 q1) he hpl
theorem wq(hc:cM X (.type T) r) (hg:Gl X x) (hm:X.mg x=none) (hv:P3 x=some (.type T)) (ha:PA X (e::es) t) (hn:x≠"__name__":=by decide) (hdb:(x==("__debug__":Str))=false:=by decide)
  (he:J5 (e::es) X.env=(false,T7 e X.env)::J5 es X.env:=by rfl) (hpl:(T3 pos (J5 es X.env)).any (·.1)=false:=by rfl):PE X (.Call (.Name x p) (e::es) [] pos) (tCB r t):=by
 intro ae s σ H Q I h
 refine W4 (gR I hg hm hv ?_ hn hdb)
 exact R5 (thn (ha pos ae s σ H _ I h) fun us s1 ⟨vs,H1,I1,r1,q1⟩=>hc ae s1 σ H1 vs us Q I1 r1 q1) he hpl
end
end L2
namespace HT
open PySem PyProof.Rows
section
open PySem.SeqAt
open PySem.AutoSeq1 (wpAny_loadPart')
open PySem.MeetsSeq PySem.MeetsSeq2 PySem.MeetsSeq3
end
section
variable{prog:L8}{w:P2}{A:O3}{E:s0->I0->Prop}{s:I0}
theorem cat_tup{t b:J9}{vs ws:List s0}{Q:s0->I0->Prop}(ht:ad2 s.heap t vs.toArray) (hb:ad2 s.heap b ws.toArray) (hv:vs≠[])
  (h1:ws=[]->Q (.ref t) s) (h2:ws≠[]->Q (.ref s.heap.objs.size) { s with heap:=s.heap.push { cls:=.type "tuple",data:=.seq (vs++ws).toArray } })
  (hsz:vs.length+ws.length<=J0):K5 (L3 prog w) A (P9 .Add (.ref t) (.ref b)) Q E s:=by
 obtain⟨⟨cls,dd,data,sl⟩,ho,hc,n,hd⟩:=id ht
 obtain⟨⟨cls2,dd2,data2,sl2⟩,ho2,hc2,n2,hd2⟩:=id hb
 simp only at hc hd hc2 hd2
 subst hc hd hc2 hd2
 have e:vs.toArray++ws.toArray=(vs++ws).toArray:=by simp
 by_cases hw:ws=[]
 ·exact concat_meets ⟨_,ho,rfl⟩ ⟨_,ho2,rfl⟩ noFill_tuple_add seq_tuple_add PySem.F.slot_tuple_add PySem.F.entry_tuple_add (PySem.F.args_tuple_add_2 _ _)
   (tuple_addW1 t b vs.toArray ws.toArray n n2 dd dd2 sl sl2 (by simpa using hv) (by simp[hw])) ⟨ho,ho2,h1 hw⟩
 ·refine concat_meets ⟨_,ho,rfl⟩ ⟨_,ho2,rfl⟩ noFill_tuple_add seq_tuple_add PySem.F.slot_tuple_add PySem.F.entry_tuple_add (PySem.F.args_tuple_add_2 _ _)
   (tuple_addW2 t b vs.toArray ws.toArray n n2 dd dd2 sl sl2 (by simpa using hv) (by simpa using hw) (by rw[J1,J1];exact hsz)) ⟨ho,ho2,?_⟩
  rw[e]
  exact h2 hw
/-! ### t[a:b],not the whole -/
def sIx(n d:Nat):Option Int->Nat
 |none=>d
 |some v=>if v<0 then(v+(n:Int)).toNat else min v.toNat n
theorem sIx_none(n d:Nat):sIx n d none=d:=rfl
theorem sIx_nat(n d k:Nat):sIx n d (some (k:Int))=min k n:=by
 show(if(k:Int)<0 then((k:Int)+(n:Int)).toNat else min (k:Int).toNat n)=min k n
 rw[if_neg (by omega),Int.toNat_natCast]
theorem Dl(n d:Nat) (hd:d<=n) (o:Option Int):sIx n d o<=n:=by
 cases o with
 |none=>exact hd
 |some v =>
  show(if v<0 then(v+(n:Int)).toNat else min v.toNat n)<=n
  by_cases hv:v<0
  ·rw[if_pos hv];omega
  ·rw[if_neg hv];exact Nat.min_le_right _ _
theorem ut(v:Int) (n d:Nat):(if v<0 then max (v+(n:Int)) 0 else min v (n:Int))=((sIx n d (some v):Nat):Int):=by
 show(if v<0 then max (v+(n:Int)) 0 else min v (n:Int))=(((if v<0 then(v+(n:Int)).toNat else min v.toNat n):Nat):Int)
 by_cases hv:v<0
 ·simp only[if_pos hv];omega
 ·simp only[if_neg hv];omega
theorem tL(lo hi:Option Int) (n:Nat):K3.Slice.sliceAdjust lo hi 1 (n:Int)=(((sIx n 0 lo:Nat):Int),((sIx n n hi:Nat):Int)):=by
 have h1:¬ ((1:Int)<0):=by omega
 unfold K3.Slice.sliceAdjust
 simp only[h1,if_false]
 refine Prod.ext ?_ ?_
 ·cases lo with
  |none=>rfl
  |some v=>exact ut v n 0
 ·cases hi with
  |none=>rfl
  |some v=>exact ut v n n
theorem ua(i j:Nat):O1 (i:Int) (j:Int) 1=j-i:=by
 unfold O1
 have h1:(1:Int) > 0:=by omega
 simp only[h1,if_true,Int.ediv_one]
 split<;>omega
theorem lV{v:s0}{o:Option Int}{Q:Option Int->I0->Prop}(p:ac4 v o) (h:Q o s):K5 (L3 prog w) A (K3.Slice.slicePartIndex v) Q E s:=by
 cases p with
 |none=>exact Z5 h
 |int i t=>exact slicePart_int h
theorem fD{sl:J9}{vl vu:s0}{lo hi:Option Int}{n:Nat}{Q:Int×Int×Nat->I0->Prop}(hs:s.heap.IsSliceOf sl vl vu .none) (pl:ac4 vl lo) (pu:ac4 vu hi)
  (h:Q (((sIx n 0 lo:Nat):Int),1,sIx n n hi-sIx n 0 lo) s):K5 (L3 prog w) A (S2 (.ref sl) (W0 (n:Int))) Q E s:=by
 obtain⟨os,hos,hcs,hds⟩:=id hs
 unfold S2 K3.Slice.sliceFields
 refine t3 (t3 (U5 hos hds (x:=vl) rfl (t3 (U5 hos hds (x:=vu) rfl (t3 (U5 hos hds (x:=.none) rfl (J3 ?_)))))))
 refine t3 (Z5 ?_)
 show K5 _ _ (if((1:Int)==0)=true then _ else _) _ _ s
 rw[if_neg (by decide)]
 refine t3 (lV pl (t3 (lV pu (t3 (J3 ?_)))))
 show K5 _ _ (match K3.Slice.sliceAdjust lo hi 1 (n:Int)with|(lo,hi)=>W0 (lo,(1:Int),O1 lo hi 1)) _ _ s
 rw[tL lo hi n]
 show K5 _ _ (W0 (((sIx n 0 lo:Nat):Int),(1:Int),O1 ((sIx n 0 lo:Nat):Int) ((sIx n n hi:Nat):Int) 1)) _ _ s
 rw[ua]
 exact J3 h
theorem zU(xs:Array s0) (i k:Nat):((V7 k).filterMap fun(m:Nat)=>xs[((i:Int)+(m:Int)*1).toNat]?).toArray=((xs.toList.drop i).take k).toArray:=by
 have e:(fun(m:Nat)=>xs[((i:Int)+(m:Int)*1).toNat]?)=fun m=>xs[i+m]?:=by
  funext m
  have:((i:Int)+(m:Int)*1).toNat=i+m:=by omega
  rw[this]
 rw[e]
 have:=pick_run xs i k
 rw[List.filterMap_map]at this
 have e2:((fun x=>xs[x]?)∘fun x=>i+x)=fun m=>xs[i+m]?:=rfl
 rw[e2]at this
 rw[this]
theorem getItem_tuple_cut{t sl:J9}{items:Array s0}{vl vu:s0}{lo hi:Option Int}{Q:s0->I0->Prop}(ht:ad2 s.heap t items) (hs:s.heap.IsSliceOf sl vl vu .none) (pl:ac4 vl lo) (pu:ac4 vu hi)
  (hw:¬ (sIx items.size 0 lo=0/\sIx items.size items.size hi=items.size))
  (h:Q (.ref s.heap.objs.size) { s with heap:=s.heap.push { cls:=.type "tuple",data:=.seq ((items.toList.drop (sIx items.size 0 lo)).take (sIx items.size items.size hi-sIx items.size 0 lo)).toArray } })
  (hsz:items.size<=J0):K5 (L3 prog w) A (Y8 (.ref t) (.ref sl)) Q E s:=by
 have htake:sizeOk (.seq ((items.toList.drop (sIx items.size 0 lo)).take (sIx items.size items.size hi-sIx items.size 0 lo)).toArray):=by
  show((items.toList.drop (sIx items.size 0 lo)).take (sIx items.size items.size hi-sIx items.size 0 lo)).toArray.size<=J0
  rw[J1,List.length_take,List.length_drop,T9]
  omega
 have hj:sIx items.size items.size hi<=items.size:=Dl _ _ (J4 _) hi
 obtain⟨os,hos,hcs,hds⟩:=id hs
 have hTs:s.TypeIs (.ref sl) "slice":=⟨os,hos,hcs⟩
 unfold Y8
 try with_reducible refine W1 ?_
 first|refine t3 (J3 ?_)|skip
 refine t3 (wpAny_sequenceKey ht.typeIs (by decide) ?_)
 refine t3 (Q9 (name:=X6 "__getitem__") ht.typeIs K6
  (V6 K6 ht.typeIs entry_tuple_getitem ?_ (args_tuple_getitem _ _)))
 show K5 _ _ (S3 (.ref t) >>= _) _ _ s
 refine t3 (aa4 ht ?_)
 refine t3 (ab2 hTs ?_)
 rw[if_pos (by decide)]
 refine t3 (fD hs pl pu ?_)
 have hno:¬ ((((sIx items.size 0 lo:Nat):Int)==0&&(1:Int)==1&&(sIx items.size items.size hi-sIx items.size 0 lo)==items.size)=true):=by
  intro q
  rw[L6,L6]at q
  have q1:((sIx items.size 0 lo:Nat):Int)=0:=eq_of_beq q.1.1
  have q2:sIx items.size items.size hi-sIx items.size 0 lo=items.size:=eq_of_beq q.2
  exact hw ⟨by omega,by omega⟩
 show K5 _ _ (if(((sIx items.size 0 lo:Nat):Int)==0&&(1:Int)==1&&(sIx items.size items.size hi-sIx items.size 0 lo)==items.size)=true then _ else _) _ _ s
 rw[if_neg hno,zU]
 first
  |exact t3 (m:=L1 _) (N3 (J3 ⟨_,rfl,J3 h⟩) htake)
  |exact t3 (m:=L1 _) (N3 (t3 (J3 (J3 ⟨_,rfl,J3 h⟩))) htake)
  |exact t3 (t3 (m:=L1 _) (N3 (J3 (J3 ⟨_,rfl,J3 h⟩)) htake))
  |exact t3 (t3 (m:=L1 _) (N3 (J3 ⟨_,rfl,J3 h⟩) htake))
end
end HT
namespace L2
open PySem PySem.Spec PyProof.Rows
/-! ### the parts of a slice -/
abbrev TO:=St->Hp->(Option Int->Hp->Prop)->Prop
def PO(X:Cx) (e:Option K4) (t:TO):Prop :=
 ∀(ae:List (J9×Obj)) (s:I0) (σ:St) (H:Hp) (Q:Option Int->Hp->Prop),Inv X ae σ H s->t σ H Q ->
  K5 (L3 X.prog X.w) X.A (evalPart e X.env) (fun u s'=>∃o H',Inv X ae σ H' s'/\ac4 u o/\Q o H') X.xe s
def BA:TO:=fun _ H Q=>Q none H
def Hi(t:TE):TO:=fun σ H Q=>t σ H fun x H1=>∃i,x=.int i/\Q (some i) H1
section
variable{X:Cx}{e:K4}{te:TE}{lo hi:Option K4}{tl th:TO}{pos p2:Pos}
theorem Aw:PO X none BA:=by
 intro ae s σ H Q I h
 rw[evalPart_none]
 exact J3 ⟨none,H,I,.none,h⟩
theorem AO(h:PE X e te):PO X (some e) (Hi te):=by
 intro ae s σ H Q I hw
 rw[evalPart_some]
 refine thn (h ae s σ H _ I hw) fun u s1 ⟨x,H1,I1,r1,q1⟩=>?_
 obtain⟨i,rfl,q⟩:=q1
 obtain⟨t,rfl⟩:=r1
 exact⟨some i,H1,I1,.int i t,q⟩
def SlR(X:Cx) (r:V->Option Int->Option Int->Hp->VK->Prop):Prop :=
 ∀(ae:List (J9×Obj)) (s:I0) (σ:St) (H:Hp) (x:V) (v vl vu:s0) (lo hi:Option Int) (sl:J9) (Q:VK),Inv X ae σ H s->aD x v->s.heap.IsSliceOf sl vl vu .none->ac4 vl lo->ac4 vu hi->r x lo hi H Q ->
  ∃T id,typeLookup (.type T) "__getitem__"=W0 (some (.builtin id))/\s.TypeIs v T/\K5 (L3 X.prog X.w) X.A (Y8 v (.ref sl)) (EP X ae σ Q) X.xe s
theorem SlR.or{r r':V->Option Int->Option Int->Hp->VK->Prop}(h:SlR X r) (h':SlR X r'):SlR X (fun x lo hi H Q=>r x lo hi H Q∨r' x lo hi H Q):=by
 intro ae s σ H x v vl vu lo hi sl Q I rx hs pl pu q
 rcases q with q|q
 ·exact h ae s σ H x v vl vu lo hi sl Q I rx hs pl pu q
 ·exact h' ae s σ H x v vl vu lo hi sl Q I rx hs pl pu q
def tSl(r:V->Option Int->Option Int->Hp->VK->Prop) (te:TE) (tl th:TO):TE:=fun σ H Q=>te σ H fun x H1=>tl σ H1 fun l H2=>th σ H2 fun u H3=>r x l u H3 Q
theorem rQ{r:V->Option Int->Option Int->Hp->VK->Prop}(hr:SlR X r) (he:PE X e te) (hl:PO X lo tl) (hu:PO X hi th):PE X (.Subscript e (.Slice lo hi none p2) pos) (tSl r te tl th):=by
 intro ae s σ H Q I h
 refine ac6 (thn (he ae s σ H _ I h) fun v s1 ⟨x,H1,I1,r1,q1⟩=>?_)
 refine wpAny_Slice (thn (hl ae s1 σ H1 _ I1 q1) fun vl s2 ⟨l,H2,I2,pl,q2⟩=>thn (hu ae s2 σ H2 _ I2 q2) fun vu s3 ⟨u,H3,I3,pu,q3⟩=>?_)
 rw[evalPart_none]
 refine J3 ?_
 have I4:Inv X ae σ H3 { s3 with heap:=s3.heap.push { cls:=.type "slice",data:=.fields #[vl,vu,.none] } }:=I3.kept (t':=s3.toks) fun b ob q=>u8 _ q
 obtain⟨T,id,hT,ht,hg⟩:=hr ae { s3 with heap:=s3.heap.push { cls:=.type "slice",data:=.fields #[vl,vu,.none] } } σ H3 x v vl vu l u s3.heap.objs.size Q I4 r1 (L9.IsSliceOf.new ..) pl pu q3
 show K5 (L3 X.prog X.w) X.A (subscriptTail e (.Slice lo hi none p2) v (.ref s3.heap.objs.size)) (EP X ae σ Q) X.xe { s3 with heap:=s3.heap.push { cls:=.type "slice",data:=.fields #[vl,vu,.none] } }
 exact tail_any (ops:=[.ref s3.heap.objs.size,v]) ht hT hg (by with_unfolding_all rfl)
def nF(xs:List V) (lo hi:Option Int):List V:=(xs.drop (HT.sIx xs.length 0 lo)).take (HT.sIx xs.length xs.length hi-HT.sIx xs.length 0 lo)
theorem kI(xs:List V) (lo hi:Option Int):(nF xs lo hi).length<=xs.length:=by
 unfold nF
 rw[List.length_take,List.length_drop]
 omega
def Iw(K:o0):V->Option Int->Option Int->Hp->VK->Prop:=fun x lo hi H Q=>∃a xs,x=.ref a/\SqT K H a xs /\
 ¬ (HT.sIx xs.length 0 lo=0/\HT.sIx xs.length xs.length hi=xs.length)/\∀p,H p=none->Q (.ref p) (upd H p (.tup (nF xs lo hi)))
theorem yj:SlR X (Iw X.K):=by
 intro ae s σ H x v vl vu lo hi sl Q I rx hs pl pu h
 obtain⟨a,xs,rfl,hx,hw,q⟩:=h
 cases rx
 obtain⟨its,r,ht,hz⟩:=I.tuple hx
 have bj:its.toArray.size=xs.length:=by rw[J1];exact r.length.symm
 refine⟨"tuple",_,K6.lookup,ht.typeIs,?_⟩
 refine HT.getItem_tuple_cut ht hs pl pu (by rw[bj];exact hw) ?_ (by rw[bj];exact hz)
 rw[bj]
 refine⟨.ref s.heap.objs.size,_,I.laid (t':=s.toks) (o:=.tup (nF xs lo hi)) (fun b ob q=>u8 _ q) (J4 _) ?_,rfl,q _ (I.hok.fresh (J4 _))⟩
 exact⟨M9 (kI xs lo hi) hz,_,(r.drop (HT.sIx xs.length 0 lo)).take (HT.sIx xs.length xs.length hi-HT.sIx xs.length 0 lo),iR.new _ _⟩
/-! ### t<u,t+u -/
def Ho(K:o0):R2:=fun x y H Q=>∃a b xs ys,x=.ref a/\y=.ref b/\SqT K H a xs/\SqT K H b ys/\xs≠[]/\xs.length+ys.length<=J0 /\
 (ys=[]->Q (.ref a) H)/\(ys≠[]->∀p,H p=none->Q (.ref p) (upd H p (.tup (xs++ys))))
theorem aA.nil_iff{xs:List V}{us:List s0}(r:aA xs us):us=[]↔xs=[]:=by
 cases r with
 |nil=>simp
 |cons _ _=>simp
theorem Ak:OpR X (P9 .Add) (Ho X.K):=by
 intro ae s σ H x y v u Q I rx ry h
 obtain⟨a,b,xs,ys,rfl,rfl,ha,hb,hx,hz,q1,q2⟩:=h
 cases rx
 cases ry
 obtain⟨its,r1,p1,_⟩:=I.tuple ha
 obtain⟨its2,r2,p2,_⟩:=I.tuple hb
 refine HT.cat_tup p1 p2 (fun z=>hx (r1.nil_iff.mp z)) (fun z=>⟨.ref a,H,I,rfl,q1 (r2.nil_iff.mp z)⟩) (fun z=>?_) (by rw[<-r1.length,<-r2.length];exact hz)
 refine⟨.ref s.heap.objs.size,_,I.laid (t':=s.toks) (o:=.tup (xs++ys)) (fun b ob q=>u8 _ q) (J4 _) ?_,rfl,q2 (fun w=>z (r2.nil_iff.mpr w)) _ (I.hok.fresh (J4 _))⟩
 exact⟨by rw[N4];exact hz,_,r1.append r2,iR.new _ _⟩
end
/-! ### places -/
def ixN(n:Nat) (i:Int):Option Nat:=if 0<=i then(if i<n then some i.toNat else none)else if -(n:Int)<=i then some (i+n).toNat else none
def atI{α:Type}(xs:List α) (i:Int):Option α:=(ixN xs.length i).bind fun j=>xs[j]?
theorem uL{n:Nat}{i:Int}{j:Nat}(h:ixN n i=some j):seqIndex? i n=some j/\j<n/\-(n:Int)<=i/\i<n:=by
 unfold ixN at h
 by_cases h0:0<=i
 ·rw[if_pos h0]at h
  by_cases h1:i<n
  ·rw[if_pos h1]at h
   have e:i.toNat=j:=K9 h
   exact⟨by rw[seqIndex_of h0 h1,e],by omega,by omega,h1⟩
  ·rw[if_neg h1]at h;cases h
 ·rw[if_neg h0]at h
  by_cases h1:-(n:Int)<=i
  ·rw[if_pos h1]at h
   have e:(i+n).toNat=j:=K9 h
   exact⟨by rw[seqIndex_neg (by omega) h1,e],by omega,h1,by omega⟩
  ·rw[if_neg h1]at h;cases h
theorem qi{α:Type}{xs:List α}{i:Int}{v:α}(h:atI xs i=some v):∃j,seqIndex? i xs.length=some j/\xs[j]?=some v/\j<xs.length/\-(xs.length:Int)<=i/\i<xs.length:=by
 unfold atI at h
 cases e:ixN xs.length i with
 |none=>rw[e]at h;cases h
 |some j =>
  rw[e]at h
  obtain⟨h1,h2,h3,h4⟩:=uL e
  exact⟨j,h1,h,h2,h3,h4⟩
theorem bN{α:Type}{xs:List α}{j:Nat}{v:α}(h:xs[j]?=some v):atI xs (j:Int)=some v:=by
 have hj:j<xs.length:=(N0.mp h).1
 have e:ixN xs.length (j:Int)=some j:=by
  unfold ixN
  rw[if_pos (by omega),if_pos (by omega)];simp
 unfold atI;rw[e];exact h
/-! ### what may be aa5 -/
def pd(b:K4):Prop:=∀o i,aa5 b false o i=operate [o,i] (Y8 o i)
def IxR(X:Cx) (r:R2):Prop :=
 ∀(value slice:K4) (ae:List (J9×Obj)) (s:I0) (σ:St) (H:Hp) (x y:V) (v u:s0) (Q:VK),Inv X ae σ H s->aD x v->aD y u->r x y H Q ->
  aa5 slice false v u=operate [v,u] (Y8 v u)->K5 (L3 X.prog X.w) X.A (subscriptTail value slice v u) (EP X ae σ Q) X.xe s
def MtR(X:Cx) (id:String) (r:V->List V->Hp->VK->Prop):Prop :=
 ∀(ae:List (J9×Obj)) (s:I0) (σ:St) (H:Hp) (x:V) (xs:List V) (v:s0) (us:List s0) (Q:VK),Inv X ae σ H s->aD x v->aA xs us->r x xs H Q ->
  K5 (L3 X.prog X.w) X.A (call (.builtin id) (v::us)) (EP X ae σ Q) X.xe s
section
variable{X:Cx}{a b:K4}{ta tb:TE}{pos:Pos}
theorem GX{r:R2}(hr:IxR X r) (ha:PE X a ta) (hb:PE X b tb) (hs:pd b):PE X (.Subscript a b pos) (tOp r ta tb):=by
 intro ae s σ H Q I h
 exact ac6 (D4 ha hb I h fun v u s2 x y H2 I2 rx ry q=>hr a b ae s2 σ H2 x y v u Q I2 rx ry q (hs _ _))
def HN(K:o0):R2:=fun x y H Q=>∃p xs i v,x=.ref p/\y=.int i/\SqL K H p xs/\atI xs i=some v/\Q v H
def Iu(K:o0):R2:=fun x y H Q=>∃p xs i v,x=.ref p/\y=.int i/\SqT K H p xs/\atI xs i=some v/\Q v H
def IB:R2:=fun x y H Q=>∃z i c,x=.str z/\y=.int i/\z.length<=J0/\atI z.cps.toList i=some c/\Q (.str ⟨#[c]⟩) H
theorem uW:IxR X (HN X.K):=by
 intro value slice ae s σ H x y v u Q I rx ry h hs
 obtain⟨p,xs,i,z,rfl,rfl,hq,he,q⟩:=h
 cases rx
 obtain⟨t,rfl⟩:=ry
 obtain⟨its,r,pl,hz⟩:=I.list hq
 obtain⟨j,h1,h2,h3,h4,h5⟩:=qi he
 obtain⟨w,ew,rw'⟩:=r.get h2
 have hl:=r.length
 have hn:=j8
 have fin:EP X ae σ Q w s:=⟨z,H,I,rw',q⟩
 by_cases h0:0<=i
 ·have hj:i.toNat=j:=by
   rw[seqIndex_of h0 h5]at h1
   exact K9 h1
  exact item_listR pl.isList h0 (by omega) (by rw[hj];simpa using ew) fin hs
 ·have hj:(i+(its.toArray.size:Int)).toNat=j:=by
   rw[seqIndex_neg (by omega) h4]at h1
   rw[J1,<-hl]
   exact K9 h1
  exact subscriptTail_builtinR (x:=w) pl.isList.typeIs slot_list_getitem.lookup
   (wpAny_getItem_list_neg (Q:=fun r s'=>r=w/\EP X ae σ Q r s') pl.isList (by omega) (by rw[J1]<;>omega) (by omega) (by rw[hj];simpa using ew) ⟨rfl,fin⟩) hs
theorem DR:IxR X (Iu X.K):=by
 intro value slice ae s σ H x y v u Q I rx ry h hs
 obtain⟨p,xs,i,z,rfl,rfl,hq,he,q⟩:=h
 cases rx
 obtain⟨t,rfl⟩:=ry
 obtain⟨its,r,pl,hz⟩:=I.tuple hq
 obtain⟨j,h1,h2,h3,h4,h5⟩:=qi he
 obtain⟨w,ew,rw'⟩:=r.get h2
 have hl:=r.length
 have hn:=j8
 have fin:EP X ae σ Q w s:=⟨z,H,I,rw',q⟩
 exact subscriptTail_builtinR (x:=w) pl.typeIs slot_tuple_getitem.lookup
  (getItem_tuple (j:=j) (Q:=fun r s'=>r=w/\EP X ae σ Q r s') pl (by omega) (by omega) (by rw[J1,<-hl];exact h1) (by simpa using ew) ⟨rfl,fin⟩) hs
theorem C7:IxR X IB:=by
 intro value slice ae s σ H x y v u Q I rx ry h hs
 obtain⟨z,i,c,rfl,rfl,hz,he,q⟩:=h
 obtain⟨t,rfl⟩:=rx
 obtain⟨t',rfl⟩:=ry
 obtain⟨j,h1,h2,h3,h4,h5⟩:=qi he
 have hl:z.cps.toList.length=z.length:=by simp[Str.length]
 rw[hl]at h1 h4 h5
 have hn:=j8
 exact tail_any (typeIs_str s z t) slot_str_getitem.lookup (getItem_str (c:=c) (by
  have e1:decide (i < -(2 ^ 63:Int))=false:=decide_eq_false (by omega)
  have e2:decide (i>=2 ^ 63)=false:=decide_eq_false (by omega)
  rw[e1,e2,Bool.or_false]) (by rw[h1];simpa using h2) ⟨.str ⟨#[c]⟩,H,I.tok _,⟨_,rfl⟩,q⟩) hs
/-! ### xs[i]=v,any sign -/
theorem sF(its:List s0) (n j:Nat) (u:s0):ab6 (·.setIfInBounds j u) { cls:=.type "list",data:=.seq its.toArray n }={ cls:=.type "list",data:=.seq (its.set j u).toArray n }:=by
 simp[ab6]
theorem Inv.lst{ae:List (J9×Obj)}{σ:St}{H:Hp}{s:I0}{p:J9}{xs:List V}(I:Inv X ae σ H s) (h:H p=some (.lst xs)) :
  ∃(its:List s0) (n:Nat),aA xs its/\s.heap.get? p=some { cls:=.type "list",data:=.seq its.toArray n }/\xs.length<=J0:=by
 obtain⟨z,its,n,r,e⟩:=I.hok p _ h
 exact⟨its,n,r,e,z⟩
theorem Inv.lstUpd{ae:List (J9×Obj)}{σ:St}{H:Hp}{s:I0}{p:J9}{xs ys:List V}{its its':List s0}{n n':Nat}{f:Obj->Obj}(I:Inv X ae σ H s) (h:H p=some (.lst xs))
  (ho:s.heap.get? p=some { cls:=.type "list",data:=.seq its.toArray n }) (hf:f { cls:=.type "list",data:=.seq its.toArray n }={ cls:=.type "list",data:=.seq its'.toArray n' }) (r:aA ys its') (hz:ys.length<=J0) (t:Nat) :
  Inv X ae σ (upd H p (.lst ys)) { s with heap:=s.heap.update p f,toks:=t }:=by
 have e:(s.heap.update p f).get? p=some { cls:=.type "list",data:=.seq its'.toArray n' }:=by
  rw[L9.get?_update_self f ho (by rw[hf]<;>rfl),hf]
 refine I.write (x:=p) (e:=p) (by rw[h];trivial) (.inl rfl) (fun b u hb q=>(L9.get?_update_other _ _ (W9 hb)).trans q) ⟨_,e⟩ ?_
 exact⟨hz,its',n',r,e⟩
def FW:V->V->V->Hp->(Hp->Prop)->Prop:=fun o i v H Q=>∃p xs k j,o=.ref p/\i=.int k/\H p=some (.lst xs)/\ixN xs.length k=some j/\Q (upd H p (.lst (xs.set j v)))
theorem xt:Hv X FW:=by
 intro ae s σ H o i v ov iv u Q I ro ri rv h
 obtain⟨p,xs,k,j,rfl,rfl,hp,hj,q⟩:=h
 cases ro
 obtain⟨t,rfl⟩:=ri
 obtain⟨its,n,r,ho,hz⟩:=I.lst hp
 obtain⟨h1,h2,h3,h4⟩:=uL hj
 have hl:=r.length
 have hn:=j8
 have I':Inv X ae σ (upd H p (.lst (xs.set j v))) { s with heap:=s.heap.update p (ab6 (·.setIfInBounds j u)) } :=
  I.lstUpd hp ho (sF its n j u) (r.set rv j) (by rw[List.length_set];exact hz) s.toks
 by_cases h0:0<=k
 ·have hk:k.toNat=j:=by
   rw[seqIndex_of h0 h4]at h1
   exact K9 h1
  exact PySem.W.ki_setAt ho h0 (by omega) (by rw[J1,<-hl];exact h4) (by rw[hk];exact⟨_,I',q⟩)
 ·have hk:(k+(its.toArray.size:Int)).toNat=j:=by
   rw[seqIndex_neg (by omega) h3]at h1
   rw[J1,<-hl]
   exact K9 h1
  exact PySem.W.ki_setBack ho (by omega) (by rw[J1,<-hl];exact h3) (by omega) (by rw[hk];exact⟨_,I',q⟩)
/-! ### slices -/
theorem qb(lo hi:Option Int) (n:Nat):(X0 lo hi none n).1=((HT.sIx n 0 lo:Nat):Int)/\(X0 lo hi none n).2.1=((HT.sIx n n hi:Nat):Int)/\(X0 lo hi none n).2.2=1:=by
 refine⟨?_,?_,rfl⟩
 ·cases lo with
  |none=>simp[X0,HT.sIx]
  |some i =>
   simp only[X0,HT.sIx,Option.getD_none,show(1:Int) > 0 by decide,if_true]
   by_cases h:i<0
   ·simp only[h,if_true]<;>omega
   ·simp only[h,if_false]<;>omega
 ·cases hi with
  |none=>simp[X0,HT.sIx]
  |some i =>
   simp only[X0,HT.sIx,Option.getD_none,show(1:Int) > 0 by decide,if_true]
   by_cases h:i<0
   ·simp only[h,if_true]<;>omega
   ·simp only[h,if_false]<;>omega
theorem nH(its:List s0) (lo hi:Option Int):slicePick its.toArray lo hi none=((its.drop (HT.sIx its.length 0 lo)).take (HT.sIx its.length its.length hi-HT.sIx its.length 0 lo)).toArray:=by
 obtain⟨h1,h2,h3⟩:=qb lo hi its.toArray.size
 unfold slicePick
 rw[h1,h2,h3]
 simp only[sliceRange_one,pick_run,J1]<;>rfl
def HI(K:o0):V->Option Int->Option Int->Hp->VK->Prop:=fun x lo hi H Q=>∃a xs,x=.ref a/\SqL K H a xs/\∀p,H p=none->Q (.ref p) (upd H p (.lst (nF xs lo hi)))
theorem vt:SlR X (HI X.K):=by
 intro ae s σ H x v vl vu lo hi sl Q I rx hs pl pu h
 obtain⟨a,xs,rfl,hx,q⟩:=h
 cases rx
 obtain⟨its,r,ht,hz⟩:=I.list hx
 have bj:=r.length
 refine⟨"list",_,slot_list_getitem.lookup,ht.isList.typeIs,?_⟩
 refine wpAny_getItem_list_slice ht.isList hs pl pu .none (by simp) ?_ (by rw[J1]<;>omega)
 rw[nH,<-bj]
 refine⟨.ref s.heap.objs.size,_,I.laid (t':=s.toks) (o:=.lst (nF xs lo hi)) (fun b ob q=>u8 _ q) (J4 _) ?_,rfl,q _ (I.hok.fresh (J4 _))⟩
 exact⟨M9 (kI xs lo hi) hz,_,0,(r.drop (HT.sIx xs.length 0 lo)).take (HT.sIx xs.length xs.length hi-HT.sIx xs.length 0 lo),J6 _ rfl⟩
/-! ### in,not in: flat items -/
def gE:V->Bool
 |.non=>true
 |.bl _=>true
 |.int _=>true
 |.str _=>true
 |_=>false
def eqV:V->V->Bool
 |.non,.non=>true
 |.bl a,.bl b=>a==b
 |.bl a,.int b=>(if a then 1 else 0)==b
 |.int a,.bl b=>a==(if b then 1 else 0)
 |.int a,.int b=>a==b
 |.str a,.str b=>a==b
 |_,_=>false
theorem D2{A:O3}{s:I0}{y x:V}{u v:s0}(ry:aD y u) (rx:aD x v) (fy:gE y=true) (fx:gE x=true):O6 A s u v (eqV y x):=by
 cases y with
 |non =>
  cases ry
  cases x with
  |non=>cases rx;exact O6.same _
  |bl b=>cases rx;exact O6.none_bool b
  |int b=>obtain⟨t,rfl⟩:=rx;exact O6.none_int b t
  |str b=>obtain⟨t,rfl⟩:=rx;exact O6.none_str b t
  |_=>exact absurd (show false=true from fx) N1
 |bl a =>
  cases ry
  cases x with
  |non=>cases rx;exact O6.bool_none a
  |bl b=>cases rx;exact O6.bool_bool a b
  |int b=>obtain⟨t,rfl⟩:=rx;exact O6.bool_int a b t
  |str b=>obtain⟨t,rfl⟩:=rx;exact O6.bool_str a b t
  |_=>exact absurd (show false=true from fx) N1
 |int a =>
  obtain⟨t',rfl⟩:=ry
  cases x with
  |non=>cases rx;exact O6.int_none a t'
  |bl b=>cases rx;exact O6.int_bool a t' b
  |int b=>obtain⟨t,rfl⟩:=rx;exact O6.int_int a t' b t
  |str b=>obtain⟨t,rfl⟩:=rx;exact O6.int_str a t' b t
  |_=>exact absurd (show false=true from fx) N1
 |str a =>
  obtain⟨t',rfl⟩:=ry
  cases x with
  |non=>cases rx;exact O6.str_none a t'
  |bl b=>cases rx;exact O6.str_bool a t' b
  |int b=>obtain⟨t,rfl⟩:=rx;exact O6.str_int a t' b t
  |str b=>obtain⟨t,rfl⟩:=rx;exact O6.str_str a t' b t
  |_=>exact absurd (show false=true from fx) N1
 |_=>exact absurd (show false=true from fy) N1
def eqU(x:V) (u:s0):Bool:=match u with
 |.none=>eqV .non x
 |.bool b=>eqV (.bl b) x
 |.int i _=>eqV (.int i) x
 |.str z _=>eqV (.str z) x
 |_=>false
theorem yy{x y:V}{u:s0}(r:aD y u) (f:gE y=true):eqU x u=eqV y x:=by
 cases y with
 |non=>cases r;rfl
 |bl b=>cases r;rfl
 |int i=>obtain⟨t,rfl⟩:=r;rfl
 |str z=>obtain⟨t,rfl⟩:=r;rfl
 |_=>exact absurd (show false=true from f) N1
theorem jG{x:V}:∀{xs:List V}{us:List s0},aA xs us->xs.all gE=true->us.any (eqU x)=xs.any fun y=>eqV y x
 |_,_,.nil,_=>rfl
 |y::xs,u::us,.cons r t,f=>by
  rw[W7,L6]at f
  rw[Q7,Q7,yy r f.1,jG t f.2]
theorem gF{A:O3}{s:I0}{x:V}{v:s0}(rx:aD x v) (fx:gE x=true):∀{xs:List V}{us:List s0},aA xs us->xs.all gE=true->∀u∈us,O6 A s u v (eqU x u)
 |_,_,.nil,_=>fun u hu=>by cases hu
 |y::xs,u::us,.cons r t,f=>fun u' hu=>by
  rw[W7,L6]at f
  rcases O4.mp hu with rfl|hu
  ·rw[yy r f.1];exact D2 r rx f.1 fx
  ·exact gF rx fx t f.2 u' hu
def inV(x:V) (xs:List V):Bool:=xs.any fun y=>eqV y x
def rIn(K:o0) (neg:Bool):R2:=fun x y H Q=>∃p xs,y=.ref p/\(SqL K H p xs∨SqT K H p xs)/\gE x=true/\xs.all gE=true/\Q (.bl (if neg then !inV x xs else inV x xs)) H
theorem xc:OpR X (L7 .In) (rIn X.K false):=by
 intro ae s σ H x y v u Q I rx ry h
 obtain⟨p,xs,rfl,hq,fx,fs,q⟩:=h
 cases ry
 rcases hq with hq|hq
 ·obtain⟨its,r,pl,hz⟩:=I.list hq
  refine SeqAt.in_listAt (eqU x) pl.isList (fun w hw=>gF rx fx r fs w (by simpa using hw)) ⟨.bl _,H,I,rfl,?_⟩
  rw[show its.toArray.any (eqU x)=its.any (eqU x)by simp,jG r fs]
  exact q
 ·obtain⟨its,r,pl,hz⟩:=I.tuple hq
  refine SeqAt.in_tupleAt (eqU x) pl (fun w hw=>gF rx fx r fs w (by simpa using hw)) ⟨.bl _,H,I,rfl,?_⟩
  rw[show its.toArray.any (eqU x)=its.any (eqU x)by simp,jG r fs]
  exact q
theorem pz:OpR X (L7 .NotIn) (rIn X.K true):=by
 intro ae s σ H x y v u Q I rx ry h
 obtain⟨p,xs,rfl,hq,fx,fs,q⟩:=h
 cases ry
 rcases hq with hq|hq
 ·obtain⟨its,r,pl,hz⟩:=I.list hq
  refine SeqAt.notIn_listAt (eqU x) pl.isList (fun w hw=>gF rx fx r fs w (by simpa using hw)) ⟨.bl _,H,I,rfl,?_⟩
  rw[show its.toArray.any (eqU x)=its.any (eqU x)by simp,jG r fs]
  exact q
 ·obtain⟨its,r,pl,hz⟩:=I.tuple hq
  refine SeqAt.notIn_tupleAt (eqU x) pl (fun w hw=>gF rx fx r fs w (by simpa using hw)) ⟨.bl _,H,I,rfl,?_⟩
  rw[show its.toArray.any (eqU x)=its.any (eqU x)by simp,jG r fs]
  exact q
/-! ### len,list(x),tuple(x) of any list or tuple that is read -/
theorem oY:cM X (.builtin "len") (fun xs H Q=>∃p ys,xs=[.ref p]/\(SqL X.K H p ys∨SqT X.K H p ys)/\Q (.int ys.length) H):=by
 intro ae s σ H xs us Q I r h
 obtain⟨p,ys,rfl,hq,q⟩:=h
 obtain⟨u,rfl,rx⟩:=nt r
 cases rx
 have hn:=j8
 rcases hq with hq|hq
 ·obtain⟨its,r',pl,hz⟩:=I.list hq
  have bj:=r'.length
  exact Calls.call_len_list pl.isList (by simp only[J1]<;>omega) ⟨.int ys.length,H,I.tok _,⟨s.toks+1,by rw[J1,bj]⟩,q⟩
 ·obtain⟨its,r',pl,hz⟩:=I.tuple hq
  have bj:=r'.length
  exact len_tuple pl (by simp only[J1]<;>omega) ⟨.int ys.length,H,I.tok _,⟨s.toks+1,by rw[J1,bj]⟩,q⟩
theorem qf:cM X (.builtin "len") (fun xs H Q=>∃z,xs=[.str z]/\z.length<=J0/\Q (.int z.length) H):=by
 intro ae s σ H xs us Q I r h
 obtain⟨z,rfl,hz,q⟩:=h
 obtain⟨u,rfl,t,rfl⟩:=nt r
 have hn:=j8
 exact len_str (by omega) ⟨.int z.length,H,I.tok _,⟨_,rfl⟩,q⟩
theorem cM.or{f:s0}{r r':List V->Hp->VK->Prop}(h:cM X f r) (h':cM X f r'):cM X f (fun xs H Q=>r xs H Q∨r' xs H Q):=by
 intro ae s σ H xs us Q I rs q
 rcases q with q|q
 ·exact h ae s σ H xs us Q I rs q
 ·exact h' ae s σ H xs us Q I rs q
theorem nO:cM X (.type "tuple") (fun xs H Q=>∃p ys,xs=[.ref p]/\((SqL X.K H p ys/\∀l,H l=none->Q (.ref l) (upd H l (.tup ys)))∨(SqT X.K H p ys/\Q (.ref p) H))):=by
 intro ae s σ H xs us Q I r h
 obtain⟨p,ys,rfl,h⟩:=h
 obtain⟨u,rfl,rx⟩:=nt r
 cases rx
 rcases h with⟨hq,q⟩|⟨hq,q⟩
 ·obtain⟨its,r',pl,hz⟩:=I.list hq
  have bj:=r'.length
  refine call_tuple_list pl.isList (fun h' kp=>?_) (by simp only[J1]<;>omega)
  have I1:Inv X ae σ H { s with heap:=h' }:=I.kept (t':=s.toks) kp
  have I2:Inv X ae σ (upd H h'.objs.size (.tup ys)) { s with heap:=h'.push { cls:=.type "tuple",data:=.seq its.toArray } } :=
   I1.laid (t':=s.toks) (fun b o e=>u8 _ e) (J4 _) (show cu X.prog X.w _ _ _ (.tup ys)from⟨hz,its,r',iR.new _ _⟩)
  exact⟨.ref h'.objs.size,_,I2,rfl,q _ (I1.hok.fresh (J4 _))⟩
 ·obtain⟨its,r',pl,hz⟩:=I.tuple hq
  exact call_tuple_same pl ⟨.ref p,H,I,rfl,q⟩
/-! ### the call of a builtin's method: o.m(..) -/
def tyV(K:o0) (T:String) (x:V) (H:Hp):Prop:=match x with
 |.str _=>T="str"
 |.int _=>T="int"
 | .ref p => (T = "list" ∧ ∃ xs,SqL K H p xs) ∨ (T = "tuple" ∧ ∃ o,K.lookup p = some o ∧ o.cls = .type "tuple" ∧ o.dict = none) ∨
   (T="dict"/\((∃kvs,H p=some (.dK kvs))∨∃kvs,H p=some (.dT kvs)))∨(T="set"/\∃S n,H p=some (.set S n))
 |_=>False
theorem Da{ae:List (J9×Obj)}{σ:St}{H:Hp}{s:I0}{T:String}{x:V}{v:s0}(I:Inv X ae σ H s) (r:aD x v) (ty:tyV X.K T x H) :
  s.TypeIs v T/\∀a,v=.ref a->∃ob,s.heap.get? a=some ob/\ob.dict=none:=by
 cases x with
 |str z =>
  obtain⟨t,rfl⟩:=r
  cases(show T="str" from ty)
  exact⟨typeIs_str s z t,fun _ e=>nomatch e⟩
 |int i =>
  obtain⟨t,rfl⟩:=r
  cases(show T="int" from ty)
  exact⟨ab7 s i t,fun _ e=>nomatch e⟩
 |ref p =>
  cases r
  rcases ty with⟨rfl,xs,hq⟩|⟨rfl,o,hk,hc,hd⟩|⟨rfl,hk⟩|⟨rfl,S,n,hk⟩
  ·obtain⟨its,_,pl,_⟩:=I.list hq
   refine⟨pl.isList.typeIs,fun a e=>?_⟩
   cases e
   obtain⟨o,n,e,c,hd,_⟩:=pl
   exact⟨o,e,hd⟩
  ·refine⟨⟨o,I.kIn p o hk,hc⟩,fun a e=>?_⟩
   cases e
   exact⟨o,I.kIn _ o hk,hd⟩
  ·have z:∃o,s.heap.get? p=some o/\o.ExactDict:=by
    rcases hk with⟨kvs,hk⟩|⟨kvs,hk⟩
    ·obtain⟨_,_,_,_,o,_,_,e,ex,_⟩:=I.hok p _ hk
     exact⟨o,e,ex⟩
    ·obtain⟨_,_,_,_,o,_,_,e,ex,_⟩:=I.hok p _ hk
     exact⟨o,e,ex⟩
   obtain⟨o,e,ex⟩:=z
   refine⟨⟨o,e,ex.1⟩,fun a e2=>?_⟩
   cases e2
   exact⟨o,e,ex.2.1⟩
  ·obtain⟨o,_,_,_,e,ex,_⟩:=I.hok p _ hk
   refine⟨⟨o,e,ex.1⟩,fun a e2=>?_⟩
   cases e2
   exact⟨o,e,ex.2.1⟩
 |_=>exact Q5 ty
def tBM(K:o0) (T:String) (r:V->List V->Hp->VK->Prop) (to:TE) (t:TA):TE:=fun σ H Q=>to σ H fun x H1=>tyV K T x H1/\t σ H1 fun xs H2=>r x xs H2 Q
variable{o e:K4}{es:List K4}{to:TE}{t:TA}{name:Str}{aW aG:Pos}{T id:String}{r:V->List V->Hp->VK->Prop}
theorem qP(pa:PlainAttrs T) (slot:Slot T name id) (hty:typeOf (.builtin id)=W0 (.type "method_descriptor")) (hm:MtR X id r) (ho:PE X o to) (ha:PA X (e::es) t)
  (bG:U2 o name X.env (T7 o X.env)=T7 o X.env:=by rfl)
  (dR:((T3 aG (J5 (e :: es) X.env)).all (fun x => !x.1) && (ac5 aG (Y9 [] X.env)).all (fun x => x.1.isSome)
  &&decide ((e::es).length+([]:List X8).length+(if([]:List X8).isEmpty then 0 else 1)<30))=true:=by rfl)
  (bE:(aW.endLine==aG.line)=true:=by rfl) (hs:J5 (e::es) X.env=(false,T7 e X.env)::J5 es X.env:=by rfl) (bZ:(T3 aG (J5 es X.env)).any (·.1)=false:=by rfl) :
  PE X (.Call (.Attribute o name aW) (e::es) [] aG) (tBM X.K T r to t):=by
 intro ae s σ H Q I h
 refine wpAny_Call_method_late bG dR bE rfl (thn (ho ae s σ H _ I h) fun v s1 ⟨x,H1,I1,r1,ty,q1⟩=>?_)
 obtain⟨h1,h2⟩:=Da I1 r1 ty
 refine⟨T,id,pa,slot,hty,h1,h2,?_⟩
 have hA:=ha aG ae s1 σ H1 _ I1 q1
 rw[hs]at hA ⊢
 refine Calls.callWith_builtin (by show(false || (T3 aG (J5 es X.env)).any (·.1))=false;rw[bZ]<;>rfl) (Calls.evalArgs_plain ?_)
 exact thn hA fun us s2 ⟨vs,H2,I2,r2,q2⟩=>hm ae s2 σ H2 x vs v us Q I2 r1 r2 q2
/- xs.append(e),list.index on a module's tuple .. are MtR facts of 06m -/
end
def MtM(X:Cx) (id:String) (r:V->List V->Hp->VK->Prop):Prop :=
 ∀(ae:List (J9×Obj)) (s:I0) (σ:St) (H:Hp) (x:V) (xs:List V) (v:s0) (us:List s0) (Q:VK),Inv X ae σ H s->aD x v->aA xs us->r x xs H Q ->
  K5 (L3 X.prog X.w) X.A (call (.builtin id) (v::us)) (EP X ae σ Q) X.xe s
/-! ### lists of values -/
theorem aA.un{x:V}{xs:List V}{us:List s0}(h:aA (x::xs) us):∃u vs,us=u::vs/\aD x u/\aA xs vs:=by
 cases h with
 |cons r t=>exact⟨_,_,rfl,r,t⟩
theorem aA.one{x:V}{us:List s0}(h:aA [x] us):∃u,us=[u]/\aD x u:=by
 obtain⟨u,vs,rfl,r,t⟩:=h.un
 cases t
 exact⟨u,rfl,r⟩
theorem aA.two{x y:V}{us:List s0}(h:aA [x,y] us):∃u v,us=[u,v]/\aD x u/\aD y v:=by
 obtain⟨u,vs,rfl,r,t⟩:=h.un
 obtain⟨v,rfl,q⟩:=t.one
 exact⟨u,v,rfl,r,q⟩
theorem aA.reverse{xs:List V}{us:List s0}(h:aA xs us):aA xs.reverse us.reverse:=by
 induction h with
 |nil=>exact .nil
 |cons r t ih=>rw[X1,X1];exact aA.append ih (.cons r .nil)
theorem aA.rep{xs:List V}{us:List s0}(h:aA xs us):∀k:Nat,aA (K2 k xs).flatten (K2 k us).flatten
 |0=>.nil
 |k+1=>by
  rw[Q6,Q6,T5,T5]
  exact aA.append h (aA.rep h k)
theorem jV(its:List s0):∀(k:Nat) (acc:List s0),
  ac7 (fun x1 x2=>x1++x2) acc.toArray (K2 k its.toArray)=(acc++(K2 k its).flatten).toArray
 |0,acc=>by simp
 |k+1,acc=>by
  have e:acc.toArray++its.toArray=(acc++its).toArray:=by simp
  have e2:(acc++its)++(K2 k its).flatten=acc++(K2 (k+1) its).flatten:=by
   rw[Q6,T5,List.append_assoc]
  rw[<-e2,<-jV its k (acc++its),<-e,Q6,List.foldl_cons]
section
variable{X:Cx}{ae:List (J9×Obj)}{σ:St}{H:Hp}{s:I0}{l b:J9}{xs ys zs:List V}
/-! ### the two steps: a tracked list is rewritten,a new list is laid -/
theorem Inv.lset{its its':List s0}{n:Nat}{f:Array s0->Array s0}{t':Nat}(I:Inv X ae σ H s) (hH:H l=some (.lst xs))
  (e:s.heap.get? l=some { cls:=.type "list",data:=.seq its.toArray n }) (hf:f its.toArray=its'.toArray) (hv:aA ys its') (hz:ys.length<=J0) :
  Inv X ae σ (upd H l (.lst ys)) { s with heap:=s.heap.update l (ab6 f),toks:=t' }:=by
 have q:=PySem.IsL.update e f
 rw[hf]at q
 refine I.write (x:=l) (e:=l) (by rw[hH];exact trivial) (.inl rfl) (fun b' u hb hu=>(L9.get?_update_other s.heap (ab6 f) (W9 hb)).trans hu) ⟨_,q⟩ ?_
 exact⟨hz,its',_,hv,q⟩
theorem Inv.lnew{its:List s0}{t':Nat}(I:Inv X ae σ H s) (hv:aA ys its) (hz:ys.length<=J0) :
  Inv X ae σ (upd H s.heap.objs.size (.lst ys)) { s with heap:=s.heap.push { cls:=.type "list",data:=.seq its.toArray },toks:=t' } :=
 I.laid (fun _ _ q=>u8 _ q) (J4 _) ⟨hz,its,0,hv,J6 _ rfl⟩
theorem Inv.fresh(I:Inv X ae σ H s):H s.heap.objs.size=none:=I.hok.fresh (J4 _)
theorem Inv.lstM(I:Inv X ae σ H s) (hH:H l=some (.lst xs)):xs.length<=J0/\∃(its:List s0) (n:Nat),aA xs its/\xs.length=its.length/\s.heap.get? l=some { cls:=.type "list",data:=.seq its.toArray n }:=by
 obtain⟨z,its,n,r,e⟩:=I.hok l _ hH
 exact⟨z,its,n,r,r.length,e⟩
theorem ml{n:Nat}(h:n<=J0):T6 n=false:=by
 unfold T6
 exact decide_eq_false (by omega)
end
section
variable{X:Cx}
/-! ### methods -/
def vo:V->List V->Hp->VK->Prop:=fun x vs H Q=>∃l xs y,x=.ref l/\vs=[y]/\H l=some (.lst xs)/\xs.length<J0/\Q .non (upd H l (.lst (xs++[y])))
theorem wX:MtM X "list.append" vo:=by
 intro ae s σ H x vs v us Q I rx rv h
 obtain⟨l,xs,y,rfl,rfl,hH,hz,q⟩:=h
 cases rx
 obtain⟨u,rfl,ru⟩:=rv.one
 obtain⟨z,its,n,r,hl,e⟩:=I.lstM hH
 refine Z9 F.slot_list_append ⟨_,e,rfl⟩ F.entry_list_append (F.args_list_append_2 _ _) (PySem.list_append l its.toArray n u (by rw[J1];omega)) ⟨e,?_⟩
 refine⟨.non,_,I.lset (its':=its++[u]) hH e (by simp) (r.append (.cons ru .nil)) ?_,rfl,q⟩
 rw[N4,List.length_singleton]
 omega
def vy:V->List V->Hp->VK->Prop:=fun x vs H Q=>∃l b xs zs,x=.ref l/\vs=[.ref b]/\H l=some (.lst xs)/\H b=some (.lst zs)/\xs.length+zs.length<=J0/\Q .non (upd H l (.lst (xs++zs)))
theorem vS:MtM X "list.extend" vy:=by
 intro ae s σ H x vs v us Q I rx rv h
 obtain⟨l,b,xs,zs,rfl,rfl,hH,hB,hz,q⟩:=h
 cases rx
 obtain⟨u,rfl,ru⟩:=rv.one
 cases ru
 obtain⟨z,its,n,r,hl,e⟩:=I.lstM hH
 obtain⟨z2,its2,n2,r2,hl2,e2⟩:=I.lstM hB
 have hsz:its.toArray.size+its2.toArray.size<=J0:=by rw[J1,J1];omega
 have hlong:¬ (!its.toArray.isEmpty&&T6 (its.toArray.size+its2.toArray.size))=true:=by
  rw[ml hsz,Bool.and_false]
  exact N1
 refine Z9 F.slot_list_extend ⟨_,e,rfl⟩ F.entry_list_extend (F.args_list_extend_2 _ _)
  (AutoSeq1.list_extend_list_list_0 l its.toArray n b its2.toArray n2 hlong (by rw[J1];omega) (by omega)) ⟨e,e2,?_⟩
 refine⟨.non,_,I.lset (its':=its++its2) hH e (by simp) (r.append r2) ?_,rfl,q⟩
 rw[N4]
 omega
/-! ### list+list,list += list,list*int -/
def Ib:R2:=fun x y H Q=>∃l b xs zs,x=.ref l/\y=.ref b/\H l=some (.lst xs)/\H b=some (.lst zs)/\xs.length+zs.length<=J0/\∀p,H p=none->Q (.ref p) (upd H p (.lst (xs++zs)))
theorem Fw:OpR X (P9 .Add) Ib:=by
 intro ae s σ H x y v u Q I rx ry h
 obtain⟨l,b,xs,zs,rfl,rfl,hH,hB,hz,q⟩:=h
 cases rx
 cases ry
 obtain⟨z,its,n,r,hl,e⟩:=I.lstM hH
 obtain⟨z2,its2,n2,r2,hl2,e2⟩:=I.lstM hB
 refine PySem.P.add_list e e2 ?_ (by rw[J1,J1];omega)
 have ea:its.toArray++its2.toArray=(its++its2).toArray:=by simp
 rw[ea]
 exact⟨.ref _,_,I.lnew (t':=s.toks) (r.append r2) (by rw[N4];omega),rfl,q _ I.fresh⟩
def HS:R2:=fun x y H Q=>∃l k xs,x=.ref l/\y=.int k/\H l=some (.lst xs)/\-(2 ^ 63)<=k/\k<2 ^ 63/\xs.length*k.toNat<=J0 /\
 ∀p,H p=none->Q (.ref p) (upd H p (.lst (K2 k.toNat xs).flatten))
theorem pR{α:Type}(xs:List α) (k:Nat):(K2 k xs).flatten.length=k*xs.length:=by
 induction k with
 |zero=>simp
 |succ k ih=>rw[Q6,T5,N4,ih,Nat.succ_mul,Nat.add_comm]
theorem zl:OpR X (P9 .Mult) HS:=by
 intro ae s σ H x y v u Q I rx ry h
 obtain⟨l,k,xs,rfl,rfl,hH,h1,h2,hz,q⟩:=h
 cases rx
 obtain⟨t,rfl⟩:=ry
 obtain⟨z,its,n,r,hl,e⟩:=I.lstM hH
 have bj:its.toArray.size*k.toNat<=J0:=by rw[J1,<-hl];exact hz
 have hcap:¬ its.toArray.size*k.toNat > (2 ^ 63-1) / 8:=by
  have:(J0:Nat)<=(2 ^ 63-1) / 8:=by decide
  omega
 have hfit:¬ (!Builtin.List.listFitsIndex k)=true:=by
  rw[fitsIndex_both h1 h2]
  exact N1
 have hlong:¬ T6 (its.toArray.size*k.toNat)=true:=by
  rw[ml bj]
  exact N1
 have hnew:ac7 (fun x1 x2=>x1++x2) #[] (K2 (if its.toArray.isEmpty=true then 0 else k.toNat) its.toArray)=(K2 k.toNat its).flatten.toArray:=by
  have f0:∀m:Nat,ac7 (fun x1 x2=>x1++x2) #[] (K2 m its.toArray)=(K2 m its).flatten.toArray:=fun m=>by
   have:=jV its m []
   rw[List.nil_append]at this
   exact this
  rw[f0]
  cases its with
  |nil=>simp
  |cons a r'=>rw[if_neg (by simp)]
 refine wpAny_binaryOp_repeat_ref (T:="list") (U:="int") (by decide) ⟨_,e,rfl⟩ (fun s'=>ab7 s' k t) noFill_list_mul F.fills_int_mul Z0 repeat_list F.slot_int_index.lookup
  (Z9 Z0 (ab7 s k t) F.entry_int_rmul (F.args_int_rmul_2 _ _) (int___rmul___int_list k t l its.toArray n)
   ⟨e,rfl,⟨_,e,rfl⟩,Z9 F.slot_list_mul ⟨_,e,rfl⟩ F.entry_list_mul (F.args_list_mul_2 _ _) (AutoListH.list___mul___list_int_3 l its.toArray n k t hfit hcap hlong) ⟨e,?_⟩⟩)
 rw[hnew]
 exact⟨.ref _,_,I.lnew (t':=s.toks) (r.rep k.toNat) (by rw[pR,Nat.mul_comm];exact hz),rfl,q _ I.fresh⟩
/-! ### del xs[i] -/
end
/-! ### xs[a:b]=ys -/
section
variable{prog:L8}{w:P2}{A:O3}{E:s0->I0->Prop}{s:I0}
set_option maxRecDepth 100000 in
end
end L2
namespace Att
open PySem PySem.W PySem.Calls PyProof.Rows
/-! ### the script -/
theorem lq{P:Params}{h:L9}:∀(ns:List Int) (vs:List s0),WellAll P h vs (ns.map WData.int)->IntsAre vs ns:=by
 intro ns
 induction ns with
 |nil =>
  intro vs w
  rw[List.map_nil]at w
  cases w
  exact .nil
 |cons n ns ih =>
  intro vs w
  rw[N2]at w
  cases w with
  |cons a b =>
   cases a
   exact .cons _ _ (ih _ b)
theorem wj{l:OpenLaw}{n:Nat}(hn:l.most=some n) {P:Params}{h:L9}{args:List WData}{vals:List s0}
  (hpre:l.row.toRowW.claim.pre args=true) (hwl:WellAll P h vals args) :
  ∃a vs ns,vals=[O2 a]/\args=[WData.list (ns.map WData.int)]/\h.get? a=some { cls:=.type "list",data:=.seq vs.toArray }/\IntsAre vs ns/\ns.length<=n:=by
 have hsh:WShape.hasAll [] args [.list .int]=true:=(pre_splitW hpre).1
 have hc:l.pre.holds [] { args:=args }=true:=(pre_splitW hpre).2
 obtain⟨d,r,rfl,h1,h2⟩:=hasAllW_cons hsh
 obtain rfl:=hasAllW_nil h2
 obtain⟨xs,rfl,h3⟩:=hasW_list h1
 obtain⟨ns,rfl⟩:=items_int h3
 have bj:ns.length<=n:=by
  unfold OpenLaw.pre at hc
  have h4:(WTm.not (.lt (.lit (.int (n:Int))) (.len (.arg 0)))).holds [] { args:=[.list (ns.map .int)] }=true:=by
   have h4:=(holds_andW hc).1
   rw[hn]at h4
   exact h4
  have h5:=condW_of h4 (w_not (w_lt w_lit (w_len_list (w_arg rfl))))
  rw[V2]at h5
  refine Nat.le_of_not_lt fun q=>?_
  have q':(n:Int)<((ns.length:Nat):Int):=by omega
  first
   |(rw[decide_eq_true q']at h5;exact absurd h5 (by decide))
   |(simp at h5;omega)
 cases hwl with
 |cons w1 w2 =>
  cases w2
  cases w1 with
  |list ho hall=>exact⟨_,_,ns,rfl,rfl,ho,lq ns _ hall,bj⟩
theorem xp(l:OpenLaw) (args:List WData):l.row.toRowW.claim.post args (.bool true) args=true :=
 postW_of (r:=l.row.toRowW) (X:=(true==true))
  (show WShape.has [] (.bool true) .bool=true by first|rfl|decide|simp[WShape.has,WShape.arms,WShape.armsAll])
  (show(WTm.eq .res (.lit (.bool true))).value [] { args:=args,res:=some (.bool true),after:=args }=some (.bool (true==true))from w_eq_bool (w_res rfl) w_lit) rfl
/-! ### the attachment: holds_open's last premise (the ax 'hc' behind k_head)from a K5 of the law's body -/
theorem attach_call{l:OpenLaw}{n:Nat}{q:L8}{loose:List Str}{XP:(Str->Option s0)->L9->Prop}{YP:P2->L9->Prop}{d:DefRec}
  (hn:l.most=some n) (hdf:d.params.defaults=[])
  (call:∀ (w:P2) (s₀ s₁:I0) (mg mb:Str → Option s0) (fa:J9) (o:Obj) (pm cd doc:s0) (a:J9) (vs:List s0) (ns:List Int),
   Ground q loose [] XP w s₀ mg mb s₁.heap->YP w s₁.heap ->
   s₁.heap.get? fa=some o->o.data=.func (docDef d.name d.params d.body d.scope pm cd doc)->s₁.heap.CodeRec cd d.name->mg d.name=some (.ref fa) ->
   s₁.heap.get? a=some { cls:=.type "list",data:=.seq vs.toArray }->IntsAre vs ns->ns.length<=n->s₁.gens=#[] ->
   Z4 (L3 l.prog w) ac2 (.call (.ref fa) ⟨[.ref a],[]⟩) (fun r s'=>r=.ok (.ret (.bool true))/\OldK s₁.heap s'.heap/\s'.os=s₁.os/\Z3 s'.gens) s₁) :
  WalkO q loose XP YP l.row.toRowW d [] (fun f vs=>PySem.call f vs):=by
 intro w s₀ s₁ mg mb G Y fa o pm cd doc dV kV ho hd hcd hD hmg hg args vals as hpre hlay hrd hwl hlo
 obtain rfl:dV=.none:=Dflts.none hD hdf
 obtain rfl:kV=.none:=Dflts.noKw hD
 obtain⟨a,vs,ns,rfl,rfl,hobj,hints,bj⟩:=wj hn hpre hwl
 refine enter_call (ab1 (call w s₀ s₁ mg mb fa o pm cd doc a vs ns G Y ho (fd_plain hd) hcd hmg hobj hints bj hg) fun r s' hq=>?_)
 obtain⟨rfl,h2,h3,h4⟩:=hq
 exact⟨.inl ⟨.bool true,.bool true,[],rfl,fun _=>rfl,.bool true,xp l _,fun _=>⟨List.Pairwise.nil,fun _ hm=>(nomatch hm)⟩⟩,h2,h3,h4⟩
/-! ### rules over ANY heap (no ledger)from facts about the written part K: the library's own take a ledger (News) for what they write -/
section
variable{prog:L8}{w:P2}{A:O3}{E:s0->I0->Prop}{s:I0}{K:Frag}
/-! the whole heap as the ledger: makes every rule that writes through a ledger a rule over any heap -/
end
end Att
namespace L2
open PySem PySem.Spec PyProof.Rows
theorem oN:∀{vs:List s0}{ns:List Int},IntsAre vs ns->aA (ns.map V.int) vs
 |_,_,.nil=>.nil
 |_,_,.cons n t h=>.cons ⟨t,rfl⟩ (oN h)
def Cm(H:Hp):Prop:=∀b,H b=none∨∃o xs,H b=some (.frz o (.lst xs))
theorem zd{P:L8}{w:P2}{K:o0}{mg mb:Str->Option s0}{CX:CXT}{k:Nat}{fa a:J9}{fd:U3}{x:Str}{sp:Sp}{s₁:I0}{vs:List s0}{ns:List Int}
  (KX:K.In s₁.heap) (hns:s₁.heap.Ns T8 mg) (hb:s₁.heap.Ns builtinsNs mb) (hbb:∀x:Str,x≠"__name__"->mb x=P3 x) (hlim:s₁.heap.NoLimit) (hg:s₁.gens=#[])
  (ha:s₁.heap.get? a=some { cls:=.type "list",data:=.seq vs.toArray }) (hi:IntsAre vs ns) (hl:ns.length<=J0) (hr:cA k ac2)
  (F:∀base:L9,K.In base->base.Ns T8 mg->ba P w K mg base CX k fa fd [x] sp) (hbind:∀(s:I0) (u:s0),ad6 s fd ⟨[u],[]⟩ [(x,u)])
  (hsp:∀H:Hp,Cm H->SqL K H a (ns.map V.int)->sp [.ref a] H (fun v _=>v=.bl true) fun _ _ _=>False)
  (hCX:∀H e s',CX [] H s₁ (fun _ _ _=>False) e s'->False) :
  Z4 (L3 P w) ac2 (.call (.ref fa) ⟨[.ref a],[]⟩) (fun r s'=>r=.ok (.ret (.bool true))/\OldK s₁.heap s'.heap/\s'.os=s₁.os/\Z3 s'.gens) s₁:=by
 have rv:=oN hi
 have lenV:=hi.length
 -- from an abstract heap in which nothing but the script may be tracked
 have core:∀H:Hp,Cm H->SqL K H a (ns.map V.int)->HOk P w H s₁.heap->(∀b,H b≠none->b=a)->(H a≠none->K.lookup a=none) ->
   Z4 (L3 P w) ac2 (.call (.ref fa) ⟨[.ref a],[]⟩) (fun r s'=>r=.ok (.ret (.bool true))/\OldK s₁.heap s'.heap/\s'.os=s₁.os/\Z3 s'.gens) s₁:=by
  intro H hO hS hok hA hK
  have base_of:∀{b:J9} {o:Obj},s₁.heap.get? b=some o->H b=none->(qx s₁.heap H).get? b=some o:=fun e n=>xC e n
  have noA:∀{b:J9} {o:Obj} {es:Array ad5} {ep:Nat},s₁.heap.get? b=some o->o.data=.dict es ep->H b=none:=fun {b o es ep} e d=>by
   cases q:H b with
   |none=>rfl
   |some u =>
    have e':b=a:=hA b (by rw[q];simp)
    subst e'
    rw[ha]at e;cases e
    have d':Data.seq vs.toArray _=Data.dict es ep:=d
    cases d'
  have nsK:∀{b:J9} {m:Str->Option s0},s₁.heap.Ns b m->(qx s₁.heap H).Ns b m:=fun {b m} ⟨o,es,ep,e,d,r⟩=>⟨o,es,ep,base_of e (noA e d),d,r⟩
  have hKb:K.In (qx s₁.heap H):=fun b o e=>base_of (KX b o e) (by
   cases q:H b with
   |none=>rfl
   |some u =>
    have e':b=a:=hA b (by rw[q];simp)
    subst e'
    rw[hK (by rw[q];simp)]at e;cases e)
  have hM:Mod K mg (qx s₁.heap H):=⟨hKb,nsK hns,⟨mb,nsK hb,hbb⟩,let⟨mc,h1,h2⟩:=hlim;⟨mc,nsK h1,h2⟩⟩
  have e0:ui P w K mg (qx s₁.heap H) ac2 [] s₁ H:=⟨rfl,hM,fun b o e=>BU e,Nat.le_of_eq (wm _ _),trivial,fun b hb=>absurd (show b∈([]:List J9)from hb) (by simp),hok,.of_eq hg⟩
  refine ab1 ((F _ hKb (nsK hns)).run ac2 [] s₁ H ⟨[.ref a],[]⟩ [.ref a] [.ref a] _ _ hr e0 (hbind s₁ (.ref a)) (.cons rfl .nil) (hsp H hO hS)) fun r s' h=>?_
  cases r with
  |error e=>exact(hCX H e s' h).elim
  |ok fl =>
   cases fl with
   |next=>exact Q5 h
   |brk=>exact Q5 h
   |cont=>exact Q5 h
   |ret u =>
    obtain⟨v,H',os,bare,un,hok',r',q⟩:=h
    have q':v=.bl true:=q
    subst q'
    obtain rfl:u=s0.bool true:=r'
    refine⟨rfl,OldK.of_keep fun b o e=>?_,os,bare⟩
    cases q:H b with
    |none=>exact un.keep b o e q (by intro z;exact absurd (show b∈([]:List J9)from z) (by simp)) (by simp)
    |some u =>
     rcases hO b with z|⟨ob,xs,z⟩
     ·rw[q]at z;cases z
     ·have z2:=un.frzs b ob _ z
      obtain⟨e1,_⟩:=hok b _ z
      obtain⟨e2,_⟩:=hok' b _ z2
      rw[e]at e1;cases e1
      exact e2
 cases hk:K.lookup a with
 |some o =>
  -- the script is one of the module's own objects
  have e:=KX a o hk
  rw[ha]at e
  cases e
  refine core (fun _=>none) (fun _=>.inl rfl) (.inr ⟨_,vs.toArray,_,hk,rfl,rfl,rfl,by rw[J1,lenV];exact hl,by simpa using rv⟩) (fun b u z=>by have z':(none:Option HO)=some u:=z;cases z') (fun b z=>absurd rfl z) fun z=>absurd rfl z
 |none =>
  refine core (fun b=>if b=a then some (.frz { cls:=.type "list",data:=.seq vs.toArray } (.lst (ns.map V.int)))else none) (fun b=>?_) (.inl (.inr ⟨{ cls:=.type "list",data:=.seq vs.toArray },if_pos rfl⟩)) (fun b u z=>?_) (fun b z=>?_) fun _=>hk
  ·by_cases hb:b=a
   ·exact .inr ⟨_,_,if_pos hb⟩
   ·exact .inl (if_neg hb)
  ·by_cases hb:b=a
   ·have z':=(if_pos hb).symm.trans z
    cases z'
    subst hb
    exact⟨ha,by rw[V2];exact hl,vs,_,rv,ha⟩
   ·have z':=(if_neg hb).symm.trans z
    cases z'
  ·by_cases hb:b=a
   ·exact hb
   ·exact absurd (if_neg hb) z
theorem uN{l:PySem.W.OpenLaw}{n k:Nat}{q:L8}{loose:List Str}{XP:(Str->Option s0)->L9->Prop}{YP:P2->L9->Prop}{d:DefRec}{K:Params->o0}{CX:P2->CXT}{sp:P2->Sp}{x:Str}
  (hn:l.most=some n) (hn2:n<=J0) (hdf:d.params.defaults=[]) (hr:cA k ac2)
  (hY:∀(w:P2) (h:L9),YP w h->(K w.params).In h)
  (F:∀ (w:P2) (mg:Str → Option s0) (fa:J9) (h:L9),(K w.params).In h → h.Ns T8 mg → mg d.name = some (.ref fa) →
   ∃fd:U3,(∀(s:I0) (u:s0),ad6 s fd ⟨[u],[]⟩ [(x,u)]) /\
    ∀base:L9,(K w.params).In base->base.Ns T8 mg->ba l.prog w (K w.params) mg base (CX w) k fa fd [x] (sp w))
  (hsp:∀(w:P2) (H:Hp) (a:J9) (ns:List Int),ns.length<=n->Cm H->SqL (K w.params) H a (ns.map V.int)->sp w [.ref a] H (fun v _=>v=.bl true) fun _ _ _=>False)
  (hCX:∀(w:P2) (H:Hp) (s:I0) (e:s0) (s':I0),CX w [] H s (fun _ _ _=>False) e s'->False) :
  PySem.W.WalkO q loose XP YP l.row.toRowW d [] (fun f vs=>PySem.call f vs):=by
 refine Att.attach_call hn hdf fun w s₀ s₁ mg mb fa o pm cd doc a vs ns G Y ho hd hcd hmg hobj hints bj hg=>?_
 have KX:=hY w _ Y
 obtain⟨fd,hb,hF⟩:=F w mg fa _ KX G.T.g hmg
 exact zd KX G.T.g G.T.b G.T.builtins G.T.nolimit hg hobj hints (M9 bj hn2) hr hF hb (fun H hO hS=>hsp w H a ns bj hO hS) fun H e s'=>hCX w H s₁ e s'
end L2
/- THE LAST THEOREM (shape; LID,My.* are yours):
   My.Adr: a structure of the addresses that your layer names (classes,functions);My.Txt K t: a structure (Prop) of the equations over K;
   My.txt_mk:{K} {implicit addresses ..} (e1:nsIn K T8 "law"=some (some (.ref f))) (e2:K.lookup f=some ⟨oc,od,.func (fnOf "law" "law" params body scope dV kV doc pm an cdv ct),sl⟩) (e3:codeIn K cdv "law"=true) ..:∃t,My.Txt K t
set_option maxRecDepth 100000 in
set_option maxHeartbeats 0 in
theorem PySem.Challenge.cw_LID_holds : PySem.Challenge.rw_LID.Holds := by
 w_on;o_law;k_head;(case hw=>w_witness2)
 k_fill
 refine L2.uN (l:=PySem.Challenge.rw_LID) (n:=63) (k:=40) (x:="script") (CX:=fun w=>..) (sp:=fun _=>My.sp_law) rfl (by decide) rfl ⟨rfl,by decide,by decide⟩ (fun w h Y=>PySem.W.kIn_of Y) ?F ?S ?C
 case F =>
  intro w mg fa h KX G hmg
  have T:∃t,My.Txt (L2.KOf KX) t:=by
   dsimp only[L2.KOf]                          -- K must stand as «<heap const> w.params» for k_is
   refine' My.txt_mk ?e1 ?e2 ?e3 ..
   (case e1=>PySem.W.k_is)                    -- in the order: a name->its address->its object->its parts
   (case e2=>PySem.W.k_is)
   ..
  obtain⟨t,T⟩:=T
  have e0:=hmg.symm.trans (PySem.W.mg_of KX G T.law)
  cases e0                                       -- fa is the law's own address
  exact⟨_,fun s u=>.of_eq rfl,fun base kb nb=>My.law_fn T kb nb⟩     -- if «.of_eq rfl» comes too early: refine' ⟨_,?b,fun base kb nb=>My.law_fn T kb nb⟩;exact fun s u=>.of_eq rfl
 case S=>exact fun w H a ns hl hO hS=>..
 case C=>exact ..
(the tactic k_is has no namespace: write k_is) -/
/-! SHORT WORDS over the layer: a def of the text,its body,what a loop and a test want. -/
namespace L2
open PySem PySem.Spec PyProof.Rows
/-! ### the text by places -/
def fO(s:Z7):Arguments:=match s with
 |.FunctionDef _ a _ _ _ _ _ _ _ _=>a
 |_=>{ posonlyargs:=[],args:=[],vararg:=none,kwonlyargs:=[],kw_defaults:=[],kwarg:=none,defaults:=[] }
def dh(s:Z7):List Z7:=match s with
 |.FunctionDef _ _ b _ _ _ _ _ _ _=>b
 |_=>[]
def am(s:Z7):U9:=match s with
 |.FunctionDef _ _ _ _ _ _ sc _ _ _=>sc
 |_=>{ kind:=.function,names:=[],isGenerator:=false,isCoroutine:=false }
/-! ### no exception leaves a def -/
abbrev CX0:CXT:=fun _ _ _ _ _ _=>False
abbrev E0:XK:=fun _ _ _=>False
theorem CB{X:Cx}:mJ CX0 X E0:=fun _ _ _ _ _ _ _ h=>h.elim
/-! ### a def (or method) of the text as it stands behind the top -/
structure Fun(K:o0) (x qual:Str) (st:Z7) (f:J9) (fd:U3):Prop where
 ex:∃(oc:s0) (od:Option J9) (kV doc pm:s0) (an:Option J9) (cdv ct:s0) (osl:Array (Option s0)),
  fd=X5 x qual (fO st) (dh st) (am st) .none kV doc pm an cdv ct/\K.lookup f=some ⟨oc,od,.func fd,osl⟩/\PySem.W.codeIn K cdv qual=true
 kp:V5 K (.ref f)=true
section
variable{P:L8}{w:P2}{K:o0}{mg:Str->Option s0}{base:L9}
theorem Fun.ok{x qual:Str}{st:Z7}{f:J9}{fd:U3}{N ps:List Str}{k:Nat}{sp:Sp}(F:Fun K x qual st f fd) (S:az N ps (am st)) (len:∀vs H Q E,sp vs H Q E->vs.length=ps.length)
  (hbody:∀ (cdv:s0) (A:O3) (outer:List Env) (s:I0) (H:Hp) (vs:List V) (Q:VK) (E:XK),cA k (A.deeper (ab8 qual (am st) s.heap.objs.size f cdv)) → sp vs H Q E →
   ∃t,PSs (sj CX0 P w K mg base N qual (am st) f cdv A outer s H E).nox (dh st) t/\t { nx:=fun _ H'=>Q .non H',rt:=Q } (cN N vs) H):ba P w K mg base CX0 (k+1) f fd ps sp:=by
 obtain⟨oc,od,kV,doc,pm,an,cdv,ct,osl,rfl,lk,hcd⟩:=F.ex
 refine FO lk hcd S len fun A outer s H vs Q E hr hsp=>?_
 obtain⟨t,h,q⟩:=hbody cdv A outer s H vs Q E hr hsp
 exact⟨t,h.nox,q⟩
theorem Fun.binds{x qual:Str}{st:Z7}{f:J9}{fd:U3}{ps:List Str}(F:Fun K x qual st f fd)
  (h:∀(kV doc pm:s0) (an:Option J9) (cdv ct:s0) (us:List s0),us.length=ps.length->bindArgs (X5 x qual (fO st) (dh st) (am st) .none kV doc pm an cdv ct) ⟨us,[]⟩=W0 (ps.zip us)):dv K fd ps []:=by
 obtain⟨oc,od,kV,doc,pm,an,cdv,ct,osl,rfl,lk,hcd⟩:=F.ex
 exact .all (h kV doc pm an cdv ct)
theorem yJ{x qual:Str}{st:Z7}{f:J9}{oc:s0}{od an:Option J9}{osl:Array (Option s0)}{kV doc pm cdv ct:s0}(l:K.lookup f=some ⟨oc,od,.func (X5 x qual (fO st) (dh st) (am st) .none kV doc pm an cdv ct),osl⟩)
  (c:PySem.W.codeIn K cdv qual=true) (k:V5 K (.ref f)=true):Fun K x qual st f (X5 x qual (fO st) (dh st) (am st) .none kV doc pm an cdv ct):=⟨⟨oc,od,kV,doc,pm,an,cdv,ct,osl,rfl,l,c⟩,k⟩
end
theorem wD{n:Nat}(h:n<=1000):n<J0:=Nat.lt_of_le_of_lt h (by decide)
/-! ### expressions in short: the name that stands in the i-th slot -/
/-! ### tests -/
theorem cE{c A B:Prop} [Decidable c] (h1:c->A) (h2:¬ c->B):if c then A else B:=by
 by_cases h:c
 ·rw[if_pos h]
  exact h1 h
 ·rw[if_neg h]
  exact h2 h
/-! ### heaps -/
def wI(H H':Hp):Prop:=∀b o,H b=some o->H' b=some o
theorem wI.refl(H:Hp):wI H H:=fun _ _ h=>h
theorem wI.trans{H H1 H2:Hp}(a:wI H H1) (b:wI H1 H2):wI H H2:=fun c o h=>b c o (a c o h)
/-! ### lists of pairs as tables -/
section
variable{κ:Type} [DecidableEq κ]
def dZ(kvs:List (κ×V)) (k:κ):Option V:=(kvs.find? fun kv=>decide (kv.1=k)).map (·.2)
def dO(kvs:List (κ×V)) (k:κ) (v:V):List (κ×V) :=
 if(kvs.any fun kv=>decide (kv.1=k))=true then kvs.map (fun kv=>if kv.1=k then(kv.1,v)else kv)else kvs++[(k,v)]
def II(kvs:List (κ×V)) (k:κ):List (κ×V):=kvs.filter fun kv=>decide (kv.1≠k)
theorem jF{p:κ×V}{r:List (κ×V)}{k:κ}(e:p.1=k):dZ (p::r) k=some p.2:=by simp[dZ,R6,e]
theorem ja{p:κ×V}{r:List (κ×V)}{k:κ}(e:¬ p.1=k):dZ (p::r) k=dZ r k:=by simp[dZ,R6,e]
theorem rZ(k:κ):∀kvs:List (κ×V),(kvs.any fun kv=>decide (kv.1=k))=(dZ kvs k).isSome
 |[]=>rfl
 |p::r=>by
  rw[Q7]
  by_cases e:p.1=k
  ·simp only[jF e,decide_eq_true e,Bool.true_or,Option.isSome_some]
  ·rw[ja e,decide_eq_false e,Bool.false_or];exact rZ k r
theorem gO(kvs:List (κ×V)) (k:κ) (v:V):(dO kvs k v).length<=kvs.length+1:=by
 unfold dO
 split
 ·rw[V2];omega
 ·rw[N4,N9,W3];omega
theorem iA.isSome_eq{o:Option V}{u:Option s0}(r:iA o u):o.isSome=u.isSome:=by
 cases o with
 |none=>cases u with
  |none=>rfl
  |some _=>exact(show False from r).elim
 |some _=>cases u with
  |none=>exact(show False from r).elim
  |some _=>rfl
theorem iA.getD{o:Option V}{u:Option s0}{d:V}{d':s0}(r:iA o u) (rd:aD d d'):aD (o.getD d) (u.getD d'):=by
 cases o with
 |none=>cases u with
  |none=>exact rd
  |some _=>exact(show False from r).elim
 |some _=>cases u with
  |none=>exact(show False from r).elim
  |some _=>exact r
theorem KV.val{kvs:List (κ×V)}{vs:List (κ×s0)}(r:KV kvs vs) (k:κ):iA (dZ kvs k) (ac8 vs k):=by
 unfold KV at r
 induction r with
 |nil=>exact V9
 |@cons p q ps qs h t ih =>
  obtain⟨h1,h2⟩:=h
  by_cases e:p.1=k
  ·have e':q.1=k:=h1.symm.trans e
   have b:ac8 (q::qs) k=some q.2:=by simp[ac8,R6,e']
   rw[jF e,b];exact h2
  ·have e':¬ q.1=k:=fun z=>e (h1.trans z)
   have b:ac8 (q::qs) k=ac8 qs k:=by simp[ac8,R6,e']
   rw[ja e,b];exact ih
theorem KV.any{kvs:List (κ×V)}{vs:List (κ×s0)}(r:KV kvs vs) (k:κ):(kvs.any fun kv=>decide (kv.1=k))=vs.any fun kv=>decide (kv.1=k):=by
 unfold KV at r
 induction r with
 |nil=>rfl
 |cons h t ih=>rw[Q7,Q7,ih,h.1]
theorem KV.repl{kvs:List (κ×V)}{vs:List (κ×s0)}(r:KV kvs vs) (k:κ) {y:V}{u:s0}(ry:aD y u) :
  KV (kvs.map fun kv=>if kv.1=k then(kv.1,y)else kv) (vs.map fun kv=>if kv.1=k then(kv.1,u)else kv):=by
 unfold KV at r ⊢
 induction r with
 |nil=>exact .nil
 |@cons p q ps qs h t ih =>
  rw[N2,N2]
  refine .cons ?_ ih
  obtain⟨h1,h2⟩:=h
  by_cases e:p.1=k
  ·rw[if_pos e,if_pos (h1.symm.trans e)];exact⟨h1,ry⟩
  ·rw[if_neg e,if_neg (fun z=>e (h1.trans z))];exact⟨h1,h2⟩
theorem KV.put{kvs:List (κ×V)}{vs:List (κ×s0)}(r:KV kvs vs) (k:κ) {y:V}{u:s0}(ry:aD y u):KV (dO kvs k y) (stored vs k u):=by
 unfold dO stored
 rw[r.any k]
 by_cases e:(vs.any fun kv=>decide (kv.1=k))=true
 ·rw[if_pos e,if_pos e];exact r.repl k ry
 ·rw[if_neg e,if_neg e];exact S0.snoc r ⟨rfl,ry⟩
theorem KV.keys{kvs:List (κ×V)}{vs:List (κ×s0)}(r:KV kvs vs):kvs.map (·.1)=vs.map (·.1):=by
 unfold KV at r
 induction r with
 |nil=>rfl
 |cons h t ih=>rw[N2,N2,ih,h.1]
theorem KV.length{kvs:List (κ×V)}{vs:List (κ×s0)}(r:KV kvs vs):kvs.length=vs.length:=aa0 r
end
/-! ### a tracked dict,its keys ints and texts or tuples of these -/
theorem kG{P:L8}{w:P2}{k:Key}{u:s0}(r:aD (kV k) u):(aO P w).is k u=true:=by
 cases k with
 |inl i=>obtain⟨t,e⟩:=(show ∃t,u=ad0 i t from r);subst e;exact qG P w i t
 |inr x=>obtain⟨t,e⟩:=(show ∃t,u=ad1 x t from r);subst e;exact qF P w x t
theorem jY{P:L8}{w:P2}:∀{ks:List Key}{us:List s0},aA (ks.map kV) us->ItemsAre (aO P w) ks us
 |[],_,r=>by rw[List.map_nil]at r;cases r;exact .nil
 |k::ks,_,r=>by
  rw[N2]at r
  cases r with
  |cons h t=>exact .cons (kG h) (jY t)
abbrev KT(H:Hp):List (List Key×V)->List (List Key×J9×s0)->Prop:=S0 fun p q=>p.1=q.1/\H q.2.1=some (.tup (p.1.map kV))/\aD p.2 q.2.2
theorem KT.val{H:Hp}{kvs:List (List Key×V)}{xs:List (List Key×J9×s0)}(r:KT H kvs xs) (k:List Key):iA (dZ kvs k) ((atKey xs k).map (·.2)):=by
 induction r with
 |nil=>exact V9
 |@cons p q ps qs h t ih =>
  obtain⟨h1,_,h2⟩:=h
  by_cases e:p.1=k
  ·have e':q.1=k:=h1.symm.trans e
   have b:atKey (q::qs) k=some q.2:=by simp[atKey,R6,e']
   rw[jF e,b];exact h2
  ·have e':¬ q.1=k:=fun z=>e (h1.trans z)
   have b:atKey (q::qs) k=atKey qs k:=by simp[atKey,R6,e']
   rw[ja e,b];exact ih
theorem KT.repl{H:Hp}{kvs:List (List Key×V)}{xs:List (List Key×J9×s0)}(r:KT H kvs xs) (k:List Key) {y:V}{u:s0}(ry:aD y u) :
  KT H (kvs.map fun kv=>if kv.1=k then(kv.1,y)else kv) (xs.map (putAt k u)):=by
 induction r with
 |nil=>exact .nil
 |@cons p q ps qs h t ih =>
  rw[N2,N2]
  refine .cons ?_ ih
  obtain⟨h1,h2,h3⟩:=h
  unfold putAt
  by_cases e:p.1=k
  ·rw[if_pos e,if_pos (h1.symm.trans e)];exact⟨h1,h2,ry⟩
  ·rw[if_neg e,if_neg (fun z=>e (h1.trans z))];exact⟨h1,h2,h3⟩
theorem KT.put{H:Hp}{kvs:List (List Key×V)}{xs:List (List Key×J9×s0)}(r:KT H kvs xs) (k:List Key) {b:J9}{y:V}{u:s0}(hb:H b=some (.tup (k.map kV))) (ry:aD y u) :
  KT H (dO kvs k y) (storedH xs k b u):=by
 have e:(kvs.any fun kv=>decide (kv.1=k))=(atKey xs k).isSome:=by
  rw[rZ,(r.val k).isSome_eq,Option.isSome_map]
 unfold dO storedH
 rw[e]
 by_cases q:(atKey xs k).isSome=true
 ·rw[if_pos q,if_pos q];exact r.repl k ry
 ·rw[if_neg q,if_neg q];exact S0.snoc r ⟨rfl,hb,ry⟩
theorem KT.keeps{H H':Hp}{kvs:List (List Key×V)}{xs:List (List Key×J9×s0)}(r:KT H kvs xs) (ht:∀b ys,H b=some (.tup ys)->H' b=some (.tup ys)):KT H' kvs xs :=
 S0.mapP r fun _ _ z=>⟨z.1,ht _ _ z.2.1,z.2.2⟩
section
variable{P:L8}{w:P2}{H:Hp}{h:L9}{a:J9}
theorem CD{u:HO}(ok:HOk P w H h) (e:Rd H a u):cu P w H h a u:=e.ok ok
theorem mW{kvs:List (Key×V)}(ok:HOk P w H h) (e:Rd H a (.dK kvs)):kvs.length<=J0/\(a==T1)=false/\∃vs,KV kvs vs/\h.DictOf (aO P w) a vs :=
 show cu P w H h a (.dK kvs)from CD ok e
theorem qI{kvs:List (Key×V)}(ok:HOk P w H h) (e:H a=some (.dK kvs)):kvs.length<=J0/\(a==T1)=false/\∃vs,KV kvs vs/\h.DictOf (aO P w) a vs:=mW ok (.inl e)
theorem i4{ks:List Key}(ok:HOk P w H h) (e:H a=some (.tup (ks.map kV))):(aa8 (aO P w)).is h ks a:=by
 obtain⟨_,its,r,o,h1,h2,⟨n,h3⟩,_⟩:=(show cu P w H h a (.tup (ks.map kV))from ok a _ e)
 exact⟨o,its.toArray,n,h1,h2,h3,by simpa using jY r⟩
theorem kL{kvs:List (List Key×V)}(ok:HOk P w H h) (e:Rd H a (.dT kvs)):kvs.length<=J0/\(a==T1)=false /\
  ∃xs,KT H kvs xs/\h.DictOfH (aa8 (aO P w)) a xs:=by
 obtain⟨z,y,xs,r,o,es,ep,h1,h2,h3,h4,h5⟩:=(show cu P w H h a (.dT kvs)from CD ok e)
 refine⟨z,y,xs,r,o,es,ep,h1,h2,h3,h4,fun x hx=>?_,h5⟩
 have all:∀{l:List (List Key×V)} {m:List (List Key×J9×s0)},KT H l m->∀x∈m,(aa8 (aO P w)).is h x.1 x.2.1:=by
  intro l m q
  induction q with
  |nil=>intro x hx;exact nomatch hx
  |@cons p q ps qs hq t ih =>
   intro x hx
   rcases O4.mp hx with e|hx
   ·subst e
    exact i4 ok (by rw[<-hq.1];exact hq.2.1)
   ·exact ih x hx
 exact all r x hx
theorem CG{kvs:List (List Key×V)}(ok:HOk P w H h) (e:H a=some (.dT kvs)):kvs.length<=J0/\(a==T1)=false /\
  ∃xs,KT H kvs xs/\h.DictOfH (aa8 (aO P w)) a xs:=kL ok (.inl e)
end
def gz(H:Hp) (a:J9) (y:V) (r:Option V):Prop :=
 (∃kvs k,Rd H a (.dK kvs)/\y=kV k/\r=dZ kvs k)∨∃kvs k b,Rd H a (.dT kvs)/\y=.ref b/\H b=some (.tup (k.map kV))/\r=dZ kvs k
def pP(H:Hp) (a:J9) (y v:V) (H':Hp):Prop :=
 (∃kvs k,H a=some (.dK kvs)/\y=kV k/\kvs.length<J0/\H'=upd H a (.dK (dO kvs k v))) ∨
 ∃kvs k b,H a=some (.dT kvs)/\y=.ref b/\H b=some (.tup (k.map kV))/\kvs.length<J0/\H'=upd H a (.dT (dO kvs k v))
theorem gz.k{H:Hp}{a:J9}{kvs:List (Key×V)}{k:Key}(e:H a=some (.dK kvs)):gz H a (kV k) (dZ kvs k):=.inl ⟨kvs,k,.inl e,rfl,rfl⟩
theorem gz.t{H:Hp}{a b:J9}{kvs:List (List Key×V)}{k:List Key}(e:H a=some (.dT kvs)) (eb:H b=some (.tup (k.map kV))):gz H a (.ref b) (dZ kvs k):=.inr ⟨kvs,k,b,.inl e,rfl,eb,rfl⟩
theorem pP.k{H:Hp}{a:J9}{kvs:List (Key×V)}{k:Key}{v:V}(e:H a=some (.dK kvs)) (hl:kvs.length<J0):pP H a (kV k) v (upd H a (.dK (dO kvs k v))):=.inl ⟨kvs,k,e,rfl,hl,rfl⟩
theorem pP.t{H:Hp}{a b:J9}{kvs:List (List Key×V)}{k:List Key}{v:V}(e:H a=some (.dT kvs)) (eb:H b=some (.tup (k.map kV))) (hl:kvs.length<J0) :
  pP H a (.ref b) v (upd H a (.dT (dO kvs k v))):=.inr ⟨kvs,k,b,e,rfl,eb,hl,rfl⟩
section
variable{X:Cx}{ae:List (J9×Obj)}{σ:St}{H:Hp}{s:I0}{a:J9}{y v:V}{u r:s0}{o:Option V}{A:O3}{E:s0->I0->Prop}
theorem Inv.big(I:Inv X ae σ H s):T1<s.heap.objs.size:=by
 have h:T8<s.heap.objs.size:=(I.mod.glob.keeps I.bk).lt
 exact Nat.lt_trans (by decide) h
theorem tV{Q:s0->I0->Prop}(hu:A.units+1<X7) (I:Inv X ae σ H s) (g:gz H a y (some v)) (ry:aD y u) (h:∀w' s',Inv X ae σ H s'->aD v w'->Q w' s') :
  K5 (L3 X.prog X.w) A (Y8 (.ref a) u) Q E s:=by
 rcases g with⟨kvs,k,e,ey,l⟩|⟨kvs,k,b,e,ey,eb,l⟩
 ·subst ey
  obtain⟨z,hd,vs,rel,dd⟩:=mW I.hok e
  obtain⟨w',hw,rw'⟩:=iA.some_of (v:=v) (o:=ac8 vs k) (by rw[l];exact rel.val k)
  exact wpAny_getItem_of (kG ry) dd.mapOf hw (h w' _ (I.tok _) rw')
 ·subst ey
  cases(show u=O2 b from ry)
  obtain⟨z,hd,xs,rel,dd⟩:=kL I.hok e
  obtain⟨w',hw,rw'⟩:=iA.some_of (v:=v) (o:=(atKey xs k).map (·.2)) (by rw[l];exact rel.val k)
  obtain⟨p,hp,hp2⟩:=Option.map_eq_some_iff.mp hw
  refine wpAny_getItem_heap (V1 hu) (i4 I.hok eb) dd hp ?_
  rw[hp2]
  exact h w' _ (I.tok _) rw'
theorem F3{Q:s0->I0->Prop}(hu:A.units+1<X7) (I:Inv X ae σ H s) (g:gz H a y o) (ry:aD y u) (h:∀s',Inv X ae σ H s'->Q (.bool o.isSome) s') :
  K5 (L3 X.prog X.w) A (L7 .In u (.ref a)) Q E s:=by
 rcases g with⟨kvs,k,e,ey,l⟩|⟨kvs,k,b,e,ey,eb,l⟩
 ·subst ey
  obtain⟨z,hd,vs,rel,dd⟩:=mW I.hok e
  refine wpAny_in_of (kG ry) hd dd.mapOf ?_
  rw[<-(rel.val k).isSome_eq,<-l]
  exact h _ (I.tok _)
 ·subst ey
  cases(show u=O2 b from ry)
  obtain⟨z,hd,xs,rel,dd⟩:=kL I.hok e
  refine wpAny_in_heap (V1 hu) (i4 I.hok eb) hd dd ?_
  have q:=(rel.val k).isSome_eq
  rw[Option.isSome_map]at q
  rw[<-q,<-l]
  exact h _ (I.tok _)
theorem zg{Q:s0->I0->Prop}(hu:A.units+1<X7) (I:Inv X ae σ H s) (g:gz H a y o) (ry:aD y u) (h:∀s',Inv X ae σ H s'->Q (.bool (!o.isSome)) s') :
  K5 (L3 X.prog X.w) A (L7 .NotIn u (.ref a)) Q E s:=by
 rcases g with⟨kvs,k,e,ey,l⟩|⟨kvs,k,b,e,ey,eb,l⟩
 ·subst ey
  obtain⟨z,hd,vs,rel,dd⟩:=mW I.hok e
  refine wpAny_notIn_of (kG ry) hd dd.mapOf ?_
  rw[<-(rel.val k).isSome_eq,<-l]
  exact h _ (I.tok _)
 ·subst ey
  cases(show u=O2 b from ry)
  obtain⟨z,hd,xs,rel,dd⟩:=kL I.hok e
  refine wpAny_notIn_heap (V1 hu) (i4 I.hok eb) hd dd ?_
  have q:=(rel.val k).isSome_eq
  rw[Option.isSome_map]at q
  rw[<-q,<-l]
  exact h _ (I.tok _)
theorem ji{h':L9}{t':Nat}{ob:HO}(I:Inv X ae σ H s) (mu:Mut (H a)) (hs:S7 a s.heap h') (he:∃q,h'.get? a=some q) (new:cu X.prog X.w (upd H a ob) h' a ob) :
  Inv X ae σ (upd H a ob) { s with heap:=h',toks:=t' } :=
 I.write (x:=a) (e:=a) mu (.inl rfl) (fun b q hb z=>(hs.2 b hb).trans z) he new
theorem yZ{P:L8}{w:P2}{H':Hp}{h':L9}{kvs:List (Key×V)}{vs:List (Key×s0)}(z:kvs.length<=J0) (hd:(a==T1)=false) (rel:KV kvs vs) (dd:h'.DictOf (aO P w) a vs) :
  cu P w H' h' a (.dK kvs):=⟨z,hd,vs,rel,dd⟩
theorem tu{H':Hp}{Q:Unit->I0->Prop}(hu:A.units+1<X7) (I:Inv X ae σ H s) (g:pP H a y v H') (ry:aD y u) (rv:aD v r) (h:∀s',Inv X ae σ H' s'->Q () s') :
  K5 (L3 X.prog X.w) A (setItem (.ref a) u r) Q E s:=by
 rcases g with⟨kvs,k,e,ey,l,eH⟩|⟨kvs,k,b,e,ey,eb,l,eH⟩
 ·subst ey eH
  obtain⟨z,hd,vs,rel,dd⟩:=qI I.hok e
  have hz:vs.length<=J0:=by rw[<-rel.length];exact z
  have hl:(dO kvs k v).length<=J0:=by have:=gO kvs k v;omega
  refine wpAny_setItem_pairs (hsz:=hz) (kG ry) dd fun h' dd' hs=>h _ ?_
  have he:∃q,h'.get? a=some q:=let⟨q,_,_,hq,_⟩:=dd';⟨q,hq⟩
  exact ji I (by rw[e];exact V9) hs he (yZ hl hd (rel.put k rv) dd')
 ·subst ey eH
  cases(show u=O2 b from ry)
  obtain⟨z,hd,xs,rel,dd⟩:=CG I.hok e
  have hz:xs.length<=J0:=by rw[<-aa0 rel];exact z
  have hl:(dO kvs k v).length<=J0:=by have:=gO kvs k v;omega
  refine wpAny_setItem_heap (hsz:=hz) (V1 hu) (i4 I.hok eb) dd fun h' dd' hs=>h _ ?_
  obtain⟨q,es,ep,hq,h2,h3,h4,_,h5⟩:=dd'
  refine ji I (by rw[e];exact V9) hs ⟨q,hq⟩ ⟨hl,hd,_,(rel.put k eb rv).keeps fun c ys ec=>?_,q,es,ep,hq,h2,h3,h4,h5⟩
  rw[aI (CU ec e (fun z=>nomatch z))]
  exact ec
end
/-! ### readings and rules -/
def lH(i:K4):Prop:=∀ov iv,aa5 i false ov iv=operate [ov,iv] (Y8 ov iv)
theorem uZ{prog:L8}{w:P2}{A:O3}{E:s0->I0->Prop}{s:I0}{env:Env}{value slice:K4}{pos:Pos}{T id:String}{Q:s0->I0->Prop}
  (hl:typeLookup (.type T) "__getitem__"=W0 (some (.builtin id))) (hs:lH slice)
  (h:K5 (L3 prog w) A (T7 value env) (fun o s₁=>K5 (L3 prog w) A (T7 slice env) (fun i s₂=>s₂.TypeIs o T/\K5 (L3 prog w) A (Y8 o i) Q E s₂) E s₁) E s) :
  K5 (L3 prog w) A (T7 (.Subscript value slice pos) env) Q E s:=by
 refine ac6 (S5 h (fun o s₁ h₁=>S5 h₁ (fun i s₂ h₂=>?_) fun _ _ x=>x) fun _ _ x=>x)
 obtain⟨hT,h₂⟩:=h₂
 unfold subscriptTail
 refine t3 ?_
 rw[getitemInPython_of_ne hT.not_modules]
 refine t3 (wpAny_specialOf hT hl ?_)
 have fin:K5 (L3 prog w) A (aa5 slice false o i) (fun r s₃=>K5 (L3 prog w) A (letTemporaryGo value o r >>= fun _=>W0 r) Q E s₃) E s₂:=by
  rw[hs o i]
  exact wpAny_operating (S5 h₂ (fun r s₃ h₃=>t3 (wpAny_letTemporaryGo (J3 h₃))) fun _ _ x=>x)
 first
  |exact J3 (t3 fin)
  |exact t3 (J3 (t3 fin))
  |exact t3 fin
theorem qS{X:Cx}{ae:List (J9×Obj)}{σ:St}{H:Hp}{s:I0}{a:J9}{y:V}{o:Option V}(I:Inv X ae σ H s) (g:gz H a y o):s.TypeIs (.ref a) "dict":=by
 rcases g with⟨kvs,k,e,_,_⟩|⟨kvs,k,b,e,_,_,_⟩
 ·obtain⟨_,_,vs,_,dd⟩:=mW I.hok e
  exact dd.typeIs
 ·obtain⟨_,_,xs,_,dd⟩:=kL I.hok e
  exact dd.typeIs
def Gk(td ty:TE):TE:=fun σ H Q=>td σ H fun x H1=>ty σ H1 fun y H2=>∃a v,x=.ref a/\gz H2 a y (some v)/\Q v H2
def F1(ty td:TE):TE:=fun σ H Q=>ty σ H fun y H1=>td σ H1 fun x H2=>∃a o,x=.ref a/\gz H2 a y o/\Q (.bl o.isSome) H2
def vJ(ty td:TE):TE:=fun σ H Q=>ty σ H fun y H1=>td σ H1 fun x H2=>∃a o,x=.ref a/\gz H2 a y o/\Q (.bl (!o.isSome)) H2
def FC(td ty tv:TE):TS:=fun D σ H=>tv σ H fun v H1=>td σ H1 fun x H2=>ty σ H2 fun y H3=>∃a H4,x=.ref a/\pP H3 a y v H4/\D.nx σ H4
section
variable{X:Cx}{o i e value:K4}{pos pos' tpos:Pos}{td ty tv:TE}
theorem p6(hu:X.A.units+1<X7) (ho:PE X o td) (hi:PE X i ty) (hs:lH i):PE X (.Subscript o i pos) (Gk td ty):=by
 intro ae s σ H Q I h
 refine uZ PySem.F.slot_dict_getitem.lookup hs (thn (ho ae s σ H _ I h) fun u s1 ⟨x,H1,I1,rx,q1⟩=>thn (hi ae s1 σ H1 _ I1 q1) fun iv s2 ⟨y,H2,I2,ry,a,v,ex,g,q2⟩=>?_)
 subst ex
 obtain rfl:u=O2 a:=rx
 exact⟨qS I2 g,tV hu I2 g ry fun w' s3 I3 rw'=>⟨v,H2,I3,rw',q2⟩⟩
theorem Ft(hu:X.A.units+1<X7) (hi:PE X i ty) (ho:PE X o td):PC X .In i o (F1 ty td):=by
 intro ae s σ H Q I h
 refine thn (hi ae s σ H _ I h) fun iv s1 ⟨y,H1,I1,ry,q1⟩=>thn (ho ae s1 σ H1 _ I1 q1) fun u s2 ⟨x,H2,I2,rx,a,ov,ex,g,q2⟩=>?_
 subst ex
 obtain rfl:u=O2 a:=rx
 exact F3 hu I2 g ry fun s3 I3=>⟨.bl ov.isSome,H2,I3,rfl,q2⟩
theorem wL(hu:X.A.units+1<X7) (hi:PE X i ty) (ho:PE X o td):PC X .NotIn i o (vJ ty td):=by
 intro ae s σ H Q I h
 refine thn (hi ae s σ H _ I h) fun iv s1 ⟨y,H1,I1,ry,q1⟩=>thn (ho ae s1 σ H1 _ I1 q1) fun u s2 ⟨x,H2,I2,rx,a,ov,ex,g,q2⟩=>?_
 subst ex
 obtain rfl:u=O2 a:=rx
 exact zg hu I2 g ry fun s3 I3=>⟨.bl (!ov.isSome),H2,I3,rfl,q2⟩
theorem pU(hu:X.A.units+1<X7) (ho:PE X o td) (hi:PE X i ty) (hv:PE X value tv) (hs:U7 value (some (.Subscript o i pos')) pos.line X.env=W0 false) :
  PS X (.Assign [.Subscript o i pos'] value pos) (FC td ty tv):=by
 intro ae s σ H D I h
 refine wpAny_Assign_Subscript (thn (hv ae s σ H _ I h) fun r s1 ⟨v,H1,I1,rv,q1⟩=>thn (ho ae s1 σ H1 _ I1 q1) fun u s2 ⟨x,H2,I2,rx,q2⟩=>thn (hi ae s2 σ H2 _ I2 q2) fun iv s3 ⟨y,H3,I3,ry,a,H4,ex,g,q3⟩=>?_) hs
 subst ex
 obtain rfl:u=O2 a:=rx
 exact tu hu I3 g ry rv fun s4 I4=>⟨σ,H4,I4,q3⟩
end
/-! ### displays -/
theorem zO{P:L8}{w:P2}{H:Hp}(h:L9) (hb:T1<h.objs.size):cu P w H (h.push { cls:=.type "dict",data:=.dict #[] }) h.objs.size (.dK []) :=
 ⟨U1 _,beq_eq_false_iff_ne.mpr (W9 (K0 hb)),[],.nil,L9.DictOf.new h⟩
theorem qT{P:L8}{w:P2}{H:Hp}(h:L9) (hb:T1<h.objs.size):cu P w H (h.push { cls:=.type "dict",data:=.dict #[] }) h.objs.size (.dT []) :=
 ⟨U1 _,beq_eq_false_iff_ne.mpr (W9 (K0 hb)),[],.nil,_,#[],0,J6 _ rfl,⟨rfl,rfl,rfl⟩,rfl,rfl,List.nodup_nil⟩
def EL:TE:=fun _ H Q=>∀p,H p=none->Q (.ref p) (upd H p (.dT []))
section
variable{X:Cx}{pos:Pos}
theorem yt:PE X (.Dict [] [] pos) EL:=fun ae s σ H Q I h =>
 wpAny_Dict_empty ⟨.ref s.heap.objs.size,_,I.laid (a:=s.heap.objs.size) (o:=.dT []) (t':=s.toks) (fun _ _ q=>u8 _ q) (J4 _) (qT s.heap I.big),rfl,h _ (I.hok.fresh (J4 _))⟩
end
def sC:List (TE×TE)->St->Hp->(List (V×V)->Hp->Prop)->Prop
 |[],_,H,Q=>Q [] H
 |(tk,tv)::r,σ,H,Q=>tk σ H fun x H1=>tv σ H1 fun y H2=>sC r σ H2 fun ps H3=>Q ((x,y)::ps) H3
abbrev VV:List (V×V)->List (s0×s0)->Prop:=S0 fun p q=>aD p.1 q.1/\aD p.2 q.2
def PPs(X:Cx) (pos:Pos) (keys:List (Option K4)) (values:List K4) (trs:List (TE×TE)):Prop :=
 ∀(ae:List (J9×Obj)) (s:I0) (σ:St) (H:Hp) (Q:List (V×V)->Hp->Prop),Inv X ae σ H s->sC trs σ H Q ->
  K5 (L3 X.prog X.w) X.A (evalPairs (pairTrees keys values X.env pos)) (fun vs s'=>∃ps H',Inv X ae σ H' s'/\VV ps vs/\Q ps H') X.xe s
theorem B8{X:Cx}{pos:Pos}:PPs X pos [] [] []:=fun ae s σ H Q I h=>pairTrees_nil_walk ⟨[],H,I,.nil,h⟩
theorem xu{X:Cx}{pos:Pos}{k v:K4}{ks:List (Option K4)}{vs:List K4}{tk tv:TE}{trs:List (TE×TE)}(hk:PE X k tk) (hv:PE X v tv) (hr:PPs X pos ks vs trs) :
  PPs X pos (some k::ks) (v::vs) ((tk,tv)::trs):=fun ae s σ H Q I h =>
 pairTrees_cons_walk (thn (hk ae s σ H _ I h) fun u s1 ⟨x,H1,I1,rx,q1⟩=>thn (hv ae s1 σ H1 _ I1 q1) fun w2 s2 ⟨y,H2,I2,ry,q2⟩ =>
  thn (hr ae s2 σ H2 _ I2 q2) fun ws s3 ⟨ps,H3,I3,rel,q3⟩=>⟨(x,y)::ps,H3,I3,.cons ⟨rx,ry⟩ rel,q3⟩)
def iW(kvs more:List (Key×V)):List (Key×V):=more.foldl (fun acc kv=>dO acc kv.1 kv.2) kvs
theorem KV.merge:∀{more:List (Key×V)}{rs:List (Key×s0)}{kvs:List (Key×V)}{vs:List (Key×s0)},KV more rs->KV kvs vs->KV (iW kvs more) (merged vs rs):=by
 intro more rs kvs vs r
 unfold KV at r
 induction r generalizing kvs vs with
 |nil=>intro q;exact q
 |@cons p q ps qs h t ih =>
  intro r0
  have e:KV (dO kvs p.1 p.2) (stored vs q.1 q.2):=by
   have:=r0.put p.1 h.2
   rw[<-h.1];exact this
  exact ih e
theorem iF:∀(more kvs:List (Key×V)),(iW kvs more).length<=kvs.length+more.length
 |[],kvs=>by show kvs.length<=kvs.length+0;omega
 |p::r,kvs=>by
  have h1:=iF r (dO kvs p.1 p.2)
  have h2:=gO kvs p.1 p.2
  show(iW (dO kvs p.1 p.2) r).length<=_
  rw[N9];omega
theorem mr{P:L8}{w:P2}:∀{kvs:List (Key×V)}{ws:List (s0×s0)},VV (kvs.map fun kv=>(kV kv.1,kv.2)) ws->∃rs,Carries (aO P w) ws rs/\KV kvs rs
 |[],_,r=>by rw[List.map_nil]at r;cases r;exact⟨[],V9,.nil⟩
 |p::kvs,_,r=>by
  rw[N2]at r
  cases r with
  |@cons a b as bs h t =>
   obtain⟨rs,c,q⟩:=mr (P:=P) (w:=w) t
   obtain⟨b1,b2⟩:=b
   exact⟨(p.1,b2)::rs,⟨kG h.1,rfl,c⟩,.cons ⟨rfl,h.2⟩ q⟩
def G2(trs:List (TE×TE)):TE:=fun σ H Q=>∀p,H p=none->sC trs σ (upd H p (.dK [])) fun ps H2=>H2 p=some (.dK [])/\∃kvs:List (Key×V),ps=kvs.map (fun kv=>(kV kv.1,kv.2))/\kvs.length<=15/\Q (.ref p) (upd H2 p (.dK (iW [] kvs)))
theorem AY{X:Cx}{pos:Pos}{keys:List (Option K4)}{values:List K4}{trs:List (TE×TE)}(h:PPs X pos keys values trs) (hall:keys.all (·.isSome)=true) (hl:keys.length=values.length) (h0:keys≠[])
  (h15:keys.length<=15):PE X (.Dict keys values pos) (G2 trs):=by
 intro ae s σ H Q I q
 have hn:=I.hok.fresh (J4 s.heap.objs.size)
 have I1:=I.laid (a:=s.heap.objs.size) (o:=.dK []) (h':=s.heap.push { cls:=.type "dict",data:=.dict #[] }) (t':=s.toks) (fun _ _ q=>u8 _ q) (J4 _) (zO s.heap I.big)
 refine wpAny_Dict_walk (knd:=aO X.prog X.w) hall hl h0 h15 (thn (h ae _ σ _ _ I1 (q _ hn)) fun ws s2 ⟨ps,H2,I2,rel,e,kvs,ep,lk,q2⟩=>?_)
 subst ep
 obtain⟨rs,c,rk⟩:=mr (P:=X.prog) (w:=X.w) rel
 obtain⟨z,hd,vs0,r0,dd⟩:=qI I2.hok e
 cases r0
 refine⟨rs,c,dd,fun h' dd' hs=>⟨.ref s.heap.objs.size,_,?_,rfl,q2⟩⟩
 have hz:(iW [] kvs).length<=J0:=by
  have h1:=iF kvs []
  rw[W3]at h1
  rw[aa2];omega
 have he:∃q,h'.get? s.heap.objs.size=some q:=let⟨q,_,_,hq,_⟩:=dd';⟨q,hq⟩
 exact ji I2 (by rw[e];exact V9) hs he (yZ hz hd (rk.merge .nil) dd')
/-! ### methods -/
structure M1(X:Cx) (o:K4) (m:Str) (aW:Pos) (e:K4) (aG:Pos):Prop where
 base:U2 o m X.env (T7 o X.env)=T7 o X.env
 few:((T3 aG (J5 [e] X.env)).all (fun x=>!x.1)&&(ac5 aG (Y9 [] X.env)).all (fun x=>x.1.isSome)
 &&decide (([e]:List K4).length+([]:List X8).length+(if([]:List X8).isEmpty then 0 else 1)<30))=true
 line:(aW.endLine==aG.line)=true
 trees:T3 aG (J5 [e] X.env)=[(false,T7 e X.env)]
structure M2(X:Cx) (o:K4) (m:Str) (aW:Pos) (e f:K4) (aG:Pos):Prop where
 base:U2 o m X.env (T7 o X.env)=T7 o X.env
 few:((T3 aG (J5 [e,f] X.env)).all (fun x=>!x.1)&&(ac5 aG (Y9 [] X.env)).all (fun x=>x.1.isSome)
 &&decide (([e,f]:List K4).length+([]:List X8).length+(if([]:List X8).isEmpty then 0 else 1)<30))=true
 line:(aW.endLine==aG.line)=true
 trees:T3 aG (J5 [e,f] X.env)=[(false,T7 e X.env),(false,T7 f X.env)]
def IsD(H:Hp) (a:J9):Prop:=(∃kvs,Rd H a (.dK kvs))∨∃kvs,Rd H a (.dT kvs)
theorem tN{X:Cx}{ae:List (J9×Obj)}{σ:St}{H:Hp}{s:I0}{a:J9}(I:Inv X ae σ H s) (d:IsD H a) :
  s.TypeIs (.ref a) "dict"/\(∀b,O2 a=.ref b->∃ob,s.heap.get? b=some ob/\ob.dict=none)/\(a==T1)=false:=by
 rcases d with⟨kvs,e⟩|⟨kvs,e⟩
 ·obtain⟨_,hd,vs,_,dd⟩:=mW I.hok e
  refine⟨dd.typeIs,fun b q=>?_,hd⟩
  cases q
  obtain⟨ob,_,_,h1,h2,_⟩:=dd
  exact⟨ob,h1,h2.2.1⟩
 ·obtain⟨_,hd,xs,_,dd⟩:=kL I.hok e
  refine⟨dd.typeIs,fun b q=>?_,hd⟩
  cases q
  obtain⟨ob,_,_,h1,h2,_⟩:=dd
  exact⟨ob,h1,h2.2.1⟩
section
variable{X:Cx}{ae:List (J9×Obj)}{σ:St}{H:Hp}{s:I0}{a:J9}{y d:V}{u r:s0}{o:Option V}{A:O3}{E:s0->I0->Prop}
theorem A4{Q:s0->I0->Prop}(hu:A.units+1<X7) (I:Inv X ae σ H s) (g:gz H a y o) (ry:aD y u) (rd:aD d r) (h:∀w' s',Inv X ae σ H s'->aD (o.getD d) w'->Q w' s') :
  K5 (L3 X.prog X.w) A (call (.builtin "dict.get") [.ref a,u,r]) Q E s:=by
 rcases g with⟨kvs,k,e,ey,l⟩|⟨kvs,k,b,e,ey,eb,l⟩
 ·subst ey
  obtain⟨z,hd,vs,rel,dd⟩:=mW I.hok e
  refine call_meetsIn PySem.F.slot_dict_get dd.typeIs PySem.F.entry_dict_get (PySem.F.args_dict_get_3 _ _ _) (meets_dict_get_default (aO X.prog X.w) a (kG ry) hd r) ⟨_,dd.mapOf,h _ _ (I.tok _) ?_⟩
  rw[l]
  exact(rel.val k).getD rd
 ·subst ey
  cases(show u=O2 b from ry)
  obtain⟨z,hd,xs,rel,dd⟩:=kL I.hok e
  refine call_meetsIn PySem.F.slot_dict_get dd.typeIs PySem.F.entry_dict_get (PySem.F.args_dict_get_3 _ _ _) (meetsH_dict_get_default (aa8 (aO X.prog X.w)) a b hd r) ⟨V1 hu,k,xs,i4 I.hok eb,dd,h _ _ (I.tok _) ?_⟩
  rw[l]
  exact(rel.val k).getD rd
end
def Di(td ty tx:TE):TE:=fun σ H Q=>td σ H fun x H1=>∃a,x=.ref a/\IsD H1 a/\ty σ H1 fun y H2=>tx σ H2 fun z H3=>∃o,gz H3 a y o/\Q (o.getD z) H3
section
variable{X:Cx}{o e f:K4}{aW aG:Pos}{td ty tx:TE}
theorem mv(hu:X.A.units+1<X7) (ho:PE X o td) (he:PE X e ty) (hf:PE X f tx) (m:M2 X o "get" aW e f aG):PE X (.Call (.Attribute o "get" aW) [e,f] [] aG) (Di td ty tx):=by
 intro ae s σ H Q I h
 refine wpAny_Call_method m.base m.few m.line PySem.F.plainAttrs_dict PySem.F.slot_dict_get PySem.F.type_dict_get (thn (ho ae s σ H _ I h) fun u s1 ⟨x,H1,I1,rx,a,ex,d,q1⟩=>?_)
 subst ex
 obtain rfl:u=O2 a:=rx
 obtain⟨t1,t2,_⟩:=tN I1 d
 refine⟨t1,t2,?_⟩
 rw[m.trees]
 refine Calls.callWith_builtin rfl (Calls.evalArgs_plain (Calls.spliced_cons (thn (he ae s1 σ H1 _ I1 q1) fun iv s2 ⟨y,H2,I2,ry,q2⟩ =>
  Calls.spliced_cons (thn (hf ae s2 σ H2 _ I2 q2) fun fv s3 ⟨z,H3,I3,rz,ov,g,q3⟩=>Calls.spliced_nil ?_))))
 exact A4 hu I3 g ry rz fun w' s4 I4 rw'=>⟨_,H3,I4,rw',q3⟩
end
/-! ### dict(d): a copy -/
/-! ### a dict's pairs: keys that differ -/
/-! a list aa1 with one clause,run over the layer's own judgements -/
def ay(X:Cx) (scope:U9) (cl:List (Str×J9)) (N:List Str) (C:J9) (s:I0) (H:Hp) (ex:List J9):Cx where
 prog:=X.prog
 w:=X.w
 K:=X.K
 mg:=X.mg
 base:=X.base
 A:=X.A
 N:=N
 s₀:=s
 H₀:=H
 env:=ac9 scope cl C X.env
 outer:=X.stack
 stack:=X.stack
 ex:=ex
 calm:=X.calm
 fn:=fun _=>false
 pn:=[]
 xe:=fun _ _=>False
def bV:List Bool->St->St
 |true::ms,v::σ=>v::bV ms σ
 |false::ms,_::σ=>none::bV ms σ
 |[],_::σ=>none::bV [] σ
 |_,[]=>[]
theorem bM:∀(ms:List Bool) (σ:St),(bV ms σ).length=σ.length
 |true::ms,v::σ=>by simp[bV,bM ms σ]
 |false::ms,_::σ=>by simp[bV,bM ms σ]
 |[],_::σ=>by simp[bV,bM [] σ]
 |[],[]=>by simp[bV]
 |true::_,[]=>by simp[bV]
 |false::_,[]=>by simp[bV]
theorem ij:∀{ms:List Bool}{σ:St}{i:Nat}{v:V},(bV ms σ)[i]?=some (some v)->ms[i]?=some true/\σ[i]?=some (some v)
 |true::ms,v::σ,0,x,h=>by simpa[bV]using h
 |true::ms,v::σ,i+1,x,h=>by
  have:=ij (ms:=ms) (σ:=σ) (i:=i) (v:=x) (by simpa[bV]using h)
  simpa using this
 |false::ms,_::σ,0,x,h=>by simp[bV]at h
 |false::ms,_::σ,i+1,x,h=>by
  have:=ij (ms:=ms) (σ:=σ) (i:=i) (v:=x) (by simpa[bV]using h)
  simpa using this
 |[],_::σ,0,x,h=>by simp[bV]at h
 |[],_::σ,i+1,x,h=>by
  have:=ij (ms:=[]) (σ:=σ) (i:=i) (v:=x) (by simpa[bV]using h)
  simpa using this
 |[],[],_,_,h=>by simp[bV]at h
 |true::_,[],_,_,h=>by simp[bV]at h
 |false::_,[],_,_,h=>by simp[bV]at h
def dm(ms:List Bool) (k:Nat) (σ:St):St:=bV ms σ++K2 k none
theorem oB{ms:List Bool}{k:Nat}{σ:St}{i:Nat}{v:V}(h:(dm ms k σ)[i]?=some (some v)):i<σ.length/\ms[i]?=some true/\σ[i]?=some (some v):=by
 unfold dm at h
 by_cases hi:i<(bV ms σ).length
 ·rw[N6 hi]at h
  exact⟨by rwa [bM]at hi,ij h⟩
 ·rw[S1 (by omega),U4]at h
  split at h<;>cases h
structure cI(X:Cx) (scope:U9) (cl:List (Str×J9)) (ms:List Bool) (ah:List Str):Prop where
 kind:scope.kind=.function
 ncell:∀y∈scope.names,y.2≠.cell
 names:∀y∈scope.names,y.2=.local->scope.names.lookup y.1=some .local
 clos:closureFor scope X.env=W0 cl
 sub:∀x c,cl.lookup x=some c->X.env.cells.lookup x=some c
 has:∀x,scope.names.lookup x=some .free->∃c,cl.lookup x=some c
 fr:∀x,scope.names.lookup x=some .free->X.env.scope.names.lookup x=some .cell∨X.env.scope.names.lookup x=some .free
 mask:∀(i:Nat) (x:Str),ms[i]?=some true->X.N[i]?=some x->scope.names.lookup x=some .free
 mlen:ms.length<=X.N.length
theorem jy{env:Env}:∀{names:List (Str×K8)}{x:Str}{k:K8},
  (names.map fun(n,k)=>if(k==M7&&env.scope.kind==.function&&env.kindOf n==some .cell)then(n,Q8)else(n,k)).lookup x=some k->(∀y∈names,y.2≠.cell)->k=.cell∨k=.free->names.lookup x=some .free
 |[],_,_,h,_,_=>by simp at h
 |(n,k0)::r,x,k,h,hc,hk=>by
  have ih:=@jy env r x k
  have h:S9 x ((if(k0==M7&&env.scope.kind==.function&&env.kindOf n==some .cell)=true then(n,Q8)else(n,k0))::_)=some k:=h
  cases hx:x==n with
  |true =>
   by_cases hq:(k0==M7&&env.scope.kind==.function&&env.kindOf n==some .cell)=true
   ·have:k0=.free:=by
     simp at hq
     exact hq.1.1
    subst this
    simp[K7,hx]
   ·rw[if_neg hq]at h
    simp only[K7,hx]at h
    cases h
    rcases hk with rfl|rfl
    ·exact absurd rfl (hc (n,.cell) N8)
    ·simp[K7,hx]
  |false =>
   by_cases hq:(k0==M7&&env.scope.kind==.function&&env.kindOf n==some .cell)=true
   ·rw[if_pos hq]at h
    simp only[K7,hx]at h ⊢
    exact ih h (fun y hy=>hc y (L5 _ hy)) hk
   ·rw[if_neg hq]at h
    simp only[K7,hx]at h ⊢
    exact ih h (fun y hy=>hc y (L5 _ hy)) hk
theorem fL{env:Env}:∀{names:List (Str×K8)}{x:Str},names.lookup x=some .free ->
  (names.map fun(n,k)=>if(k==M7&&env.scope.kind==.function&&env.kindOf n==some .cell)then(n,Q8)else(n,k)).lookup x=some .cell ∨
  (names.map fun(n,k)=>if(k==M7&&env.scope.kind==.function&&env.kindOf n==some .cell)then(n,Q8)else(n,k)).lookup x=some .free
 |[],_,h=>by simp at h
 |(n,k0)::r,x,h=>by
  have ih:=@fL env r x
  show S9 x ((if(k0==M7&&env.scope.kind==.function&&env.kindOf n==some .cell)=true then(n,Q8)else(n,k0))::_)=_∨S9 x ((if(k0==M7&&env.scope.kind==.function&&env.kindOf n==some .cell)=true then(n,Q8)else(n,k0))::_)=_
  cases hx:x==n with
  |true =>
   simp only[K7,hx]at h
   cases h
   split
   ·left;simp[K7,hx]
   ·right;simp[K7,hx]
  |false =>
   simp only[K7,hx]at h
   split<;>(simp only[K7,hx];exact ih h)
section
variable{X:Cx}{ae:List (J9×Obj)}{σ:St}{H H2:Hp}{s s2:I0}{scope:U9}{cl:List (Str×J9)}{ms:List Bool}{ah:List Str}
theorem tD(I:Inv X ae σ H s) (S:cI X scope cl ms ah) {fp:List J9}(hfp:∀b∈fp,cJ X ae H b) (hlt:∀b∈fp,b<s.heap.objs.size) {C:J9}(hC:s.heap.objs.size<=C) :
  (ay X scope cl (X.N++ah) C s H fp).Ok where
 mod:=I.ok.mod
 kind:=S.kind
 glob:=I.ok.glob
 blt:=I.ok.blt
 above:=hC
 inj:=fun x y c h1 h2=>I.ok.inj x y c (S.sub x c h1) (S.sub y c h2)
 has:=fun x hx=>S.has x (jy (env:=X.env) (k:=if(ay X scope cl (X.N++ah) C s H fp).env.kindOf x=some .cell then .cell else .free) (by
  rcases hx with hx|hx
  ·rw[if_pos hx];exact hx
  ·rw[if_neg (by rw[hx];decide)];exact hx) S.ncell (by split<;>simp))
 cab:=fun x c h=>by cases h
 hd:=I.ok.hd
 frames:=I.ok.frames
 stk:=.inl rfl
 exf:=fun b hb=>⟨K0 (J8 (hlt b hb) hC),fun x c e=>(hfp b hb).2.2.2.2.1 x c (S.sub x c e)⟩
 bs:=I.bs
 bsz:=M9 I.ok.bsz I.sz
 noex:=fun b o e hb=>by
  rcases(hfp b hb).2.2.2.1 with z|z
  ·exact I.ok.noex b o e z
  ·exact absurd (J8 (J7 e) (M9 I.ok.bsz z)) (P7 _)
 exfs:=fun b hb z=>by
  rcases O4.mp (I.stkSub b z)with e|e
  ·exact(hfp b hb).2.1 e
  ·exact(hfp b hb).2.2.1 e
 funs:=I.stack
 frf:=I.stkFree
theorem vL(I:Inv X ae σ H s) (S:cI X scope cl ms ah) {fp:List J9}(hfp:∀b∈fp,cJ X ae H b) (hlt:∀b∈fp,b<s.heap.objs.size) {C:J9}(hC:s.heap.objs.size<=C)
  (os:s2.os=s.os) (bare:Z3 s2.gens) (keep:∀b o,s.heap.get? b=some o->s2.heap.get? b=some o) {m:Str->Option s0} (hn:s2.heap.Ns C m) :
  Inv (ay X scope cl (X.N++ah) C s H fp) [] (dm ms ah.length σ) H s2 where
 ok:=tD I S hfp hlt hC
 os:=os
 bare:=bare
 base:=Un.kept keep
 loc:=⟨m,hn,fun i x v h1 h2 h3=>by
  obtain⟨hi,hm,hv⟩:=oB h2
  have hiN:i<X.N.length:=by rw[<-I.len];exact hi
  have hx:X.N[i]?=some x:=by
   have h1':(X.N++ah)[i]?=some x:=h1
   rwa [N6 hiN]at h1'
  have hf:=S.mask i x hm hx
  obtain⟨m0,hn0,hl⟩:=I.loc
  obtain⟨u,r,l⟩:=hl i x v hx hv (by rcases S.fr x hf with z|z<;>simp[Vis,z])
  refine⟨u,r,.inr ⟨?_,?_⟩⟩
  ·exact fL (env:=X.env) hf
  ·obtain⟨c,hc⟩:=S.has x hf
   have hc':=S.sub x c hc
   rcases l with⟨k,_⟩|⟨_,c',e,z⟩
   ·rcases S.fr x hf with z|z<;>(have k':X.env.scope.names.lookup x=some .local:=k;rw[z]at k';cases k')
   ·rw[hc']at e;cases e
    obtain⟨o,ho,hd⟩:=z
    exact⟨c,hc,o,keep _ _ ho,hd⟩⟩
 cell:=fun x c e=>by
  obtain⟨v,o,ho,hd⟩:=I.cell x c (S.sub x c e)
  exact⟨v,o,keep _ _ ho,hd⟩
 free:=I.hok.fresh hC
 freeC:=fun x c e=>I.freeC x c (S.sub x c e)
 pin:=fun p hp=>absurd (show p∈([]:List (J9×Obj))from hp) (by simp)
 hok:=I.hok.kept keep
 len:=by
  unfold dm
  rw[N4,bM,List.length_replicate,I.len]
  show _=(X.N++ah).length
  rw[N4]
end
def PIf(X:Cx) (ifs:List K4) (t:TT):Prop :=
 ∀(ae:List (J9×Obj)) (s:I0) (σ:St) (H:Hp) (Q:Bool->Hp->Prop),Inv X ae σ H s->t σ H Q ->
  K5 (L3 X.prog X.w) X.A (forIn ifs true fun c r=>if r=true then do let ok <-isTrue c X.env (T7 c X.env);W0 (R7 ok)else W0 (R7 r)) (TP X ae σ Q) X.xe s
def IC:TT:=fun _ H Q=>Q true H
theorem B4{X:Cx}:PIf X [] IC:=fun _ _ _ H _ I h=>wpAny_tests_nil ⟨H,I,h⟩
theorem Bs{X:Cx}{c:K4}{t:TT}(h:PT X c t):PIf X [c] t:=fun ae s σ H Q I q=>wpAny_tests_one (h ae s σ H Q I q)
abbrev bS(its:List s0) (n:Nat):Obj:={ cls:=.type "list",data:=.seq its.toArray n }
def lP(J:It) (g:TG) (tc:TT) (te:TE) (W:Nat->Nat->List V->St->Hp->Prop) (Z:List V->Hp->Prop):Prop :=
 ∀i m ys σ H,W i m ys σ H->ys.length<=J0/\((J.stop i H/\Z ys H) ∨
  (J.go i H/\∀x H',J.yld i H x H'->g x σ H' fun σ2 H2=>tc σ2 H2 fun b H3=>if b=true then te σ2 H3 fun y H4=>∃m',m'<m/\W (i+1) m' (ys++[y]) σ2 H4 else ∃m',m'<m/\W (i+1) m' ys σ2 H3))
theorem du{prog:L8}{w:P2}{A:O3}{R:Result->I0->Prop}{s:I0}{elt target iter:K4}{ifs:List K4}{scope:U9}{pos:Pos}{it acc:s0}{env:Env}(I:Nat->I0->Prop)
  (turn:∀ n s,I n s → K5 (L3 prog w) A (pyNext it) (fun r s₁ => match r with
   |none=>R (.ok .next) s₁
   | some v => K5 (L3 prog w) A (Y5 target it v) (fun _ s₁ => K5 (L3 prog w) A (X9 target env v) (fun _ s₂ =>
     K5 (L3 prog w) A (forIn ifs true fun c r=>if r=true then do let ok <-isTrue c env (T7 c env);W0 (R7 ok)else W0 (R7 r)) (fun ok s₃ =>
      if ok=true then K5 (L3 prog w) A (T7 elt env) (fun x s₄ =>
       K5 (L3 prog w) A (call (.builtin "list.append") [acc,x]) (fun _ s₅=>∃m,m<n/\I m s₅) (fun _ _=>False) s₄) (fun _ _=>False) s₃
      else ∃m,m<n/\I m s₃) (fun _ _=>False) s₂) (fun _ _=>False) s₁) (fun _ _=>False) s₁) (fun _ _=>False) s)
  (n:Nat) (h:I n s) :
  Z4 (L3 prog w) A (.compLoop (.ListComp elt [⟨target,iter,ifs,0⟩] scope pos) 0 it acc env) R s:=by
 refine codeAny_loop rfl I (fun n s hI=>?_) n h
 show K5 _ A ((compTurn (.ListComp elt [⟨target,iter,ifs,0⟩] scope pos) 0 it acc env).onRaise (fun x=>do noteFrame x env;theTreesLotGoes x)) _ _ s
 refine wpAny_noted ?_
 rw[compTurn_list]
 refine t3 (wpAny_standAt (t3 (S5 (turn n s hI) (fun r s₁ h₁=>?_) fun _ _ h'=>h'.elim)))
 cases r with
 |none=>exact J3 h₁
 |some v =>
  refine t3 (S5 h₁ (fun _ s1 h₁=>?_) fun _ _ h'=>h'.elim)
  refine t3 (S5 h₁ (fun _ s₂ h₂=>t3 (S5 h₂ (fun ok s₃ h₃=>?_) fun _ _ h'=>h'.elim)) fun _ _ h'=>h'.elim)
  cases ok with
  |false=>exact J3 ⟨rfl,h₃⟩
  |true =>
   exact t3 (t3 (S5 h₃ (fun x s₄ h₄=>t3 (S5 h₄ (fun _ s₅ h₅=>J3 (J3 ⟨rfl,h₅⟩)) fun _ _ h'=>h'.elim)) fun _ _ h'=>h'.elim))
section
variable{X:Cx}{ae:List (J9×Obj)}{σ:St}{H2:Hp}{s2:I0}{scope:U9}{cl:List (Str×J9)}{ms:List Bool}{ah:List Str}{tg iter elt:K4}{ifs:List K4}{g:TG}{tc:TT}{te:TE}{pos:Pos}
theorem oE(S:cI X scope cl ms ah) (bt:X.calm=true)
  (hg:∀C s H ex,PG (ay X scope cl (X.N++ah) C s H ex) tg g) (hif:∀C s H ex,PIf (ay X scope cl (X.N++ah) C s H ex) ifs tc) (he:∀C s H ex,PE (ay X scope cl (X.N++ah) C s H ex) elt te)
  (I2:Inv X ae σ H2 s2) {it:J9} {fp:List J9} {tn:Nat->L9->Prop} {J:It} (T:gK X.prog X.w X.K tg J fp it tn) (st2:tn 0 s2.heap) (f2:∀b∈fp,cJ X ae H2 b)
  {W:Nat->Nat->List V->St->Hp->Prop} {Z:List V->Hp->Prop} {m0:Nat} (w0:W 0 m0 [] (dm ms ah.length σ) H2) (turn:lP J g tc te W Z)
  {RR:s0->J9->Result->I0->Prop} {E:s0->I0->Prop}
  (hRR:∀ (s':I0) (ys:List V) (its:List s0) (n:Nat) (σ':St) (H':Hp),Inv (ay X scope cl (X.N ++ ah) (s2.heap.objs.size + 1) s2 H2 fp) [(s2.heap.objs.size,bS its n)] σ' H' s' → aA ys its → ys.length ≤ J0 → Z ys H' →
   RR (.ref s2.heap.objs.size) (s2.heap.objs.size+1) (.ok .next) s') :
  K5 (L3 X.prog X.w) X.A (newList []) (fun acc s₃=>K5 (L3 X.prog X.w) X.A (Z6 scope X.env.globals cl [] X.env.qual none .none (some X.env)) (fun cenv s₄ =>
   Z4 (L3 X.prog X.w) X.A (.compStart (.ListComp elt [⟨tg,iter,ifs,0⟩] scope pos) 0 (.ref it) acc { cenv with scope:=aa6 scope X.env }) (RR acc cenv.locals) s₄) E s₃) E s2:=by
 refine N3 (wpAny_newFunctionEnv S.ncell (by intro y hy;simp at hy) (fun h₁ hns₁ hsb₁=>?_) S.kind)
 dsimp only at hns₁ hsb₁ ⊢
 have hsz:(s2.heap.push { cls:=.type "list",dict:=none,data:=.seq ([]:List s0).toArray }).objs.size=s2.heap.objs.size+1:=by rw[R0]
 rw[hsz]at hns₁ hsb₁ ⊢
 have hlt:∀b∈fp,b<s2.heap.objs.size:=fun b hb=>by
  obtain⟨o,e,_⟩:=T.obj _ _ st2 b hb
  exact J7 e
 have old:∀b o,s2.heap.get? b=some o->h₁.get? b=some o:=fun b o e=>hsb₁.extBut b o (K0 (N7 (J7 e))) (u8 _ (u8 _ e))
 have hacc:h₁.get? s2.heap.objs.size=some (bS [] 0):=hsb₁.extBut _ _ (K0 (P1 _)) (u8 _ (J6 _ rfl))
 have hDn:H2 s2.heap.objs.size=none:=I2.hok.fresh (J4 _)
 have hDfs:∀b,s2.heap.objs.size<=b->b∉(ay X scope cl (X.N++ah) (s2.heap.objs.size+1) s2 H2 fp).fs:=fun b hb z=>by
  rcases O4.mp (I2.stkSub b z)with e|e
  ·subst e;exact absurd (J8 I2.lt hb) (P7 _)
  ·exact I2.nofs hb e
 have loop:∀s₃:I0,s₃={ s2 with heap:=h₁,toks:=s2.toks+([]:List (Str×s0)).length } ->
   Z4 (L3 X.prog X.w) X.A (.compLoop (.ListComp elt [⟨tg,iter,ifs,0⟩] scope pos) 0 (.ref it) (.ref s2.heap.objs.size) (ac9 scope cl (s2.heap.objs.size+1) X.env)) (RR (.ref s2.heap.objs.size) (s2.heap.objs.size+1)) s₃:=by
  rintro s₃ rfl
  have I3:Inv (ay X scope cl (X.N++ah) (s2.heap.objs.size+1) s2 H2 fp) [] (dm ms ah.length σ) H2 { s2 with heap:=h₁,toks:=s2.toks+([]:List (Str×s0)).length } :=
   vL I2 S f2 hlt (Y7 _) rfl I2.bare old hns₁
  have fpc:∀{H:Hp} {n:Nat} {its:List s0},(∀b∈fp,H b=none)->∀b∈fp,cJ (ay X scope cl (X.N++ah) (s2.heap.objs.size+1) s2 H2 fp) [(s2.heap.objs.size,bS its n)] H b:=fun hn b hb =>
   ⟨hn b hb,K0 (N7 (hlt b hb)),(tD I2 S f2 hlt (Y7 _)).exfs b hb,.inl hb,fun x c e=>(f2 b hb).2.2.2.2.1 x c (S.sub x c e),fun p hp=>by
    have:p=(s2.heap.objs.size,_):=O5.mp (show p∈[(s2.heap.objs.size,_)]from hp)
    subst this
    exact V8 (hlt b hb)⟩
  refine du (env:=ac9 scope cl (s2.heap.objs.size+1) X.env)
   (fun n s'=>∃i ys its nn σ' H',Inv (ay X scope cl (X.N++ah) (s2.heap.objs.size+1) s2 H2 fp) [(s2.heap.objs.size,bS its nn)] σ' H' s'/\aA ys its/\tn i s'.heap/\(∀b∈fp,H' b=none)/\W i n ys σ' H') ?_ m0
   ⟨0,[],[],0,_,H2,I3.pins_of fun p hp=>?_,.nil,T.keep _ _ _ st2 fun b _ o e=>old b o e,fun b hb=>(f2 b hb).1,w0⟩
  ·rintro n s' ⟨i,ys,its,nn,σ',H',I4,rv,st4,fr4,w4⟩
   obtain⟨hz,h⟩:=turn i n ys σ' H' w4
   rcases h with⟨stop,hZ⟩|⟨go,step⟩
   ·refine thn (T.done (ay X scope cl (X.N++ah) (s2.heap.objs.size+1) s2 H2 fp) rfl rfl rfl bt i _ s' _ H' (fun _ _=>False) I4 (fpc fr4) st4 stop) fun r s4 ⟨hr,I5⟩=>?_
    subst hr
    exact hRR s4 ys its nn σ' H' I5 rv hz hZ
   ·refine thn (T.item (ay X scope cl (X.N++ah) (s2.heap.objs.size+1) s2 H2 fp) rfl rfl rfl bt i _ s' _ H' (fun _ _=>False) I4 (fpc fr4) st4 go) fun r s5 ⟨u,hr,h5⟩=>?_
    subst hr
    refine thn h5 fun _ s6 ⟨x,H6,I6,r6,y6,st6,fr6⟩=>?_
    have I6':=I6.pinned (fpc fr6) (T.obj _ _ st6)
    refine thn (hg _ _ _ _ _ s6 _ H6 x u _ I6' r6 (step x H6 y6)) fun _ s7 ⟨σ7,H7,I7,q7⟩=>?_
    refine thn (hif _ _ _ _ _ s7 σ7 H7 _ I7 q7) fun ok s8 ⟨H8,I8,q8⟩=>?_
    have keepfp:∀{σ9:St} {H9:Hp} {s9:I0},Inv (ay X scope cl (X.N++ah) (s2.heap.objs.size+1) s2 H2 fp) ([(s2.heap.objs.size,bS its nn)]++fX fp s6.heap) σ9 H9 s9->tn (i+1) s9.heap/\∀b∈fp,H9 b=none:=fun {σ9 H9 s9} I9 =>
     ⟨T.keep _ _ _ st6 fun b hb o e=>(I9.pin (b,o) (K1 _ (K1 _ (cv hb e)))).1,fun b hb=>by
      obtain⟨o,e,d⟩:=T.obj _ _ st6 b hb
      exact(I9.pin (b,o) (K1 _ (K1 _ (cv hb e)))).2.1⟩
    cases ok with
    |false =>
     obtain⟨m',hm,w8⟩:=q8
     obtain⟨a8,b8⟩:=keepfp I8
     exact⟨m',hm,i+1,ys,its,nn,σ7,H8,I8.unpinned,rv,a8,b8,w8⟩
    |true =>
     refine thn (he _ _ _ _ _ s8 σ7 H8 _ I8 q8) fun v s9 ⟨y,H9,I9,r9,q9⟩=>?_
     obtain⟨m',hm,w9⟩:=q9
     obtain⟨a9,b9⟩:=keepfp I9
     have pacc:=I9.pin (s2.heap.objs.size,bS its nn) (K1 _ (V3 _ N8))
     have hzi:its.toArray.size<=J0:=by rw[J1,<-rv.length];exact hz
     refine PySem.wpAny_list_append_plain (hsz:=hzi) ⟨nn,pacc.1⟩ fun h' hl' hs'=>?_
     obtain⟨n',hl'⟩:=hl'
     have hne:∀x c,(ay X scope cl (X.N++ah) (s2.heap.objs.size+1) s2 H2 fp).env.cells.lookup x=some c->c≠s2.heap.objs.size:=fun x c e=>by
      obtain⟨v,o,ho,_⟩:=I2.cell x c (S.sub x c e)
      exact K0 (J7 ho)
     have I10:Inv (ay X scope cl (X.N++ah) (s2.heap.objs.size+1) s2 H2 fp) [] σ7 H9 { s9 with heap:=h' } :=
      Inv.turned (t':=s9.toks) (it:=s2.heap.objs.size) (I9.pins_of fun p hp=>absurd hp (by simp)) (fun b o hb e=>(hs'.2 b hb).trans e) pacc.2.1 pacc.2.2.1 (.inr (J4 _)) hne (fun p hp=>absurd (show p∈([]:List (J9×Obj))from hp) (by simp))
     refine⟨m',hm,i+1,ys++[y],its++[v],n',σ7,H9,I10.pins_of fun p hp=>?_,rv.append (.cons r9 .nil),T.keep _ _ _ a9 fun b hb o e=>(hs'.2 b (K0 (hlt b hb))).trans e,b9,w9⟩
     have e:p=(s2.heap.objs.size,bS (its++[v]) n'):=O5.mp hp
     subst e
     refine⟨?_,pacc.2.1,pacc.2.2.1,pacc.2.2.2.1,fun v z=>by cases z⟩
     rw[hl']
     simp[bS]
  ·have e:p=(s2.heap.objs.size,bS [] 0):=O5.mp hp
   subst e
   exact⟨hacc,hDn,K0 (P1 _),hDfs _ (J4 _),fun v z=>by cases z⟩
 exact codeAny_compStart_list (loop _ rfl) (T.self _ 0 _ _ _ (T.keep _ _ _ st2 fun b _ o e=>old b o e) (loop _ rfl))
end
section
variable{X:Cx}{ae:List (J9×Obj)}{σ σ':St}{H2 H':Hp}{s2 s':I0}{scope:U9}{cl:List (Str×J9)}{ms:List Bool}{ah:List Str}{tg iter elt:K4}{ifs:List K4}{g:TG}{tc:TT}{te:TE}{pos:Pos}
theorem ka(I2:Inv X ae σ H2 s2) {fp:List J9}(f2:∀b∈fp,cJ X ae H2 b) {its:List s0}{n:Nat}{ys:List V}
  (I':Inv (ay X scope cl (X.N++ah) (s2.heap.objs.size+1) s2 H2 fp) [(s2.heap.objs.size,bS its n)] σ' H' s') (rv:aA ys its) (hz:ys.length<=J0) {h':L9} (hs:S7 (s2.heap.objs.size+1) s'.heap h') :
  Inv X ae σ (upd H' s2.heap.objs.size (.lst ys)) { s' with heap:=h' }/\H' s2.heap.objs.size=none:=by
 have pacc:=I'.pin (s2.heap.objs.size,bS its n) (K1 _ N8)
 have hC:H' (s2.heap.objs.size+1)=none:=I'.free
 have hD:H' s2.heap.objs.size=none:=pacc.2.1
 have up:∀b o,b≠s2.heap.objs.size+1->s'.heap.get? b=some o->h'.get? b=some o:=fun b o hb e=>(hs.2 b hb).trans e
 have nD:∀b u,H' b=some u->b≠s2.heap.objs.size:=fun b u e z=>by rw[z,hD]at e;cases e
 have nC:∀b u,H' b=some u->b≠s2.heap.objs.size+1:=fun b u e z=>by rw[z,hC]at e;cases e
 have hacc:h'.get? s2.heap.objs.size=some (bS its n):=up _ _ (K0 (P1 _)) pacc.1
 have hok:HOk X.prog X.w (upd H' s2.heap.objs.size (.lst ys)) h':=fun b u e=>by
  by_cases hb:b=s2.heap.objs.size
  ·subst hb
   rw[aC]at e;cases e
   exact⟨hz,its,n,rv,hacc⟩
  ·rw[aI hb]at e
   refine(I'.hok b u e).stay (fun c v hc q=>up c v ?_ q) (fun c q=>by rw[aI (nD c _ q)];exact q) fun c xs q=>by rw[aI (nD c _ q)];exact q
   rcases hc with rfl|hc
   ·exact nC _ _ e
   ·exact nC _ _ hc
 have un:Un (frs X.stack) fp H2 (upd H' s2.heap.objs.size (.lst ys)) s2.heap h':=by
  have U:=I'.base
  have ltD:∀b o,s2.heap.get? b=some o->b≠s2.heap.objs.size:=fun b o e=>K0 (J7 e)
  have ltC:∀b o,s2.heap.get? b=some o->b≠s2.heap.objs.size+1:=fun b o e=>K0 (N7 (J7 e))
  refine⟨fun b o e nb hb hx=>up b o (ltC b o e) (U.keep b o e nb hb hx),fun b o e nb hb hx=>?_,fun b o e nb hx=>by rw[aI (ltD b o e)];exact U.free b o e nb hx,fun b o e hx=>?_,
   fun b xs e=>by have q:=U.tups b xs e;rw[aI (nD b _ q)];exact q,fun b o u e=>by have q:=U.frzs b o u e;rw[aI (nD b _ q)];exact q,fun b ps e=>?_⟩
  ·obtain⟨sl,q⟩:=U.slot b o e nb hb hx
   exact⟨sl,up b _ (ltC b o e) q⟩
  ·obtain⟨o',q⟩:=U.there b o e hx
   exact⟨o',up b _ (ltC b o e) q⟩
  ·obtain⟨more,q⟩:=U.tbls b ps e
   exact⟨more,by rw[aI (nD b _ q)];exact q⟩
 exact⟨I2.call' (s':={ s' with heap:=h' }) (ch:=fp) I'.os un hok I'.bare fun b hb=>⟨(f2 b hb).2.2.2.1,(f2 b hb).2.1,(f2 b hb).2.2.2.2.1,(f2 b hb).2.2.2.2.2⟩,hD⟩
def tLc(ms:List Bool) (k:Nat) (wi:TI) (g:TG) (tc:TT) (te:TE):TE:=fun σ H Q=>wi σ H fun J H1=>∃(W:Nat->Nat->List V->St->Hp->Prop) (Z:List V->Hp->Prop),(∃m,W 0 m [] (dm ms k σ) H1)/\lP J g tc te W Z /\
 ∀ys H p,Z ys H->H p=none->Q (.ref p) (upd H p (.lst ys))
theorem GT(S:cI X scope cl ms ah) (bt:X.calm=true) {wi:TI}(hi:PI X tg iter wi)
  (hg:∀C s H ex,PG (ay X scope cl (X.N++ah) C s H ex) tg g) (hif:∀C s H ex,PIf (ay X scope cl (X.N++ah) C s H ex) ifs tc) (he:∀C s H ex,PE (ay X scope cl (X.N++ah) C s H ex) elt te)
  (hs:∀x,O0 iter X.env x=W0 x:=by intro _;rfl):PE X (.ListComp elt [⟨tg,iter,ifs,0⟩] scope pos) (tLc ms ah.length wi g tc te):=by
 intro ae s σ H Q I h
 rw[eval_ListComp]
 refine wpAny_comprehension_free (use:=none) rfl hs S.clos S.kind S.names (thn (hi ae s σ H _ I h) fun v s1 h1=>thn h1 fun itv s2 h2=>?_)
 obtain⟨it,fp,tn,J,H2,e,I2,T,st2,f2,W,Z,⟨m0,w0⟩,turn,q⟩:=h2
 subst e
 refine oE S bt hg hif he I2 T st2 f2 w0 turn (RR:=fun acc C=>compPost (L3 X.prog X.w) X.A X.xe none (EP X ae σ Q) acc C) ?_
 intro s' ys its n σ' H' I' rv hz hZ
 obtain⟨m,hm,_⟩:=I'.loc
 refine⟨m,hm,fun h' hs'=>?_⟩
 obtain⟨I3,hD⟩:=ka I2 f2 I' rv hz hs'
 exact⟨.ref s2.heap.objs.size,_,I3,rfl,q ys H' _ hZ hD⟩
theorem y0{i:Nat}{x:Str}{spos pos':Pos}(hN:X.N.Nodup) (hix:X.N[i]?=some x) (hx:X.env.scope.names.lookup x=some .local)
  (hsw:U7 (.ListComp elt [⟨tg,iter,ifs,0⟩] scope pos) (some (.Name x pos')) spos.line X.env=W0 true)
  (S:cI X scope cl ms ah) (bt:X.calm=true) {wi:TI} (hi:PI X tg iter wi)
  (hg:∀C s H ex,PG (ay X scope cl (X.N++ah) C s H ex) tg g) (hif:∀C s H ex,PIf (ay X scope cl (X.N++ah) C s H ex) ifs tc) (he:∀C s H ex,PE (ay X scope cl (X.N++ah) C s H ex) elt te)
  (hs:∀x,O0 iter X.env x=W0 x:=by intro _;rfl):PS X (.Assign [.Name x pos'] (.ListComp elt [⟨tg,iter,ifs,0⟩] scope pos) spos) (E3 (tLc ms ah.length wi g tc te) (oP i)):=by
 intro ae s σ H D I h
 rw[exec_Assign_Name_used _ _ _ _ hsw]
 refine t3 (wpAny_standAt (t3 ?_))
 show K5 _ _ (do let _ <-aa1 (.ListComp elt [⟨tg,iter,ifs,0⟩] scope pos) scope X.env _ (newList []) false (T7 iter X.env) (some (X9 (.Name x pos') X.env))) _ _ s
 refine t3 (S5 (wpAny_comprehension_free (use:=some (X9 (.Name x pos') X.env)) (Q:=fun _ s'=>SP X ae D .next s') rfl hs S.clos S.kind S.names
  (thn (hi ae s σ H _ I h) fun v s1 h1=>thn h1 fun itv s2 h2=>?_)) (fun _ s' hq=>J3 (J3 hq)) fun _ _ e=>e)
 obtain⟨it,fp,tn,J,H2,e,I2,T,st2,f2,W,Z,⟨m0,w0⟩,turn,q⟩:=h2
 subst e
 refine oE S bt hg hif he I2 T st2 f2 w0 turn (RR:=fun acc C=>compPost (L3 X.prog X.w) X.A X.xe (some (X9 (.Name x pos') X.env)) (fun _ s'=>SP X ae D .next s') acc C) ?_
 intro s' ys its n σ' H' I' rv hz hZ
 obtain⟨m,hm,_⟩:=I'.loc
 obtain⟨I3,hD⟩:=ka I2 f2 I' rv hz (S7.refl (s2.heap.objs.size+1) s'.heap)
 have hq:=q ys H' _ hZ hD
 show K5 _ _ (X9 (.Name x pos') X.env (.ref s2.heap.objs.size)) _ _ _
 refine wpAny_assign_Name (oO I3 hN hix (.inl hx) (v:=.ref s2.heap.objs.size) rfl (fun s4 I4 hsame=>?_) (.inr hx))
 obtain⟨a,hsb,ha⟩:=hsame
 have hLC:s2.heap.objs.size+1≠X.env.locals:=V8 (N7 I2.lt)
 have haC:s2.heap.objs.size+1≠a:=by
  rcases ha with rfl|ha
  ·exact hLC
  ·intro z
   obtain⟨v,o,ho,_⟩:=I2.cell x a ha
   exact absurd (N7 (J7 ho)) (by rw[<-z];exact P7 _)
 have hCn:upd H' s2.heap.objs.size (.lst ys) (s2.heap.objs.size+1)=none:=by rw[aI (V8 (P1 _))];exact I'.free
 refine⟨m,hm.sameBut hsb haC,fun h' hs'=>?_⟩
 refine⟨_,_,?_,hq⟩
 have hL:∀b o,b≠s2.heap.objs.size+1->s4.heap.get? b=some o->h'.get? b=some o:=fun b o hb e=>(hs'.2 b hb).trans e
 have I5:=Inv.turned (t':=s4.toks) (h':=h') (it:=s2.heap.objs.size+1) I4 (fun b o hb e=>hL b o hb e) hCn hLC (.inr (Nat.le_succ_of_le I2.sz)) (fun y c e=>by
  obtain⟨v,o,ho,_⟩:=I2.cell y c e
  exact K0 (N7 (J7 ho))) (fun p hp=>by
  exact K0 (N7 (J7 (I2.pin p hp).1)))
 exact I5
end
/-! ### deep data: tuples and lists that stay as they are stand as values;ref: the address of a cell that is ours to change -/
inductive Bx where
 |dk (ks:List Key)|dt (ks:List (List Key))|ins (C:J9) (fs:List Str)|key
 deriving Inhabited
inductive D where
 |non|bl (b:Bool)|int (i:Int)|str (x:Str)|tup (ds:List D)|lst (ds:List D)|scr (ds:List D)|emp|ref (a:J9)|box (t:Bx) (ds:List D)
 deriving Inhabited
inductive HD where
 |lst (ds:List D)|dK (kvs:List (Key×D))|dT (kvs:List (List Key×D))|dKr (o:Obj) (ks:List (Key×V)) (kvs:List (Key×D))|ins (C:J9) (fs:List (Str×D))
 deriving Inhabited
abbrev DH:=J9->Option HD
def aw(M:DH) (a:J9) (o:HD):DH:=fun b=>if b=a then some o else M b
def fK(M:DH) (a:J9):DH:=fun b=>if b=a then none else M b
abbrev noM:DH:=fun _=>none
theorem aj{M:DH}{a:J9}{o:HD}:aw M a o a=some o:=if_pos rfl
theorem au{M:DH}{a b:J9}{o:HD}(h:b≠a):aw M a o b=M b:=if_neg h
theorem aF{M:DH}{a:J9}{o u:HD}:aw (aw M a o) a u=aw M a u:=by
 funext b;unfold aw;split<;>rfl
theorem df{M:DH}{a:J9}:fK M a a=none:=if_pos rfl
theorem lD{M:DH}{a b:J9}(h:b≠a):fK M a b=M b:=if_neg h
theorem dn{M:DH}{a:J9}{o:HD}(h:M a=none):fK (aw M a o) a=M:=by
 funext b;unfold fK aw;split
 ·rename_i e;rw[e,h]
 ·rfl
theorem nS{M:DH}{a:J9}{o:HD}(h:M a=some o):aw M a o=M:=by
 funext b;unfold aw;split
 ·rename_i e;rw[e,h]
 ·rfl
def oT(K:o0) (M:DH) (H:Hp) (a:J9) (vs:List V):Prop:=(Rd H a (.tup vs)/\M a=none)∨SqT K (fun _=>none) a vs
def vg(M:DH) (H:Hp) (a:J9) (vs:List V):Prop:=H a=some (.lst vs)/\M a=none
def n9(K:o0) (M:DH) (H:Hp) (a:J9) (vs:List V):Prop:=((∃o,H a=some (.frz o (.lst vs)))/\M a=none)∨SqL K (fun _=>none) a vs
def GM(M:DH) (H:Hp) (a:J9):Prop:=H a=some (.dK [])/\M a=none
def gp(M:DH) (H:Hp) (a:J9):Bx->List V->Prop
 |.dk ks,vs=>ks.length=vs.length/\(∃o,H a=some (.frz o (.dK (ks.zip vs))))/\M a=none
 |.dt ks,vs=>ks.length=vs.length/\(∃o,H a=some (.frz o (.dT (ks.zip vs))))/\M a=none
 |.ins C fs,vs=>fs.length=vs.length/\(∃dx,H a=some (.ins C dx (fs.zip vs)))/\M a=none
 |.key,vs=>True/\(∃_u:Unit,H a=some (.tup vs))/\M a=none
mutual
def Rep(K:o0) (M:DH) (H:Hp):D->V->Prop
 |.non,v=>v=.non
 |.bl b,v=>v=.bl b
 |.int i,v=>v=.int i
 |.str x,v=>v=.str x
 |.tup ds,v=>∃a vs,v=.ref a/\oT K M H a vs/\aq K M H ds vs
 |.lst ds,v=>∃a vs,v=.ref a/\vg M H a vs/\aq K M H ds vs
 |.scr ds,v=>∃a vs,v=.ref a/\n9 K M H a vs/\aq K M H ds vs
 |.emp,v=>∃a,v=.ref a/\GM M H a
 |.ref a,v=>v=.ref a
 |.box t ds,v=>∃a vs,v=.ref a/\gp M H a t vs/\aq K M H ds vs
def aq(K:o0) (M:DH) (H:Hp):List D->List V->Prop
 |[],vs=>vs=[]
 |d::ds,vs=>∃v ws,vs=v::ws/\Rep K M H d v/\aq K M H ds ws
end
def Ext(M:DH) (H:Hp) (M':DH) (H':Hp):Prop:=∀a o,H a=some o->M a=none->H' a=some o/\M' a=none
theorem Ext.refl(M:DH) (H:Hp):Ext M H M H:=fun _ _ h n=>⟨h,n⟩
theorem Ext.trans{M M1 M2:DH}{H H1 H2:Hp}(a:Ext M H M1 H1) (b:Ext M1 H1 M2 H2):Ext M H M2 H2:=fun c o h n=>b c o (a c o h n).1 (a c o h n).2
variable{K:o0}{M M' M1 M2:DH}{H H' H1 H2:Hp}
theorem oT.ext{a:J9}{vs:List V}(h:oT K M H a vs) (e:Ext M H M' H'):oT K M' H' a vs:=by
 rcases h with⟨r|⟨o,r⟩,n⟩|h
 ·exact .inl ⟨.inl (e a _ r n).1,(e a _ r n).2⟩
 ·exact .inl ⟨.inr ⟨o,(e a _ r n).1⟩,(e a _ r n).2⟩
 ·exact .inr h
theorem vg.ext{a:J9}{vs:List V}(h:vg M H a vs) (e:Ext M H M' H'):vg M' H' a vs:=e a _ h.1 h.2
theorem n9.ext{a:J9}{vs:List V}(h:n9 K M H a vs) (e:Ext M H M' H'):n9 K M' H' a vs:=by
 rcases h with⟨⟨o,r⟩,n⟩|h
 ·exact .inl ⟨⟨o,(e a _ r n).1⟩,(e a _ r n).2⟩
 ·exact .inr h
theorem gp.ext{a:J9}{t:Bx}{vs:List V}(h:gp M H a t vs) (e:Ext M H M' H'):gp M' H' a t vs:=by
 cases t<;>(obtain⟨l,⟨o,r⟩,n⟩:=h;exact⟨l,⟨o,(e a _ r n).1⟩,(e a _ r n).2⟩)
mutual
theorem Rep.ext:∀{d:D}{v:V},Rep K M H d v->Ext M H M' H'->Rep K M' H' d v
 |.non,_,h,_=>h
 |.bl _,_,h,_=>h
 |.int _,_,h,_=>h
 |.str _,_,h,_=>h
 |.ref _,_,h,_=>h
 |.emp,_,h,e=>by
  simp only[Rep]at h ⊢
  obtain⟨a,rfl,h1,h2⟩:=h
  exact⟨a,rfl,e a _ h1 h2⟩
 |.tup ds,_,h,e=>by
  simp only[Rep]at h ⊢
  obtain⟨a,vs,rfl,h1,h2⟩:=h
  exact⟨a,vs,rfl,h1.ext e,aq.ext h2 e⟩
 |.lst ds,_,h,e=>by
  simp only[Rep]at h ⊢
  obtain⟨a,vs,rfl,h1,h2⟩:=h
  exact⟨a,vs,rfl,h1.ext e,aq.ext h2 e⟩
 |.scr ds,_,h,e=>by
  simp only[Rep]at h ⊢
  obtain⟨a,vs,rfl,h1,h2⟩:=h
  exact⟨a,vs,rfl,h1.ext e,aq.ext h2 e⟩
 |.box t ds,_,h,e=>by
  simp only[Rep]at h ⊢
  obtain⟨a,vs,rfl,h1,h2⟩:=h
  exact⟨a,vs,rfl,h1.ext e,aq.ext h2 e⟩
theorem aq.ext:∀{ds:List D}{vs:List V},aq K M H ds vs->Ext M H M' H'->aq K M' H' ds vs
 |[],_,h,_=>h
 |d::ds,_,h,e=>by
  simp only[aq]at h ⊢
  obtain⟨v,ws,rfl,h1,h2⟩:=h
  exact⟨v,ws,rfl,Rep.ext h1 e,aq.ext h2 e⟩
end
theorem aq.length:∀{ds:List D}{vs:List V},aq K M H ds vs->ds.length=vs.length
 |[],_,h=>by simp only[aq]at h;subst h;rfl
 |d::ds,_,h=>by
  simp only[aq]at h
  obtain⟨v,ws,rfl,h1,h2⟩:=h
  simp[aq.length h2]
theorem aq.nil:aq K M H [] []:=by simp[aq]
theorem aq.cons{d:D}{v:V}{ds:List D}{vs:List V}(h:Rep K M H d v) (t:aq K M H ds vs):aq K M H (d::ds) (v::vs):=by
 simp only[aq];exact⟨v,vs,rfl,h,t⟩
theorem aq.append:∀{ds es:List D}{vs ws:List V},aq K M H ds vs->aq K M H es ws->aq K M H (ds++es) (vs++ws)
 |[],_,_,_,h,t=>by simp only[aq]at h;subst h;exact t
 |d::ds,es,_,ws,h,t=>by
  simp only[aq]at h
  obtain⟨v,us,rfl,h1,h2⟩:=h
  exact aq.cons h1 (aq.append h2 t)
theorem aq.get:∀{ds:List D}{vs:List V}{i:Nat}{d:D},aq K M H ds vs->ds[i]?=some d->∃v,vs[i]?=some v/\Rep K M H d v
 |[],_,_,_,_,e=>by simp at e
 |d::ds,_,0,x,h,e=>by
  simp only[aq]at h
  obtain⟨v,us,rfl,h1,h2⟩:=h
  simp at e;subst e
  exact⟨v,rfl,h1⟩
 |d::ds,_,i+1,x,h,e=>by
  simp only[aq]at h
  obtain⟨v,us,rfl,h1,h2⟩:=h
  obtain⟨w,a,b⟩:=aq.get (i:=i) (d:=x) h2 (by simpa using e)
  exact⟨w,by simpa using a,b⟩
theorem aq.take:∀{ds:List D}{vs:List V}(n:Nat),aq K M H ds vs->aq K M H (ds.take n) (vs.take n)
 |ds,vs,0,_=>by simp[aq]
 |[],_,n+1,h=>by simp only[aq]at h;subst h;simp[aq]
 |d::ds,_,n+1,h=>by
  simp only[aq]at h
  obtain⟨v,us,rfl,h1,h2⟩:=h
  exact aq.cons h1 (aq.take n h2)
theorem aq.drop:∀{ds:List D}{vs:List V}(n:Nat),aq K M H ds vs->aq K M H (ds.drop n) (vs.drop n)
 |ds,vs,0,h=>h
 |[],_,n+1,h=>by simp only[aq]at h;subst h;simp[aq]
 |d::ds,_,n+1,h=>by
  simp only[aq]at h
  obtain⟨v,us,rfl,h1,h2⟩:=h
  exact aq.drop n h2
theorem aq.set:∀{ds:List D}{vs:List V}{d:D}{v:V}(n:Nat),aq K M H ds vs->Rep K M H d v->aq K M H (ds.set n d) (vs.set n v)
 |[],_,_,_,n,h,r=>by simp only[aq]at h;subst h;simp[aq]
 |d::ds,_,_,_,0,h,r=>by
  simp only[aq]at h
  obtain⟨v,us,rfl,h1,h2⟩:=h
  exact aq.cons r h2
 |d::ds,_,_,_,n+1,h,r=>by
  simp only[aq]at h
  obtain⟨v,us,rfl,h1,h2⟩:=h
  exact aq.cons h1 (aq.set n h2 r)
theorem aq.one{d:D}{vs:List V}(h:aq K M H [d] vs):∃v,vs=[v]/\Rep K M H d v:=by
 simp only[aq]at h
 obtain⟨v,us,rfl,h1,rfl⟩:=h
 exact⟨v,rfl,h1⟩
def KR(K:o0) (M:DH) (H:Hp) {κ:Type}:List (κ×D)->List (κ×V)->Prop:=S0 fun p q=>p.1=q.1/\Rep K M H p.2 q.2
theorem KR.ext{κ:Type}{kvs:List (κ×D)}{ks:List (κ×V)}(h:KR K M H kvs ks) (e:Ext M H M' H'):KR K M' H' kvs ks:=S0.imp' (fun _ _ r=>⟨r.1,r.2.ext e⟩) h
def md(K:o0) (M:DH) (H:Hp) (a:J9):HD->Prop
 |.lst ds=>∃vs,H a=some (.lst vs)/\aq K M H ds vs
 |.dK kvs=>∃ks,H a=some (.dK ks)/\KR K M H kvs ks
 |.dT kvs=>∃ks,H a=some (.dT ks)/\KR K M H kvs ks
 |.dKr o ks kvs=>∃_u:Unit,H a=some (.frz o (.dK ks))/\KR K M H kvs ks
 |.ins C fs=>∃gs,(∃dx,H a=some (.ins C dx gs))/\KR K M H fs gs
def HR(K:o0) (M:DH) (H:Hp):Prop:=∀a o,M a=some o->md K M H a o
theorem md.some{a:J9}{o:HD}(h:md K M H a o):∃u,H a=N5 u/\∀xs,u≠.tup xs/\∀ob,u≠.frz ob (.tup xs):=by
 cases o with
 |ins C fs=>obtain⟨gs,⟨dx,r⟩,_⟩:=h;exact⟨_,r,fun xs=>⟨(by intro z;cases z),(by intro ob z;cases z)⟩⟩
 |_=>obtain⟨vs,r,_⟩:=h;exact⟨_,r,fun xs=>⟨(by intro z;cases z),(by intro ob z;cases z)⟩⟩
theorem md.keep{a:J9}{o:HD}(h:md K M H a o) (e:Ext M H M' H') (q:H' a=H a):md K M' H' a o:=by
 cases o with
 |ins C fs=>obtain⟨gs,⟨dx,r⟩,t⟩:=h;exact⟨gs,⟨dx,by rw[q];exact r⟩,t.ext e⟩
 |_=>obtain⟨vs,r,t⟩:=h;exact⟨vs,by rw[q];exact r,t.ext e⟩
theorem HR.fresh(h:HR K M H) {p:J9}(e:H p=none):M p=none:=by
 cases q:M p with
 |none=>rfl
 |some o =>
  obtain⟨u,r,_⟩:=(h p _ q).some
  rw[e]at r;cases r
theorem HR.nil:HR K noM H:=fun _ _ h=>nomatch h
theorem Ext.new{p:J9}{o:HO}(hr:HR K M H) (h:H p=none):Ext M H M (upd H p o):=fun a u e n=>by
 have:a≠p:=bW e h
 rw[aI this];exact⟨e,n⟩
theorem HR.ext1(h:HR K M H) (e:Ext M H M H') (keep:∀a o,M a=some o->H' a=H a):HR K M H':=fun a o q=>(h a o q).keep e (keep a o q)
theorem HR.new{p:J9}{o:HO}(hr:HR K M H) (h:H p=none):HR K M (upd H p o):=hr.ext1 (Ext.new hr h) fun a u q=>by
 have:a≠p:=fun z=>by rw[z,hr.fresh h]at q;cases q
 rw[aI this]
theorem Ext.own{p:J9}{o:HO}{u:HD}(h:H p=none):Ext M H (aw M p u) (upd H p o):=fun a x e n=>by
 have:a≠p:=bW e h
 rw[aI this,au this];exact⟨e,n⟩
theorem HR.put{p:J9}{o:HO}{u:HD}(hr:HR K M H) (e:Ext M H (aw M p u) (upd H p o)) (c:md K (aw M p u) (upd H p o) p u):HR K (aw M p u) (upd H p o):=fun a w q=>by
 by_cases z:a=p
 ·subst z
  rw[aj]at q;cases q
  exact c
 ·rw[au z]at q
  exact(hr a w q).keep e (aI z)
theorem HR.own{p:J9}{ds:List D}{vs:List V}(hr:HR K M H) (h:H p=none) (r:aq K M H ds vs):HR K (aw M p (.lst ds)) (upd H p (.lst vs)) :=
 hr.put (Ext.own h) ⟨vs,aC,r.ext (Ext.own h)⟩
theorem Ext.write{a:J9}{o:HO}{u w:HD}(h:M a=some w):Ext M H (aw M a u) (upd H a o):=fun b x e n=>by
 have:b≠a:=fun z=>by rw[z,h]at n;cases n
 rw[aI this,au this];exact⟨e,n⟩
theorem HR.write{a:J9}{w:HD}{ds:List D}{vs:List V}(hr:HR K M H) (h:M a=some w) (r:aq K M H ds vs):HR K (aw M a (.lst ds)) (upd H a (.lst vs)) :=
 hr.put (Ext.write h) ⟨vs,aC,r.ext (Ext.write h)⟩
/-! a smaller M: cells that are lent as they are -/
def LeM(M1 M:DH):Prop:=∀a o,M1 a=some o->M a=some o
theorem LeM.none(h:LeM M1 M) {a:J9}(n:M a=none):M1 a=none:=by
 cases q:M1 a with
 |none=>rfl
 |some o=>rw[h a o q]at n;cases n
theorem LeM.refl:LeM M M:=fun _ _ h=>h
theorem LeM.no:LeM noM M:=fun _ _ h=>nomatch h
theorem LeM.del{a:J9}:LeM (fK M a) M:=fun b o h=>by
 unfold fK at h;split at h
 ·cases h
 ·exact h
theorem Ext.le(h:LeM M1 M):Ext M H M1 H:=fun a o e n=>⟨e,h.none n⟩
theorem HR.le(hr:HR K M H) (h:LeM M1 M):HR K M1 H:=fun a o q=>(hr a o (h a o q)).keep (Ext.le h) rfl
theorem Rep.froze(hr:HR K M H) (h:LeM M1 M) {a:J9}{ds:List D}(e:M a=some (.lst ds)) (n:M1 a=none):Rep K M1 H (.lst ds) (.ref a):=by
 obtain⟨vs,r,t⟩:=hr a _ e
 simp only[Rep]
 exact⟨a,vs,rfl,⟨r,n⟩,t.ext (Ext.le h)⟩
mutual
def noL:D->Bool
 |.tup ds=>Cb ds
 |.lst _=>false
 |.scr _=>false
 |.emp=>false
 |.box _ _=>false
 |_=>true
def Cb:List D->Bool
 |[]=>true
 |d::ds=>noL d&&Cb ds
end
mutual
theorem Rep.hard:∀{d:D}{v:V},noL d=true->Rep K M H d v->(∀a xs,Rd H a (.tup xs)->M' a=none)->Rep K M' H d v
 |.non,_,_,h,_=>h
 |.bl _,_,_,h,_=>h
 |.int _,_,_,h,_=>h
 |.str _,_,_,h,_=>h
 |.ref _,_,_,h,_=>h
 |.emp,_,n,_,_=>by simp[noL]at n
 |.box _ _,_,n,_,_=>by simp[noL]at n
 |.lst _,_,n,_,_=>by simp[noL]at n
 |.scr _,_,n,_,_=>by simp[noL]at n
 |.tup ds,_,n,h,e=>by
  simp only[Rep]at h ⊢
  obtain⟨a,vs,rfl,h1,h2⟩:=h
  refine⟨a,vs,rfl,?_,aq.hard (by simpa[noL]using n) h2 e⟩
  rcases h1 with⟨r,_⟩|r
  ·exact .inl ⟨r,e a vs r⟩
  ·exact .inr r
theorem aq.hard:∀{ds:List D}{vs:List V},Cb ds=true->aq K M H ds vs->(∀a xs,Rd H a (.tup xs)->M' a=none)->aq K M' H ds vs
 |[],_,_,h,_=>h
 |d::ds,_,n,h,e=>by
  simp only[aq]at h ⊢
  obtain⟨v,ws,rfl,h1,h2⟩:=h
  simp only[Cb,L6]at n
  exact⟨v,ws,rfl,Rep.hard n.1 h1 e,aq.hard n.2 h2 e⟩
end
/-! ### the frame's names -/
abbrev DE:=List (Option D)
def SR(K:o0) (M:DH) (H:Hp) (σ:St) (Δ:DE):Prop:=σ.length=Δ.length/\∀(i:Nat) (d:D),Δ[i]?=some (some d)->∃v,σ[i]?=some (some v)/\Rep K M H d v
theorem SR.ext{σ:St}{Δ:DE}(h:SR K M H σ Δ) (e:Ext M H M' H'):SR K M' H' σ Δ:=⟨h.1,fun i d q=>let⟨v,a,r⟩:=h.2 i d q;⟨v,a,r.ext e⟩⟩
theorem SR.set{σ:St}{Δ:DE}{d:D}{v:V}(h:SR K M H σ Δ) (i:Nat) (r:Rep K M H d v):SR K M H (σ.set i (some v)) (Δ.set i (some d)):=by
 refine⟨by simp[h.1],fun j e q=>?_⟩
 by_cases hj:j=i
 ·subst hj
  by_cases hl:j<Δ.length
  ·rw[R9 hl]at q;cases q
   exact⟨v,R9 (by rw[h.1];exact hl),r⟩
  ·rw[List.getElem?_eq_none (by simp;omega)]at q;cases q
 ·rw[V4 (W9 hj)]at q ⊢
  exact h.2 j e q
abbrev TEd:=DE->DH->(D->DH->Prop)->Prop
abbrev TAd:=DE->DH->(List D->DH->Prop)->Prop
abbrev TTd:=DE->DH->(Bool->DH->Prop)->Prop
structure iG where
 nx:DE->DH->Prop
 rt:D->DH->Prop
 bk:DE->DH->Prop:=fun _ _=>False
 ct:DE->DH->Prop:=fun _ _=>False
abbrev TSd:=iG->DE->DH->Prop
def up(K:o0) (t:TEd):TE:=fun σ H Q=>∃(Δ:DE) (M:DH) (R:D->DH->Prop),SR K M H σ Δ/\HR K M H/\t Δ M R /\
 ∀d M' v H',R d M'->Ext M H M' H'->HR K M' H'->Rep K M' H' d v->Q v H'
def upA(K:o0) (t:TAd):TA:=fun σ H Q=>∃(Δ:DE) (M:DH) (R:List D->DH->Prop),SR K M H σ Δ/\HR K M H/\t Δ M R /\
 ∀ds M' vs H',R ds M'->Ext M H M' H'->HR K M' H'->aq K M' H' ds vs->Q vs H'
def upT(K:o0) (t:TTd):TT:=fun σ H Q=>∃(Δ:DE) (M:DH) (R:Bool->DH->Prop),SR K M H σ Δ/\HR K M H/\t Δ M R /\
 ∀b M' H',R b M'->Ext M H M' H'->HR K M' H'->Q b H'
structure UpE(K:o0) (E:iG) (D:ue) (M:DH) (H:Hp):Prop where
 nx:∀ Δ' M' σ' H',E.nx Δ' M'->Ext M H M' H'->HR K M' H'->SR K M' H' σ' Δ'->D.nx σ' H'
 bk:∀ Δ' M' σ' H',E.bk Δ' M'->Ext M H M' H'->HR K M' H'->SR K M' H' σ' Δ'->D.bk σ' H'
 ct:∀ Δ' M' σ' H',E.ct Δ' M'->Ext M H M' H'->HR K M' H'->SR K M' H' σ' Δ'->D.ct σ' H'
 rt:∀d M' v H',E.rt d M'->Ext M H M' H'->HR K M' H'->Rep K M' H' d v->D.rt v H'
theorem UpE.ext{E:iG}{D:ue}(u:UpE K E D M H) (e:Ext M H M' H'):UpE K E D M' H' :=
 ⟨fun a b c d h x=>u.nx a b c d h (e.trans x),fun a b c d h x=>u.bk a b c d h (e.trans x),fun a b c d h x=>u.ct a b c d h (e.trans x),fun a b c d h x=>u.rt a b c d h (e.trans x)⟩
def upS(K:o0) (t:TSd):TS:=fun D σ H=>∃(Δ:DE) (M:DH) (E:iG),SR K M H σ Δ/\HR K M H/\t E Δ M/\UpE K E D M H
def PEd(X:Cx) (e:K4) (t:TEd):Prop:=PE X e (up X.K t)
def PAd(X:Cx) (es:List K4) (t:TAd):Prop:=PA X es (upA X.K t)
def PTd(X:Cx) (e:K4) (t:TTd):Prop:=PT X e (upT X.K t)
def PWd(X:Cx) (e:K4) (t:TTd):Prop:=PW X e (upT X.K t)
def PSd(X:Cx) (st:Z7) (t:TSd):Prop:=PS X st (upS X.K t)
def jC(X:Cx) (st:List Z7) (t:TSd):Prop:=PSs X st (upS X.K t)
theorem PE.conv{X:Cx}{e:K4}{t t':TE}(h:PE X e t) (k:∀ σ H Q,t' σ H Q->t σ H Q):PE X e t':=fun p s σ H Q I q=>h p s σ H Q I (k σ H Q q)
theorem PT.conv{X:Cx}{e:K4}{t t':TT}(h:PT X e t) (k:∀ σ H Q,t' σ H Q->t σ H Q):PT X e t':=fun p s σ H Q I q=>h p s σ H Q I (k σ H Q q)
theorem PA.conv{X:Cx}{e:List K4}{t t':TA}(h:PA X e t) (k:∀ σ H Q,t' σ H Q->t σ H Q):PA X e t':=fun ps p s σ H Q I q=>h ps p s σ H Q I (k σ H Q q)
theorem PS.conv{X:Cx}{e:Z7}{t t':TS}(h:PS X e t) (k:∀D σ H,t' D σ H->t D σ H):PS X e t':=fun p s σ H D I q=>h p s σ H D I (k D σ H q)
theorem PSs.conv{X:Cx}{e:List Z7}{t t':TS}(h:PSs X e t) (k:∀D σ H,t' D σ H->t D σ H):PSs X e t':=fun p s σ H D I q=>h p s σ H D I (k D σ H q)
section
variable{X:Cx}{a b c:K4}{es:List K4}{ta tb:TEd}{pos:Pos}
def eD(i:Nat):TEd:=fun Δ M Q=>∃d,Δ[i]?=some (some d)/\Q d M
def dC(d:D):TEd:=fun _ M Q=>Q d M
theorem Hc(i:Nat) {x:Str}{pos:Pos}(hN:X.N[i]?=some x:=by rfl) (hv:Vis X.env.scope x:=by first|exact Or.inl rfl|exact Or.inr (Or.inl rfl)|exact Or.inr (Or.inr rfl)) (hd:(x==("__debug__":Str))=false:=by decide)
  (hcd:(x==("__classdict__":Str))=false:=by decide):PEd X (.Name x pos) (eD i) :=
 (C1 hN hv hd hcd).conv fun σ H Q ⟨Δ,M,R,sr,hr,⟨d,e,q⟩,k⟩=>let⟨v,ev,rv⟩:=sr.2 i d e;⟨v,ev,k d M v H q (Ext.refl _ _) hr rv⟩
theorem Gs{i j pos}:PEd X (.Constant (.int i) j pos) (dC (.int i)):=DT.conv fun σ H Q ⟨Δ,M,R,sr,hr,q,k⟩=>k _ M _ H q (Ext.refl _ _) hr (by simp[Rep])
theorem Ie{i j pos}:PEd X (.Constant (.bool i) j pos) (dC (.bl i)):=FM.conv fun σ H Q ⟨Δ,M,R,sr,hr,q,k⟩=>k _ M _ H q (Ext.refl _ _) hr (by simp[Rep])
theorem Hu{i j pos}:PEd X (.Constant (.str i) j pos) (dC (.str i)):=E5.conv fun σ H Q ⟨Δ,M,R,sr,hr,q,k⟩=>k _ M _ H q (Ext.refl _ _) hr (by simp[Rep])
theorem Gi{j pos}:PEd X (.Constant .none j pos) (dC .non):=D8.conv fun σ H Q ⟨Δ,M,R,sr,hr,q,k⟩=>k _ M _ H q (Ext.refl _ _) hr (by simp[Rep])
theorem AF{x:Str}{i:Int}{t:Tok}{pos:Pos}(hg:Gl X x) (hm:X.mg x=some (.int i t)) (hd:(x==("__debug__":Str))=false:=by decide):PEd X (.Name x pos) (dC (.int i)) :=
 (pk (v:=.int i) hg hm ⟨t,rfl⟩ hd).conv fun σ H Q ⟨Δ,M,R,sr,hr,q,k⟩=>k _ M _ H q (Ext.refl _ _) hr (by simp[Rep])
theorem BV{x y:Str}{t:Tok}{pos:Pos}(hg:Gl X x) (hm:X.mg x=some (.str y t)) (hd:(x==("__debug__":Str))=false:=by decide):PEd X (.Name x pos) (dC (.str y)) :=
 (pk (v:=.str y) hg hm ⟨t,rfl⟩ hd).conv fun σ H Q ⟨Δ,M,R,sr,hr,q,k⟩=>k _ M _ H q (Ext.refl _ _) hr (by simp[Rep])
/-! two in a row -/
def kn:TAd:=fun _ M Q=>Q [] M
def fB(ta:TEd) (tr:TAd):TAd:=fun Δ M Q=>ta Δ M fun x M1=>tr Δ M1 fun xs M2=>Q (x::xs) M2
theorem F0:PAd X [] kn:=iU.conv fun σ H Q ⟨Δ,M,R,sr,hr,q,k⟩=>k _ M _ H q (Ext.refl _ _) hr aq.nil
theorem Fg{tr:TAd}(ha:PEd X a ta) (hr:PAd X es tr) (hs:J5 (a::es) X.env=(false,T7 a X.env)::J5 es X.env:=by rfl):PAd X (a::es) (fB ta tr) :=
 (dP ha hr hs).conv fun σ H Q ⟨Δ,M,R,sr,hr,q,k⟩ => ⟨Δ,M,_,sr,hr,q,fun d M1 v H1 q1 e1 hr1 rv => ⟨Δ,M1,_,sr.ext e1,hr1,q1,fun ds M2 vs H2 q2 e2 hr2 rvs =>
  k _ M2 _ H2 q2 (e1.trans e2) hr2 (aq.cons (rv.ext e2) rvs)⟩⟩
def wW(t:TAd):TEd:=fun Δ M Q=>t Δ M fun ds M1=>ds.length<=J0/\Q (.tup ds) M1
def E7(t:TAd):TEd:=fun Δ M Q=>t Δ M fun ds M1=>ds.length<=J0/\Q (.lst ds) M1
def zh(t:TAd):TEd:=fun Δ M Q=>t Δ M fun ds M1=>ds.length<=J0/\∀p,M1 p=none->Q (.ref p) (aw M1 p (.lst ds))
theorem F6{x1}{t:TAd}(h:PAd X es t):PEd X (.Tuple es x1 pos) (wW t) :=
 (iY h).conv fun σ H Q ⟨Δ,M,R,sr,hr,q,k⟩ => ⟨Δ,M,_,sr,hr,q,fun ds M1 vs H1 ⟨z,q1⟩ e1 hr1 rv => ⟨by rw [← rv.length]; exact z,fun p hp => k _ M1 _ _ q1 (e1.trans (Ext.new hr1 hp)) (hr1.new hp) (by
  simp only[Rep];exact⟨p,vs,rfl,.inl ⟨.inl aC,hr1.fresh hp⟩,rv.ext (Ext.new hr1 hp)⟩)⟩⟩
theorem F7{t:TAd}(h:PAd X es t):PEd X (.List es pos) (E7 t) :=
 (zy h).conv fun σ H Q ⟨Δ,M,R,sr,hr,q,k⟩ => ⟨Δ,M,_,sr,hr,q,fun ds M1 vs H1 ⟨z,q1⟩ e1 hr1 rv => ⟨by rw [← rv.length]; exact z,fun p hp => k _ M1 _ _ q1 (e1.trans (Ext.new hr1 hp)) (hr1.new hp) (by
  simp only[Rep];exact⟨p,vs,rfl,⟨aC,hr1.fresh hp⟩,rv.ext (Ext.new hr1 hp)⟩)⟩⟩
theorem Do{t:TAd}(h:PAd X es t):PEd X (.List es pos) (zh t) :=
 (zy h).conv fun σ H Q ⟨Δ,M,R,sr,hr,q,k⟩ => ⟨Δ,M,_,sr,hr,q,fun ds M1 vs H1 ⟨z,q1⟩ e1 hr1 rv => ⟨by rw [← rv.length]; exact z,fun p hp => k _ _ _ _ (q1 p (hr1.fresh hp)) (e1.trans (Ext.own hp)) (hr1.own hp rv) (by
  simp only[Rep])⟩⟩
/-! ### values as they are read -/
def rdM(M:DH):D->D
 |.ref a=>match M a with|some (.lst ds)=>.lst ds|_=>.ref a
 |d=>d
def aL(K:o0) (M:DH) (H:Hp) (d:D) (v:V):Prop:=match d with
 |.tup ds=>∃a vs,v=.ref a/\SqT K H a vs/\aq K M H ds vs
 |.lst ds=>∃a vs,v=.ref a/\H a=some (.lst vs)/\aq K M H ds vs
 |.scr ds=>∃a vs,v=.ref a/\SqL K H a vs/\aq K M H ds vs
 |d=>Rep K M H d v
theorem oT.sq{K:o0}{M:DH}{H:Hp}{a:J9}{vs:List V}(h:oT K M H a vs):SqT K H a vs:=by
 rcases h with⟨h,_⟩|h
 ·exact .inl h
 ·rcases h with(h|⟨_,h⟩)|h
  ·cases h
  ·cases h
  ·exact .inr h
theorem n9.sq{K:o0}{M:DH}{H:Hp}{a:J9}{vs:List V}(h:n9 K M H a vs):SqL K H a vs:=by
 rcases h with⟨⟨o,h⟩,_⟩|h
 ·exact .inl (.inr ⟨o,h⟩)
 ·rcases h with(h|⟨_,h⟩)|h
  ·cases h
  ·cases h
  ·exact .inr h
theorem Rep.rd{K:o0}{M:DH}{H:Hp}{d:D}{v:V}(hr:HR K M H) (h:Rep K M H d v):aL K M H (rdM M d) v:=by
 cases d with
 |tup ds=>simp only[Rep]at h;obtain⟨a,vs,e,t,r⟩:=h;exact⟨a,vs,e,t.sq,r⟩
 |lst ds=>simp only[Rep]at h;obtain⟨a,vs,e,t,r⟩:=h;exact⟨a,vs,e,t.1,r⟩
 |scr ds=>simp only[Rep]at h;obtain⟨a,vs,e,t,r⟩:=h;exact⟨a,vs,e,t.sq,r⟩
 |ref a =>
  simp only[rdM]
  cases q:M a with
  |none=>exact h
  |some o =>
   cases o with
   |lst ds =>
    obtain⟨vs,e,r⟩:=hr a _ q
    simp only[Rep]at h
    exact⟨a,vs,h,e,r⟩
   |dK _=>exact h
   |dT _=>exact h
   |dKr _ _ _=>exact h
   |ins _ _=>exact h
 |non=>exact h
 |bl b=>exact h
 |int i=>exact h
 |str x=>exact h
 |emp=>exact h
 |box _ _=>exact h
def bO(X:Cx) (f:s0->s0->Sem s0) (r:D->D->Option D):Prop :=
 ∀(ae:List (J9×Obj)) (s:I0) (σ:St) (H:Hp) (M:DH) (x y:V) (v u:s0) (dx dy dz:D) (Q:VK),Inv X ae σ H s->HR X.K M H->aD x v->aD y u->aL X.K M H dx x->aL X.K M H dy y->r dx dy=some dz ->
  (∀w H',Ext M H M H'->HR X.K M H'->Rep X.K M H' dz w->Q w H')->K5 (L3 X.prog X.w) X.A (f v u) (EP X ae σ Q) X.xe s
def EK(X:Cx) (f:s0->Sem s0) (r:D->Option D):Prop :=
 ∀(ae:List (J9×Obj)) (s:I0) (σ:St) (H:Hp) (M:DH) (x:V) (v:s0) (dx dz:D) (Q:VK),Inv X ae σ H s->HR X.K M H->aD x v->aL X.K M H dx x->r dx=some dz ->
  (∀w H',Ext M H M H'->HR X.K M H'->Rep X.K M H' dz w->Q w H')->K5 (L3 X.prog X.w) X.A (f v) (EP X ae σ Q) X.xe s
def bo(X:Cx) (f:s0) (r:List D->Option D):Prop :=
 ∀(ae:List (J9×Obj)) (s:I0) (σ:St) (H:Hp) (M:DH) (xs:List V) (us:List s0) (ds:List D) (dz:D) (Q:VK),Inv X ae σ H s->HR X.K M H->aA xs us->S0 (aL X.K M H) ds xs->r ds=some dz ->
  (∀w H',Ext M H M H'->HR X.K M H'->Rep X.K M H' dz w->Q w H')->K5 (L3 X.prog X.w) X.A (call f us) (EP X ae σ Q) X.xe s
def dOp(r:D->D->Option D) (ta tb:TEd):TEd:=fun Δ M Q=>ta Δ M fun x M1=>tb Δ M1 fun y M2=>∃z,r (rdM M2 x) (rdM M2 y)=some z/\Q z M2
def dUn(r:D->Option D) (ta:TEd):TEd:=fun Δ M Q=>ta Δ M fun x M1=>∃z,r (rdM M1 x)=some z/\Q z M1
def opV(K:o0) (r:D->D->Option D):R2:=fun x y H Q=>∃dx dy dz M,HR K M H/\aL K M H dx x/\aL K M H dy y/\r dx dy=some dz/\∀w H',Ext M H M H'->HR K M H'->Rep K M H' dz w->Q w H'
theorem bO.v{f:s0->s0->Sem s0}{r:D->D->Option D}(h:bO X f r):OpR X f (opV X.K r):=fun ae s σ H x y v u Q I rx ry ⟨dx,dy,dz,M,hr,r1,r2,e,k⟩=>h ae s σ H M x y v u dx dy dz Q I hr rx ry r1 r2 e k
theorem yx{K:o0}{r:D->D->Option D}{ta tb:TEd}:∀ σ H Q,up K (dOp r ta tb) σ H Q->tOp (opV K r) (up K ta) (up K tb) σ H Q:=fun σ H Q ⟨Δ,M,R,sr,hr,q,k⟩ =>
 ⟨Δ,M,_,sr,hr,q,fun x M1 v H1 q1 e1 hr1 rv=>⟨Δ,M1,_,sr.ext e1,hr1,q1,fun y M2 u H2 ⟨z,ez,q2⟩ e2 hr2 ru=>⟨_,_,z,M2,hr2,(rv.ext e2).rd hr2,ru.rd hr2,ez,fun w H' e3 hr3 rw_=>k z M2 w H' q2 ((e1.trans e2).trans e3) hr3 rw_⟩⟩⟩
theorem Ip{op:ab5}{r:D->D->Option D}(ho:bO X (P9 op) r) (ha:PEd X a ta) (hb:PEd X b tb):PEd X (.BinOp a op b pos) (dOp r ta tb):=(Cw ho.v ha hb).conv yx
theorem Hm{op:aa7}{r:D->D->Option D}(ho:bO X (L7 op) r) (ha:PEd X a ta) (hb:PEd X b tb) (hm:P0 op b=false):PEd X (.Compare a [op] [b] pos) (dOp r ta tb):=(AR ho.v ha hb hm).conv yx
theorem Im{r:D->D->Option D}(ho:IxR X (opV X.K r)) (ha:PEd X a ta) (hb:PEd X b tb) (hs:pd b):PEd X (.Subscript a b pos) (dOp r ta tb):=(GX ho ha hb hs).conv yx
theorem HW{op:UnaryOp}{r:D->Option D}(ho:EK X (ad4 op) r) (ha:PEd X a ta):PEd X (.UnaryOp op a pos) (dUn r ta):=by
 have h:UnR X (ad4 op) (fun x H Q=>∃dx dz M,HR X.K M H/\aL X.K M H dx x/\r dx=some dz/\∀w H',Ext M H M H'->HR X.K M H'->Rep X.K M H' dz w->Q w H'):=fun ae s σ H x v Q I rx ⟨dx,dz,M,hr,r1,e,k⟩=>ho ae s σ H M x v dx dz Q I hr rx r1 e k
 exact(FD h ha).conv fun σ H Q ⟨Δ,M,R,sr,hr,q,k⟩=>⟨Δ,M,_,sr,hr,q,fun x M1 v H1 ⟨z,ez,q1⟩ e1 hr1 rv=>⟨_,z,M1,hr1,rv.rd hr1,ez,fun w H' e2 hr2 rw_=>k z M1 w H' q1 (e1.trans e2) hr2 rw_⟩⟩
/-! tests -/
def jv(t:TEd):TTd:=fun Δ M Q=>t Δ M fun x M1=>∃k,x=.bl k/\Q k M1
theorem GN{K:o0}{t:TEd}:∀ σ H Q,upT K (jv t) σ H Q->Ct (up K t) σ H Q:=fun σ H Q ⟨Δ,M,R,sr,hr,q,k⟩ =>
 ⟨Δ,M,_,sr,hr,q,fun d M1 v H1 ⟨b,e,q1⟩ e1 hr1 rv=>⟨b,by subst e;simpa only[Rep]using rv,k b M1 H1 q1 e1 hr1⟩⟩
theorem C8{op:aa7}{r:D->D->Option D}(ho:bO X (L7 op) r) (ha:PEd X a ta) (hb:PEd X b tb) (hm:P0 op b=false):PTd X (.Compare a [op] [b] pos) (jv (dOp r ta tb)):=by
 refine(Ci ho.v ha hb hm).conv fun σ H Q h=>?_
 obtain⟨Δ,M,R,sr,hr,q,k⟩:=h
 exact⟨Δ,M,_,sr,hr,q,fun x M1 v H1 q1 e1 hr1 rv=>⟨Δ,M1,_,sr.ext e1,hr1,q1,fun y M2 u H2 ⟨z,ez,b,eb,q2⟩ e2 hr2 ru=>⟨_,_,z,M2,hr2,(rv.ext e2).rd hr2,ru.rd hr2,ez,fun w H' e3 hr3 rw_ =>
  ⟨b,by subst eb;simpa only[Rep]using rw_,k b M2 H' q2 ((e1.trans e2).trans e3) hr3⟩⟩⟩⟩
theorem C2(h:PEd X a ta) (he:∀whole,isTrue a X.env whole=(do let v <-whole;ad3 a.pos;Y3 [v] (truthy v)):=by intro _;rfl):PTd X a (jv ta):=(Dd h he).conv GN
def yS(t:TTd):TTd:=fun Δ M Q=>t Δ M fun c M1=>Q (!c) M1
def uY(t u:TTd):TTd:=fun Δ M Q=>t Δ M fun c M1=>if c=true then u Δ M1 Q else Q false M1
def Dx(t u:TTd):TTd:=fun Δ M Q=>t Δ M fun c M1=>if c=true then Q true M1 else u Δ M1 Q
variable{tA tB':TTd}{rest:List K4}
theorem Ey(h:PTd X a tA):PTd X (.UnaryOp .Not a pos) (yS tA):=(Eg h).conv fun σ H Q ⟨Δ,M,R,sr,hr,q,k⟩=>⟨Δ,M,_,sr,hr,q,fun b M1 H1 q1 e1 hr1=>k _ M1 H1 q1 e1 hr1⟩
theorem PW.conv{X:Cx}{e:K4}{t t':TT}(h:PW X e t) (k:∀ σ H Q,t' σ H Q->t σ H Q):PW X e t':=fun w p s σ H Q I q=>h w p s σ H Q I (k σ H Q q)
theorem AK(ha:PTd X a tA):PWd X (.BoolOp .And [a] pos) tA:=Ai ha
theorem D5(ha:PTd X a tA):PWd X (.BoolOp .Or [a] pos) tA:=EF ha
theorem Dc(ha:PTd X a tA) (hb:PWd X (.BoolOp .And (b::rest) pos) tB'):PWd X (.BoolOp .And (a::b::rest) pos) (uY tA tB') :=
 (EA ha hb).conv fun σ H Q ⟨Δ,M,R,sr,hr,q,k⟩ => ⟨Δ,M,_,sr,hr,q,fun c M1 H1 q1 e1 hr1 => by
  cases c with
  |true=>simp only[if_true]at q1 ⊢;exact⟨Δ,M1,R,sr.ext e1,hr1,q1,fun b M2 H2 q2 e2 hr2=>k b M2 H2 q2 (e1.trans e2) hr2⟩
  |false=>simp only[O8,if_false]at q1 ⊢;exact k _ M1 H1 q1 e1 hr1⟩
theorem HE(ha:PTd X a tA) (hb:PWd X (.BoolOp .Or (b::rest) pos) tB'):PWd X (.BoolOp .Or (a::b::rest) pos) (Dx tA tB') :=
 (HA ha hb).conv fun σ H Q ⟨Δ,M,R,sr,hr,q,k⟩ => ⟨Δ,M,_,sr,hr,q,fun c M1 H1 q1 e1 hr1 => by
  cases c with
  |false=>simp only[O8,if_false]at q1 ⊢;exact⟨Δ,M1,R,sr.ext e1,hr1,q1,fun b M2 H2 q2 e2 hr2=>k b M2 H2 q2 (e1.trans e2) hr2⟩
  |true=>simp only[if_true]at q1 ⊢;exact k _ M1 H1 q1 e1 hr1⟩
theorem PWd.pt{e:K4}{t:TTd}(h:PWd X e t):PTd X e t:=PW.pt h
/-! and,or,not,if as values -/
def EJ(ta tb:TEd):TEd:=fun Δ M Q=>ta Δ M fun x M1=>∃c,x=.bl c/\if c=true then tb Δ M1 Q else Q (.bl false) M1
def DL(ta:TEd):TEd:=fun Δ M Q=>ta Δ M fun x M1=>∃c,x=.bl c/\Q (.bl (!c)) M1
def dIf(t:TTd) (ta tb:TEd):TEd:=fun Δ M Q=>t Δ M fun c M1=>if c=true then ta Δ M1 Q else tb Δ M1 Q
theorem GF{op}(h:PEd X a ta):PEd X (.BoolOp op [a] pos) ta:=En h
theorem Ga(ha:PEd X a ta) (hb:PEd X (.BoolOp .And (b::rest) pos) tb):PEd X (.BoolOp .And (a::b::rest) pos) (EJ ta tb) :=
 (Fs ha hb).conv fun σ H Q ⟨Δ,M,R,sr,hr,q,k⟩ => ⟨Δ,M,_,sr,hr,q,fun d M1 v H1 ⟨c,e,q1⟩ e1 hr1 rv => ⟨c,by subst e; simpa only [Rep] using rv,by
  cases c with
  |true=>simp only[if_true]at q1 ⊢;exact⟨Δ,M1,R,sr.ext e1,hr1,q1,fun b M2 v2 H2 q2 e2 hr2 r2=>k b M2 v2 H2 q2 (e1.trans e2) hr2 r2⟩
  |false=>simp only[O8,if_false]at q1 ⊢;exact k _ M1 _ H1 q1 e1 hr1 (by simp[Rep])⟩⟩
theorem Gz(ha:PEd X a ta):PEd X (.UnaryOp .Not a pos) (DL ta):=(Dp ha).conv fun σ H Q ⟨Δ,M,R,sr,hr,q,k⟩=>⟨Δ,M,_,sr,hr,q,fun d M1 v H1 ⟨c,e,q1⟩ e1 hr1 rv =>
 ⟨c,by subst e;simpa only[Rep]using rv,k _ M1 _ H1 q1 e1 hr1 (by simp[Rep])⟩⟩
theorem H0(hc:PTd X c tA) (ha:PEd X a ta) (hb:PEd X b tb):PEd X (.IfExp c a b pos) (dIf tA ta tb):=(xy hc ha hb).conv fun σ H Q ⟨Δ,M,R,sr,hr,q,k⟩=>⟨Δ,M,_,sr,hr,q,fun c M1 H1 q1 e1 hr1=>by
  cases c with
  |true=>simp only[if_true]at q1 ⊢;exact⟨Δ,M1,R,sr.ext e1,hr1,q1,fun b M2 v2 H2 q2 e2 hr2 r2=>k b M2 v2 H2 q2 (e1.trans e2) hr2 r2⟩
  |false=>simp only[O8,if_false]at q1 ⊢;exact⟨Δ,M1,R,sr.ext e1,hr1,q1,fun b M2 v2 H2 q2 e2 hr2 r2=>k b M2 v2 H2 q2 (e1.trans e2) hr2 r2⟩⟩
/-! a<b<c -/
def uq(r r':D->D->Option D) (ta tb tc:TEd):TEd:=fun Δ M Q=>ta Δ M fun x M1=>tb Δ M1 fun y M2=>∃k,r (rdM M2 x) (rdM M2 y)=some (.bl k)/\if k=true then tc Δ M2 fun z M3=>∃w,r' (rdM M3 y) (rdM M3 z)=some w/\Q w M3 else Q (.bl false) M2
theorem Ce{tc:TEd}{op op':aa7}{r r':D->D->Option D}(ho:bO X (L7 op) r) (ho':bO X (L7 op') r') (ha:PEd X a ta) (hb:PEd X b tb) (hc:PEd X c tc)
  (hm:lastMarks [op,op'] [b,c]=false:=by with_unfolding_all rfl):PEd X (.Compare a [op,op'] [b,c] pos) (uq r r' ta tb tc):=by
 refine(zN ho.v ho'.v ha hb hc hm).conv fun σ H Q h=>?_
 obtain⟨Δ,M,R,sr,hr,q,k⟩:=h
 refine⟨Δ,M,_,sr,hr,q,fun x M1 v H1 q1 e1 hr1 rv=>⟨Δ,M1,_,sr.ext e1,hr1,q1,fun y M2 u H2 ⟨b,eb,q2⟩ e2 hr2 ru=>⟨_,_,.bl b,M2,hr2,(rv.ext e2).rd hr2,ru.rd hr2,eb,fun w H3 e3 hr3 rw_ =>
  ⟨b,by simpa only[Rep]using rw_,?_⟩⟩⟩⟩
 cases b with
 |true =>
  simp only[if_true]at q2 ⊢
  exact⟨Δ,M2,_,(sr.ext (e1.trans e2)).ext e3,hr3,q2,fun z M4 w4 H4 ⟨d,ed,q4⟩ e4 hr4 r4=>⟨_,_,d,M4,hr4,((ru.ext e3).ext e4).rd hr4,r4.rd hr4,ed,fun w5 H5 e5 hr5 r5=>k d M4 w5 H5 q4 ((((e1.trans e2).trans e3).trans e4).trans e5) hr5 r5⟩⟩
 |false =>
  simp only[O8,if_false]at q2 ⊢
  exact k _ M2 _ H3 q2 ((e1.trans e2).trans e3) hr3 (by simp[Rep])
/-! calls of what is built in -/
theorem uC{K:o0}{M:DH}{H:Hp}(hr:HR K M H):∀{ds:List D}{vs:List V},aq K M H ds vs->S0 (aL K M H) (ds.map (rdM M)) vs
 |[],_,h=>by simp only[aq]at h;subst h;exact .nil
 |d::ds,_,h=>by
  simp only[aq]at h
  obtain⟨v,ws,rfl,h1,h2⟩:=h
  exact .cons (h1.rd hr) (uC hr h2)
def dCB(r:List D->Option D) (t:TAd):TEd:=fun Δ M Q=>t Δ M fun ds M1=>∃z,r (ds.map (rdM M1))=some z/\Q z M1
theorem CW{K:o0}{r:List D->Option D}{t:TAd}:∀ σ H Q,up K (dCB r t) σ H Q->tCB (fun xs H Q=>∃ds dz M,HR K M H/\S0 (aL K M H) ds xs/\r ds=some dz/\∀w H',Ext M H M H'->HR K M H'->Rep K M H' dz w->Q w H') (upA K t) σ H Q:=fun σ H Q ⟨Δ,M,R,sr,hr,q,k⟩ =>
 ⟨Δ,M,_,sr,hr,q,fun ds M1 vs H1 ⟨z,ez,q1⟩ e1 hr1 rv=>⟨_,z,M1,hr1,uC hr1 rv,ez,fun w H' e2 hr2 r2=>k z M1 w H' q1 (e1.trans e2) hr2 r2⟩⟩
theorem bo.v{f:s0}{r:List D->Option D}(h:bo X f r):cM X f (fun xs H Q=>∃ds dz M,HR X.K M H/\S0 (aL X.K M H) ds xs/\r ds=some dz/\∀w H',Ext M H M H'->HR X.K M H'->Rep X.K M H' dz w->Q w H') :=
 fun ae s σ H xs us Q I rv ⟨ds,dz,M,hr,rr,e,k⟩=>h ae s σ H M xs us ds dz Q I hr rv rr e k
theorem Bk{x:Str}{p:Pos}{e:K4}{es:List K4}{t:TAd}{id:String}{r:List D->Option D}(hc:bo X (.builtin id) r) (hg:Gl X x) (hm:X.mg x=none) (hv:P3 x=some (.builtin id)) (ha:PAd X (e::es) t) (hn:x≠"__name__":=by decide) (hdb:(x==("__debug__":Str))=false:=by decide)
  (he:J5 (e::es) X.env=(false,T7 e X.env)::J5 es X.env:=by rfl) (hpl:(T3 pos (J5 es X.env)).any (·.1)=false:=by rfl):PEd X (.Call (.Name x p) (e::es) [] pos) (dCB r t) :=
 (rE hc.v hg hm hv ha hn hdb he hpl).conv CW
theorem xx{x:Str}{p:Pos}{e:K4}{es:List K4}{t:TAd}{id:String}{r:List D->Option D}(hc:bo X (.type id) r) (hg:Gl X x) (hm:X.mg x=none) (hv:P3 x=some (.type id)) (ha:PAd X (e::es) t) (hn:x≠"__name__":=by decide) (hdb:(x==("__debug__":Str))=false:=by decide)
  (he:J5 (e::es) X.env=(false,T7 e X.env)::J5 es X.env:=by rfl) (hpl:(T3 pos (J5 es X.env)).any (·.1)=false:=by rfl):PEd X (.Call (.Name x p) (e::es) [] pos) (dCB r t) :=
 (wq hc.v hg hm hv ha hn hdb he hpl).conv CW
end
section
variable{X:Cx}
theorem bO.of{f:s0->s0->Sem s0}{r2:R2}{r:D->D->Option D}(h:OpR X f r2)
  (k:∀(H:Hp) (M:DH) (x y:V) (dx dy dz:D) (Q:VK),HR X.K M H->aL X.K M H dx x->aL X.K M H dy y->r dx dy=some dz->(∀w H',Ext M H M H'->HR X.K M H'->Rep X.K M H' dz w->Q w H')->r2 x y H Q):bO X f r :=
 fun ae s σ H M x y v u dx dy dz Q I hr rx ry r1 r2 e q=>h ae s σ H x y v u Q I rx ry (k H M x y dx dy dz Q hr r1 r2 e q)
theorem bo.of{f:s0}{r2:List V->Hp->VK->Prop}{r:List D->Option D}(h:cM X f r2)
  (k:∀(H:Hp) (M:DH) (xs:List V) (ds:List D) (dz:D) (Q:VK),HR X.K M H->S0 (aL X.K M H) ds xs->r ds=some dz->(∀w H',Ext M H M H'->HR X.K M H'->Rep X.K M H' dz w->Q w H')->r2 xs H Q):bo X f r :=
 fun ae s σ H M xs us ds dz Q I hr rv r1 e q=>h ae s σ H xs us Q I rv (k H M xs ds dz Q hr r1 e q)
theorem dM{K:o0}{M:DH}{H:Hp}{i:Int}{v:V}(h:aL K M H (.int i) v):v=.int i:=by simpa[aL,Rep]using h
theorem nM{K:o0}{M:DH}{H:Hp}{i:Str}{v:V}(h:aL K M H (.str i) v):v=.str i:=by simpa[aL,Rep]using h
theorem rBl{K:o0}{M:DH}{H:Hp}{i:Bool}{v:V}(h:aL K M H (.bl i) v):v=.bl i:=by simpa[aL,Rep]using h
theorem F9{K:o0}{M:DH}{H:Hp}{v:V}(h:aL K M H .non v):v=.non:=by simpa[aL,Rep]using h
/-! ### ints -/
def iOp(f:Int->Int->Option D):D->D->Option D
 |.int a,.int b=>f a b
 |_,_=>none
theorem mC{f:Int->Int->Option D}{x y z:D}(h:iOp f x y=some z):∃a b,x=.int a/\y=.int b/\f a b=some z:=by
 cases x<;>first|cases h|skip
 rename_i a
 cases y<;>first|cases h|skip
 rename_i b
 exact⟨a,b,rfl,rfl,h⟩
def bw:D->Bool
 |.non=>true|.bl _=>true|.int _=>true|.str _=>true|_=>false
def toV:D->V
 |.bl b=>.bl b|.int i=>.int i|.str x=>.str x|_=>.non
theorem qV{K:o0}{M:DH}{H:Hp}{d:D}(h:bw d=true):Rep K M H d (toV d):=by
 cases d<;>first|(simp[Rep,toV];done)|cases h
theorem qR{f:s0->s0->Sem s0}{C:Int->Int->Prop} [∀i j,Decidable (C i j)] {g:Int->Int->D}(hs:∀i j,bw (g i j)=true) (h:OpR X f (rI C fun i j=>toV (g i j))) :
  bO X f (iOp fun i j=>if C i j then some (g i j)else none) :=
 bO.of h fun H M x y dx dy dz Q hr r1 r2 e q=>by
  obtain⟨a,b,rfl,rfl,e'⟩:=mC e
  clear e
  have e:=e'
  by_cases hc:C a b
  ·rw[if_pos hc]at e;cases e
   exact⟨a,b,dM r1,dM r2,hc,q _ _ (Ext.refl _ _) hr (qV (hs a b))⟩
  ·rw[if_neg hc]at e;cases e
theorem jR{f:s0->s0->Sem s0}{g:Int->Int->D}(hs:∀i j,bw (g i j)=true) (h:OpR X f (rI0 fun i j=>toV (g i j))) :
  bO X f (iOp fun i j=>some (g i j)) :=
 bO.of h fun H M x y dx dy dz Q hr r1 r2 e q=>by
  obtain⟨a,b,rfl,rfl,e⟩:=mC e
  cases e
  exact⟨a,b,dM r1,dM r2,q _ _ (Ext.refl _ _) hr (qV (hs a b))⟩
instance:∀i j,Decidable (mX i j):=fun i j=>by unfold mX;exact inferInstance
instance:∀i j,Decidable (g9 i j):=fun i j=>by unfold g9;exact inferInstance
instance:∀i j,Decidable (qQ i j):=fun i j=>by unfold qQ;exact inferInstance
theorem CF:bO X (P9 .Sub) (iOp fun i j=>some (.int (i-j))):=jR (fun _ _=>rfl) Em
theorem E4:bO X (P9 .Mult) (iOp fun i j=>if g9 i j then some (.int (i*j))else none):=qR (fun _ _=>rfl) Dz
theorem tq:bO X (P9 .FloorDiv) (iOp fun i j=>if mX i j then some (.int (i / j))else none):=qR (fun _ _=>rfl) A9
theorem eX:bO X (P9 .Mod) (iOp fun i j=>if 0<j then some (.int (i % j))else none):=qR (C:=fun _ j=>0<j) (fun _ _=>rfl) D9
theorem Gm:bO X (P9 .Pow) (iOp fun i j=>if qQ i j then some (.int (i ^ j.toNat))else none):=qR (fun _ _=>rfl) Dh
theorem wO:bO X (L7 .Lt) (iOp fun i j=>some (.bl (decide (i<j)))):=jR (fun _ _=>rfl) GW
theorem ER:bO X (L7 .LtE) (iOp fun i j=>some (.bl (decide (i<=j)))):=jR (fun _ _=>rfl) G7
theorem EX:bO X (L7 .Gt) (iOp fun i j=>some (.bl (decide (j<i)))):=jR (fun _ _=>rfl) Hg
theorem HJ:bO X (L7 .GtE) (iOp fun i j=>some (.bl (decide (j<=i)))):=jR (fun _ _=>rfl) FH
/-! ### places -/
theorem aq.at_{K:o0}{M:DH}{H:Hp}{ds:List D}{vs:List V}{i:Int}{d:D}(h:aq K M H ds vs) (e:atI ds i=some d):∃v,atI vs i=some v/\Rep K M H d v:=by
 unfold atI at e ⊢
 rw[<-h.length]
 cases q:ixN ds.length i with
 |none=>rw[q]at e;cases e
 |some j =>
  rw[q]at e
  have e':ds[j]?=some d:=e
  obtain⟨v,a,b⟩:=h.get e'
  exact⟨v,a,b⟩
def ixD:D->D->Option D
 |.tup ds,.int i=>atI ds i
 |.lst ds,.int i=>atI ds i
 |.scr ds,.int i=>atI ds i
 |.str z,.int i=>if z.length<=J0 then(atI z.cps.toList i).map fun c=>.str ⟨#[c]⟩else none
 |_,_=>none
theorem aV:IxR X (opV X.K ixD):=by
 intro value slice ae s σ H x y v u Q I rx ry h hs
 obtain⟨dx,dy,dz,M,hr,r1,r2,e,k⟩:=h
 cases dx with
 |tup ds =>
  cases dy with
  |int i =>
   obtain⟨a,vs,rfl,sq,rl⟩:=r1
   obtain⟨w,e2,rw_⟩:=rl.at_ e
   exact DR value slice ae s σ H _ _ v u Q I rx ry ⟨a,vs,i,w,rfl,dM r2,sq,e2,k w H (Ext.refl _ _) hr rw_⟩ hs
  |_=>cases e
 |lst ds =>
  cases dy with
  |int i =>
   obtain⟨a,vs,rfl,sq,rl⟩:=r1
   obtain⟨w,e2,rw_⟩:=rl.at_ e
   exact uW value slice ae s σ H _ _ v u Q I rx ry ⟨a,vs,i,w,rfl,dM r2,SqL.of sq,e2,k w H (Ext.refl _ _) hr rw_⟩ hs
  |_=>cases e
 |scr ds =>
  cases dy with
  |int i =>
   obtain⟨a,vs,rfl,sq,rl⟩:=r1
   obtain⟨w,e2,rw_⟩:=rl.at_ e
   exact uW value slice ae s σ H _ _ v u Q I rx ry ⟨a,vs,i,w,rfl,dM r2,sq,e2,k w H (Ext.refl _ _) hr rw_⟩ hs
  |_=>cases e
 |str z =>
  cases dy with
  |int i =>
   simp only[ixD]at e
   by_cases hz:z.length<=J0
   ·rw[if_pos hz]at e
    cases q:atI z.cps.toList i with
    |none=>rw[q]at e;cases e
    |some c =>
     rw[q]at e;cases e
     exact C7 value slice ae s σ H _ _ v u Q I rx ry ⟨z,i,c,nM r1,dM r2,hz,q,k _ H (Ext.refl _ _) hr (by simp[Rep])⟩ hs
   ·rw[if_neg hz]at e;cases e
  |_=>cases e
 |_=>cases e
/-! ###+-/
def kU:D->D->Option D
 |.int a,.int b=>some (.int (a+b))
 |.str a,.str b=>if a.length+b.length<=J0 then some (.str (a++b))else none
 |.lst a,.lst b=>if a.length+b.length<=J0 then some (.lst (a++b))else none
 |.tup a,.tup b=>if a.length+b.length<=J0 then some (.tup (a++b))else none
 |_,_=>none
theorem lM{K:o0}{M:DH}{H:Hp}{p:J9}{ds:List D}{vs:List V}{Q:VK}(hr:HR K M H) (hp:H p=none) (r:aq K M H ds vs) (q:∀w H',Ext M H M H'->HR K M H'->Rep K M H' (.lst ds) w->Q w H'):Q (.ref p) (upd H p (.lst vs)) :=
 q _ _ (Ext.new hr hp) (hr.new hp) (by simp only[Rep];exact⟨p,vs,rfl,⟨aC,hr.fresh hp⟩,r.ext (Ext.new hr hp)⟩)
theorem jU{K:o0}{M:DH}{H:Hp}{p:J9}{ds:List D}{vs:List V}{Q:VK}(hr:HR K M H) (hp:H p=none) (r:aq K M H ds vs) (q:∀w H',Ext M H M H'->HR K M H'->Rep K M H' (.tup ds) w->Q w H'):Q (.ref p) (upd H p (.tup vs)) :=
 q _ _ (Ext.new hr hp) (hr.new hp) (by simp only[Rep];exact⟨p,vs,rfl,.inl ⟨.inl aC,hr.fresh hp⟩,r.ext (Ext.new hr hp)⟩)
theorem aL.tup{K:o0}{M:DH}{H:Hp}{ds:List D}{v:V}(hr:HR K M H) (h:aL K M H (.tup ds) v):Rep K M H (.tup ds) v:=by
 obtain⟨a,vs,rfl,sq,rl⟩:=h
 simp only[Rep]
 refine⟨a,vs,rfl,?_,rl⟩
 rcases sq with r|k
 ·refine .inl ⟨r,?_⟩
  cases q:M a with
  |none=>rfl
  |some o =>
   obtain⟨u,z,m⟩:=(hr a _ q).some
   rcases r with r|⟨ob,r⟩
   ·rw[z]at r;exact absurd (K9 r) (m _).1
   ·rw[z]at r;exact absurd (K9 r) ((m _).2 ob)
 ·exact .inr (.inr k)
theorem yQ{prog:L8}{w:P2}{A:O3}{E:s0->I0->Prop}{s:I0}{t b:J9}{ws:List s0}{Q:s0->I0->Prop}(ht:ad2 s.heap t ([]:List s0).toArray) (hb:ad2 s.heap b ws.toArray)
  (h:Q (.ref b) s):K5 (L3 prog w) A (P9 .Add (.ref t) (.ref b)) Q E s:=by
 obtain⟨⟨cls,dd,data,sl⟩,ho,hc,n,hd⟩:=id ht
 obtain⟨⟨cls2,dd2,data2,sl2⟩,ho2,hc2,n2,hd2⟩:=id hb
 simp only at hc hd hc2 hd2
 subst hc hd hc2 hd2
 exact concat_meets ⟨_,ho,rfl⟩ ⟨_,ho2,rfl⟩ noFill_tuple_add seq_tuple_add PySem.F.slot_tuple_add PySem.F.entry_tuple_add (PySem.F.args_tuple_add_2 _ _)
   (tuple_addW0 t b ([]:List s0).toArray ws.toArray n n2 dd dd2 sl sl2 (by simp)) ⟨ho,ho2,h⟩
theorem aR:bO X (P9 .Add) kU:=by
 intro ae s σ H M x y v u dx dy dz Q I hr rx ry r1 r2 e k
 cases dx with
 |int a =>
  cases dy with
  |int b =>
   cases e
   exact Ec ae s σ H x y v u Q I rx ry ⟨a,b,dM r1,dM r2,k _ H (Ext.refl _ _) hr (by simp[Rep])⟩
  |_=>cases e
 |str a =>
  cases dy with
  |str b =>
   simp only[kU]at e
   by_cases hz:a.length+b.length<=J0
   ·rw[if_pos hz]at e;cases e
    exact tW ae s σ H x y v u Q I rx ry ⟨a,b,nM r1,nM r2,hz,k _ H (Ext.refl _ _) hr (by simp[Rep])⟩
   ·rw[if_neg hz]at e;cases e
  |_=>cases e
 |lst a =>
  cases dy with
  |lst b =>
   simp only[kU]at e
   by_cases hz:a.length+b.length<=J0
   ·rw[if_pos hz]at e;cases e
    obtain⟨l1,vs,rfl,h1,l1r⟩:=r1
    obtain⟨l2,ws,rfl,h2,l2r⟩:=r2
    exact Fw ae s σ H _ _ v u Q I rx ry ⟨l1,l2,vs,ws,rfl,rfl,h1,h2,by rw[<-l1r.length,<-l2r.length];exact hz,fun p hp=>lM hr hp (l1r.append l2r) k⟩
   ·rw[if_neg hz]at e;cases e
  |_=>cases e
 |tup a =>
  cases dy with
  |tup b =>
   simp only[kU]at e
   by_cases hz:a.length+b.length<=J0
   ·rw[if_pos hz]at e;cases e
    have t1:=aL.tup hr r1
    have t2:=aL.tup hr r2
    obtain⟨l1,vs,rfl,h1,l1r⟩:=r1
    obtain⟨l2,ws,rfl,h2,l2r⟩:=r2
    by_cases hv:vs=[]
    ·subst hv
     have ea:a=[]:=by
      have:=l1r.length
      cases a with
      |nil=>rfl
      |cons _ _=>simp at this
     subst ea
     cases rx
     cases ry
     obtain⟨its,q1,p1,_⟩:=I.tuple h1
     obtain⟨its2,q2,p2,_⟩:=I.tuple h2
     cases q1
     exact yQ p1 p2 ⟨.ref l2,H,I,rfl,k _ H (Ext.refl _ _) hr t2⟩
    ·refine Ak ae s σ H _ _ v u Q I rx ry ⟨l1,l2,vs,ws,rfl,rfl,h1,h2,hv,by rw[<-l1r.length,<-l2r.length];exact hz,fun hw=>?_,fun _ p hp=>jU hr hp (l1r.append l2r) k⟩
     subst hw
     have eb:b=[]:=by
      have:=l2r.length
      cases b with
      |nil=>rfl
      |cons _ _=>simp at this
     subst eb
     rw[Y6]at k
     exact k _ H (Ext.refl _ _) hr t1
   ·rw[if_neg hz]at e;cases e
  |_=>cases e
 |_=>cases e
/-! ### ==,deep -/
mutual
def eqD:D->D->Bool
 |.non,.non=>true
 |.bl a,.bl b=>a==b
 |.bl a,.int b=>(if a then 1 else 0)==b
 |.int a,.bl b=>a==(if b then 1 else 0)
 |.int a,.int b=>a==b
 |.str a,.str b=>a==b
 |.tup a,.tup b=>h7 a b
 |.lst a,.lst b=>h7 a b
 |_,_=>false
def h7:List D->List D->Bool
 |[],[]=>true
 |a::as,b::bs=>eqD a b&&h7 as bs
 |_,_=>false
end
mutual
def dLe:D->Nat->Bool
 |.tup _,0=>false
 |.tup ds,n+1=>cx ds n
 |.lst _,0=>false
 |.lst ds,n+1=>cx ds n
 |.scr _,_=>false
 |.emp,_=>false
 |.box _ _,_=>false
 |.ref _,_=>false
 |_,_=>true
def cx:List D->Nat->Bool
 |[],_=>true
 |d::ds,n=>dLe d n&&cx ds n
end
theorem fE:∀{ds:List D}{n i:Nat}{d:D},cx ds n=true->ds[i]?=some d->dLe d n=true
 |[],_,_,_,_,e=>by simp at e
 |d::ds,n,0,x,h,e=>by
  simp only[cx,L6]at h
  simp at e;subst e;exact h.1
 |d::ds,n,i+1,x,h,e=>by
  simp only[cx,L6]at h
  exact fE h.2 (by simpa using e)
theorem jd:∀{ds:List D}{n:Nat},cx ds n=true↔∀d∈ds,dLe d n=true
 |[],n=>by simp[cx]
 |d::ds,n=>by simp[cx,jd (ds:=ds)]
def eqN(ds es:List D) (j:Nat):Bool:=match ds[j]?,es[j]? with|some a,some b=>eqD a b|_,_=>false
theorem rG:∀{ds es:List D},h7 ds es=true->ds.length=es.length
 |[],[],_=>rfl
 |[],_::_,h=>by simp[h7]at h
 |_::_,[],h=>by simp[h7]at h
 |_::ds,_::es,h=>by
  simp only[h7,L6]at h
  simp[rG h.2]
theorem lZ:∀{ds es:List D},h7 ds es=((V7 (min ds.length es.length)).all (eqN ds es)&&ds.length==es.length)
 |[],[]=>by simp[h7]
 |[],_::_=>by simp[h7]
 |_::_,[]=>by simp[h7]
 |a::ds,b::es=>by
  have ih:=@lZ ds es
  simp only[h7,N9,Nat.add_min_add_right,List.range_succ_eq_map,W7,List.all_map]
  have e0:eqN (a::ds) (b::es) 0=eqD a b:=by simp[eqN]
  have e1:(eqN (a::ds) (b::es))∘Nat.succ=eqN ds es:=by
   funext j;simp[eqN]
  rw[e0,e1,ih]
  have e2:(ds.length+1==es.length+1)=(ds.length==es.length):=by
   rw[Bool.eq_iff_iff];simp
  rw[e2,Bool.and_assoc]
theorem wY{ds es:List D}(h:ds.length=es.length):h7 ds es=(V7 ds.length).all (eqN ds es):=by
 rw[lZ,<-h,Nat.min_self];simp
theorem Rep.r{K:o0}{M:DH}{H:Hp}{d:D}{v:V}(h:Rep K M H d v):aL K M H d v:=by
 cases d with
 |tup ds=>simp only[Rep]at h;obtain⟨a,vs,e,t,r⟩:=h;exact⟨a,vs,e,t.sq,r⟩
 |lst ds=>simp only[Rep]at h;obtain⟨a,vs,e,t,r⟩:=h;exact⟨a,vs,e,t.1,r⟩
 |scr ds=>simp only[Rep]at h;obtain⟨a,vs,e,t,r⟩:=h;exact⟨a,vs,e,t.sq,r⟩
 |_=>exact h
theorem CT{ae:List (J9×Obj)}{σ:St}{H:Hp}{s:I0}{a:J9}{vs ws:List V}(I:Inv X ae σ H s) (h:SqT X.K H a vs) (h':H a=some (.lst ws)):False:=by
 obtain⟨its,r,⟨o,e,c,n,d⟩,_⟩:=I.tuple h
 obtain⟨_,its',n',_,e'⟩:=I.hok a _ h'
 rw[e]at e';cases e'
 exact absurd (show Y2 "list"=Y2 "tuple" from c) (by decide)
theorem rS{ae:List (J9×Obj)}{σ:St}{H:Hp}{s:I0}(I:Inv X ae σ H s) {M M':DH}:∀(n:Nat) {d e:D}{v:V},dLe d n=true->dLe e n=true->aL X.K M H d v->aL X.K M' H e v->eqD d e=true:=by
  intro n
  induction n with
  | zero =>
    intro d e v hd he r1 r2
    cases d<;>first|(simp[dLe]at hd;done)|skip
    all_goals cases e<;>first|(simp[dLe]at he;done)|skip
    all_goals (simp only[aL,Rep]at r1 r2;subst r1;first|(cases r2;simp[eqD];done)|cases r2)
  | succ n ih =>
    intro d e v hd he r1 r2
    have lists:∀{ds es:List D} {vs:List V},cx ds n=true->cx es n=true->aq X.K M H ds vs->aq X.K M' H es vs->h7 ds es=true:=by
      intro ds
      induction ds with
      | nil =>
        intro es vs _ _ h1 h2
        simp only[aq]at h1;subst h1
        cases es with
        |nil=>simp[h7]
        |cons _ _=>simp[aq]at h2
      | cons a ds ihl =>
        intro es vs d1 d2 h1 h2
        simp only[aq]at h1
        obtain⟨v,ws,rfl,h3,h4⟩:=h1
        cases es with
        |nil=>simp[aq]at h2
        | cons b es =>
          simp only[aq]at h2
          obtain⟨v',ws',e',h5,h6⟩:=h2
          cases e'
          simp only[cx,L6]at d1 d2
          simp only[h7,L6]
          exact⟨ih d1.1 d2.1 h3.r h5.r,ihl d1.2 d2.2 h4 h6⟩
    cases d with
    | tup ds =>
      obtain⟨a,vs,rfl,sq,rl⟩:=r1
      cases e with
      | tup es =>
        obtain⟨b,ws,e',sq',rl'⟩:=r2
        cases e'
        have:=I.tuple_inj sq sq'
        subst this
        simp only[eqD]
        exact lists (by simpa[dLe]using hd) (by simpa[dLe]using he) rl rl'
      | lst es =>
        obtain⟨b,ws,e',sq',rl'⟩:=r2
        cases e'
        exact(CT I sq sq').elim
      |_=>first|(simp[dLe]at he;done)|(simp only[aL,Rep]at r2;cases r2)
    | lst ds =>
      obtain⟨a,vs,rfl,sq,rl⟩:=r1
      cases e with
      | lst es =>
        obtain⟨b,ws,e',sq',rl'⟩:=r2
        cases e'
        rw[sq]at sq'
        cases sq'
        simp only[eqD]
        exact lists (by simpa[dLe]using hd) (by simpa[dLe]using he) rl rl'
      | tup es =>
        obtain⟨b,ws,e',sq',rl'⟩:=r2
        cases e'
        exact(CT I sq' sq).elim
      |_=>first|(simp[dLe]at he;done)|(simp only[aL,Rep]at r2;cases r2)
    | _ =>
      first
      |(simp[dLe]at hd;done)
      | (cases e with
         |tup es=>(obtain⟨b,ws,e',sq',rl'⟩:=r2;subst e';simp only[aL,Rep]at r1;cases r1)
         |lst es=>(obtain⟨b,ws,e',sq',rl'⟩:=r2;subst e';simp only[aL,Rep]at r1;cases r1)
         |_=>first|(simp[dLe]at he;done)|(simp only[aL,Rep]at r1 r2;subst r1;first|(cases r2;simp[eqD];done)|cases r2))
open PySem.SeqAt in
theorem pT{ae:List (J9×Obj)}{σ:St}{H:Hp}{s:I0}(I:Inv X ae σ H s) {M M':DH}:∀(n:Nat) {A:O3}{d e:D}{v w:V}{u1 u2:s0},A.units+n<X7->dLe d n=true->dLe e n=true ->
  aL X.K M H d v->aL X.K M' H e w->aD v u1->aD w u2->EqAt A s u1 u2 (eqD d e)/\RcAt A s u1 u2 (eqD d e):=by
 intro n
 induction n with
 |zero =>
  intro A d e v w u1 u2 hu hd he r1 r2 q1 q2
  have hu0:A.units<X7:=by omega
  cases d<;>first|(simp[dLe]at hd;done)|skip
  all_goals cases e<;>first|(simp[dLe]at he;done)|skip
  all_goals simp only[aL,Rep]at r1 r2
  all_goals subst r1
  all_goals subst r2
  all_goals simp only[aD]at q1 q2
  all_goals first|(obtain⟨t1,rfl⟩:=q1)|subst q1
  all_goals first|(obtain⟨t2,rfl⟩:=q2)|subst q2
  all_goals simp only[eqD]
  ·exact⟨EqAt.same _,RcAt.none_none⟩
  ·exact⟨EqAt.none_bool _,RcAt.none_bool _⟩
  ·exact⟨EqAt.none_int _ _,RcAt.none_int _ _⟩
  ·exact⟨EqAt.none_str _ _,RcAt.none_str _ _⟩
  ·exact⟨EqAt.bool_none _,RcAt.bool_none _⟩
  ·exact⟨EqAt.bool_bool _ _,RcAt.bool_bool _ _⟩
  ·exact⟨EqAt.bool_int _ _ _,RcAt.bool_int _ _ _⟩
  ·exact⟨EqAt.bool_str _ _ _,RcAt.bool_str _ _ _⟩
  ·exact⟨EqAt.int_none _ _,RcAt.int_none _ _⟩
  ·exact⟨EqAt.int_bool _ _ _,RcAt.int_bool _ _ _⟩
  ·exact⟨EqAt.int_int _ _ _ _,RcAt.int_int _ _ _ _⟩
  ·exact⟨EqAt.int_str _ _ _ _,RcAt.int_str _ _ _ _⟩
  ·exact⟨EqAt.str_none _ _,RcAt.str_none _ _⟩
  ·exact⟨EqAt.str_bool _ _ _,RcAt.str_bool _ _ _⟩
  ·exact⟨EqAt.str_int _ _ _ _,RcAt.str_int _ _ _ _⟩
  ·exact⟨EqAt.str_str _ _ _ _,RcAt.str_str _ _ _ _⟩
 |succ n ih =>
  intro A d e v w u1 u2 hu hd he r1 r2 q1 q2
  have hu0:A.units<X7:=by omega
  have hu1:A.in1.units+n<X7:=by show A.units+1+n<X7;omega
  have item:∀{ds es:List D} {vs ws:List V} {us us2:List s0},cx ds n=true->cx es n=true->aq X.K M H ds vs->aq X.K M' H es ws->aA vs us->aA ws us2 ->
    ∀j (h1:j<us.toArray.size) (h2:j<us2.toArray.size),EqAt A.in1 s us.toArray[j] us2.toArray[j] (eqN ds es j):=by
   intro ds es vs ws us us2 d1 d2 h1 h2 h3 h4 j hj1 hj2
   have l1:=h1.length
   have l2:=h2.length
   have l3:=h3.length
   have l4:=h4.length
   have j1:j<ds.length:=by simp at hj1;omega
   have j2:j<es.length:=by simp at hj2;omega
   obtain⟨v1,g1,p1⟩:=h1.get (i:=j) (d:=ds[j]) (by simp[j1])
   obtain⟨v2,g2,p2⟩:=h2.get (i:=j) (d:=es[j]) (by simp[j2])
   obtain⟨u1,k1,m1⟩:=h3.get g1
   obtain⟨u2,k2,m2⟩:=h4.get g2
   have e1:us.toArray[j]=u1:=by
    simp at hj1
    simpa[List.getElem?_eq_getElem hj1]using k1
   have e2:us2.toArray[j]=u2:=by
    simp at hj2
    simpa[List.getElem?_eq_getElem hj2]using k2
   rw[e1,e2]
   have e3:eqN ds es j=eqD ds[j] es[j]:=by simp[eqN,j1,j2]
   rw[e3]
   exact(ih hu1 (fE d1 (i:=j) (by simp[j1])) (fE d2 (i:=j) (by simp[j2])) p1.r p2.r m1 m2).1
  cases d with
  |tup ds =>
   obtain⟨a,vs,rfl,sq,rl⟩:=id r1
   cases q1
   obtain⟨its,rv,pt,_⟩:=I.tuple sq
   have hd':cx ds n=true:=by simpa[dLe]using hd
   cases e with
   |tup es =>
    obtain⟨b,ws,rfl,sq',rl'⟩:=id r2
    cases q2
    obtain⟨its2,rv2,pt2,_⟩:=I.tuple sq'
    have he':cx es n=true:=by simpa[dLe]using he
    have rc:RcAt A s (.ref a) (.ref b) (eqD (.tup ds) (.tup es)):=by
     have:=RcAt.tuples (e:=eqN ds es) pt pt2 hu0 (item hd' he' rl rl' rv rv2)
     rw[J1,J1,<-rv.length,<-rv2.length,<-rl.length,<-rl'.length,<-lZ]at this
     simpa only[eqD]using this
    refine⟨?_,rc⟩
    by_cases hab:a=b
    ·subst hab
     rw[rS I (n+1) hd he r1 r2]
     exact EqAt.same _
    ·exact EqAt.of_refs hab rc
   |lst es =>
    obtain⟨b,ws,rfl,sq',rl'⟩:=id r2
    cases q2
    obtain⟨its2,rv2,pt2,_⟩:=I.list (SqL.of sq')
    simp only[eqD]
    exact⟨EqAt.tuple_list pt pt2.isList hu0,RcAt.tuple_list pt pt2.isList hu0⟩
   |non =>
    simp only[aL,Rep]at r2;subst r2;simp only[aD]at q2
    subst q2
    simp only[eqD]
    exact⟨EqAt.tuple_none pt hu0,RcAt.tuple_none pt hu0⟩
   |bl b =>
    simp only[aL,Rep]at r2;subst r2;simp only[aD]at q2
    subst q2
    simp only[eqD]
    exact⟨EqAt.tuple_bool _ pt hu0,RcAt.tuple_bool _ pt hu0⟩
   |int b =>
    simp only[aL,Rep]at r2;subst r2;simp only[aD]at q2
    obtain⟨t,rfl⟩:=q2
    simp only[eqD]
    exact⟨EqAt.tuple_int _ _ pt hu0,RcAt.tuple_int _ _ pt hu0⟩
   |str b =>
    simp only[aL,Rep]at r2;subst r2;simp only[aD]at q2
    obtain⟨t,rfl⟩:=q2
    simp only[eqD]
    exact⟨EqAt.tuple_str _ _ pt hu0,RcAt.tuple_str _ _ pt hu0⟩
   |_=>simp[dLe]at he
  |lst ds =>
   obtain⟨a,vs,rfl,sq,rl⟩:=id r1
   cases q1
   obtain⟨its,rv,pt,_⟩:=I.list (SqL.of sq)
   have hd':cx ds n=true:=by simpa[dLe]using hd
   cases e with
   |lst es =>
    obtain⟨b,ws,rfl,sq',rl'⟩:=id r2
    cases q2
    obtain⟨its2,rv2,pt2,_⟩:=I.list (SqL.of sq')
    have he':cx es n=true:=by simpa[dLe]using he
    have rc:RcAt A s (.ref a) (.ref b) (eqD (.lst ds) (.lst es)):=by
     by_cases hl:ds.length=es.length
     ·have hsz:its.toArray.size=its2.toArray.size:=by rw[J1,J1,<-rv.length,<-rv2.length,<-rl.length,<-rl'.length];exact hl
      have:=RcAt.lists (e:=eqN ds es) pt.isList pt2.isList hsz hu0 (item hd' he' rl rl' rv rv2)
      rw[J1,<-rv.length,<-rl.length,<-wY hl]at this
      simpa only[eqD]using this
     ·have hsz:(its.toArray.size != its2.toArray.size)=true:=by rw[J1,J1,<-rv.length,<-rv2.length,<-rl.length,<-rl'.length];simpa using hl
      have:=RcAt.lists_lengths pt.isList pt2.isList hsz hu0
      have e0:eqD (.lst ds) (.lst es)=false:=by
       simp only[eqD]
       cases q:h7 ds es with
       |false=>rfl
       |true=>exact absurd (rG q) hl
      rw[e0];exact this
    refine⟨?_,rc⟩
    by_cases hab:a=b
    ·subst hab
     rw[rS I (n+1) hd he r1 r2]
     exact EqAt.same _
    ·exact EqAt.of_refs hab rc
   |tup es =>
    obtain⟨b,ws,rfl,sq',rl'⟩:=id r2
    cases q2
    obtain⟨its2,rv2,pt2,_⟩:=I.tuple sq'
    simp only[eqD]
    exact⟨EqAt.list_tuple pt.isList pt2 hu0,RcAt.list_tuple pt.isList pt2 hu0⟩
   |non =>
    simp only[aL,Rep]at r2;subst r2;simp only[aD]at q2
    subst q2
    simp only[eqD]
    exact⟨EqAt.list_none pt.isList hu0,RcAt.list_none pt.isList hu0⟩
   |bl b =>
    simp only[aL,Rep]at r2;subst r2;simp only[aD]at q2
    subst q2
    simp only[eqD]
    exact⟨EqAt.list_bool _ pt.isList hu0,RcAt.list_bool _ pt.isList hu0⟩
   |int b =>
    simp only[aL,Rep]at r2;subst r2;simp only[aD]at q2
    obtain⟨t,rfl⟩:=q2
    simp only[eqD]
    exact⟨EqAt.list_int _ _ pt.isList hu0,RcAt.list_int _ _ pt.isList hu0⟩
   |str b =>
    simp only[aL,Rep]at r2;subst r2;simp only[aD]at q2
    obtain⟨t,rfl⟩:=q2
    simp only[eqD]
    exact⟨EqAt.list_str _ _ pt.isList hu0,RcAt.list_str _ _ pt.isList hu0⟩
   |_=>simp[dLe]at he
  |non =>
   cases e with
   |tup es =>
    obtain⟨b,ws,rfl,sq',rl'⟩:=id r2
    cases q2
    obtain⟨its2,rv2,pt2,_⟩:=I.tuple sq'
    simp only[aL,Rep]at r1;subst r1;simp only[aD]at q1
    subst q1
    simp only[eqD]
    exact⟨EqAt.none_tuple pt2 hu0,RcAt.none_tuple pt2 hu0⟩
   |lst es =>
    obtain⟨b,ws,rfl,sq',rl'⟩:=id r2
    cases q2
    obtain⟨its2,rv2,pt2,_⟩:=I.list (SqL.of sq')
    simp only[aL,Rep]at r1;subst r1;simp only[aD]at q1
    subst q1
    simp only[eqD]
    exact⟨EqAt.none_list pt2.isList hu0,RcAt.none_list pt2.isList hu0⟩
   |_=>first|(simp[dLe]at he;done)|exact ih (A:=A) (by omega) (by simp[dLe]) (by simp[dLe]) r1 r2 q1 q2
  |bl a =>
   cases e with
   |tup es =>
    obtain⟨b,ws,rfl,sq',rl'⟩:=id r2
    cases q2
    obtain⟨its2,rv2,pt2,_⟩:=I.tuple sq'
    simp only[aL,Rep]at r1;subst r1;simp only[aD]at q1
    subst q1
    simp only[eqD]
    exact⟨EqAt.bool_tuple _ pt2 hu0,RcAt.bool_tuple _ pt2 hu0⟩
   |lst es =>
    obtain⟨b,ws,rfl,sq',rl'⟩:=id r2
    cases q2
    obtain⟨its2,rv2,pt2,_⟩:=I.list (SqL.of sq')
    simp only[aL,Rep]at r1;subst r1;simp only[aD]at q1
    subst q1
    simp only[eqD]
    exact⟨EqAt.bool_list _ pt2.isList hu0,RcAt.bool_list _ pt2.isList hu0⟩
   |_=>first|(simp[dLe]at he;done)|exact ih (A:=A) (by omega) (by simp[dLe]) (by simp[dLe]) r1 r2 q1 q2
  |int a =>
   cases e with
   |tup es =>
    obtain⟨b,ws,rfl,sq',rl'⟩:=id r2
    cases q2
    obtain⟨its2,rv2,pt2,_⟩:=I.tuple sq'
    simp only[aL,Rep]at r1;subst r1;simp only[aD]at q1
    obtain⟨t,rfl⟩:=q1
    simp only[eqD]
    exact⟨EqAt.int_tuple _ _ pt2 hu0,RcAt.int_tuple _ _ pt2 hu0⟩
   |lst es =>
    obtain⟨b,ws,rfl,sq',rl'⟩:=id r2
    cases q2
    obtain⟨its2,rv2,pt2,_⟩:=I.list (SqL.of sq')
    simp only[aL,Rep]at r1;subst r1;simp only[aD]at q1
    obtain⟨t,rfl⟩:=q1
    simp only[eqD]
    exact⟨EqAt.int_list _ _ pt2.isList hu0,RcAt.int_list _ _ pt2.isList hu0⟩
   |_=>first|(simp[dLe]at he;done)|exact ih (A:=A) (by omega) (by simp[dLe]) (by simp[dLe]) r1 r2 q1 q2
  |str a =>
   cases e with
   |tup es =>
    obtain⟨b,ws,rfl,sq',rl'⟩:=id r2
    cases q2
    obtain⟨its2,rv2,pt2,_⟩:=I.tuple sq'
    simp only[aL,Rep]at r1;subst r1;simp only[aD]at q1
    obtain⟨t,rfl⟩:=q1
    simp only[eqD]
    exact⟨EqAt.str_tuple _ _ pt2 hu0,RcAt.str_tuple _ _ pt2 hu0⟩
   |lst es =>
    obtain⟨b,ws,rfl,sq',rl'⟩:=id r2
    cases q2
    obtain⟨its2,rv2,pt2,_⟩:=I.list (SqL.of sq')
    simp only[aL,Rep]at r1;subst r1;simp only[aD]at q1
    obtain⟨t,rfl⟩:=q1
    simp only[eqD]
    exact⟨EqAt.str_list _ _ pt2.isList hu0,RcAt.str_list _ _ pt2.isList hu0⟩
   |_=>first|(simp[dLe]at he;done)|exact ih (A:=A) (by omega) (by simp[dLe]) (by simp[dLe]) r1 r2 q1 q2
  |_=>simp[dLe]at hd
end
section
variable{X:Cx}{a b c e:K4}{es:List K4}{te ta tb:TEd}{pos:Pos}{st:Z7}{rest:List Z7}{t u:TSd}
/-! ### blocks and statements -/
def uQ:TSd:=fun E Δ M=>E.nx Δ M
def xf(t u:TSd):TSd:=fun E Δ M=>t { E with nx:=u E } Δ M
theorem EY:jC X [] uQ:=Bz.conv fun D σ H ⟨Δ,M,E,sr,hr,q,u⟩=>u.nx Δ M σ H q (Ext.refl _ _) hr sr
theorem Au(h1:PSd X st t) (h2:jC X rest u):jC X (st::rest) (xf t u) :=
 (yg h1 h2).conv fun D σ H ⟨Δ,M,E,sr,hr,q,k⟩=>⟨Δ,M,{ E with nx:=u E },sr,hr,q,⟨fun Δ' M' σ' H' q' e' hr' sr'=>⟨Δ',M',E,sr',hr',q',k.ext e'⟩,k.bk,k.ct,k.rt⟩⟩
theorem Ds(h1:PSd X st t):jC X [st] t:=A8 h1
def zW(te:TEd):TSd:=fun E Δ M=>te Δ M E.rt
theorem Hq(he:PEd X e te):PSd X (.Return (some e) pos) (zW te):=(tT he).conv fun D σ H ⟨Δ,M,E,sr,hr,q,k⟩=>⟨Δ,M,_,sr,hr,q,k.rt⟩
def uG(te:TEd):TSd:=fun E Δ M=>te Δ M fun _ M1=>E.nx Δ M1
theorem ED(he:PEd X e te) (hs:U7 e none pos.line X.env=W0 false:=by rfl):PSd X (.Expr e pos) (uG te) :=
 (Cg he hs).conv fun D σ H ⟨Δ,M,E,sr,hr,q,k⟩=>⟨Δ,M,_,sr,hr,q,fun d M1 v H1 q1 e1 hr1 _=>k.nx Δ M1 σ H1 q1 e1 hr1 (sr.ext e1)⟩
def Bu(c:TTd) (t u:TSd):TSd:=fun E Δ M=>c Δ M fun b M1=>if b=true then t E Δ M1 else u E Δ M1
theorem GU{sa sb:List Z7}{tc:TTd}(hc:PTd X c tc) (ha:jC X sa t) (hb:jC X sb u):PSd X (.If c sa sb pos) (Bu tc t u) :=
 (Gr hc ha hb).conv fun D σ H ⟨Δ,M,E,sr,hr,q,k⟩ => ⟨Δ,M,_,sr,hr,q,fun b M1 H1 q1 e1 hr1 => by
  cases b with
  |true=>simp only[if_true]at q1 ⊢;exact⟨Δ,M1,E,sr.ext e1,hr1,q1,k.ext e1⟩
  |false=>simp only[O8,if_false]at q1 ⊢;exact⟨Δ,M1,E,sr.ext e1,hr1,q1,k.ext e1⟩⟩
/-! a name is stored -/
def zc(i:Nat) (te:TEd):TSd:=fun E Δ M=>te Δ M fun d M1=>E.nx (Δ.set i (some d)) M1
theorem HB{i:Nat}{x:Str}{pos':Pos}(hN:X.N.Nodup) (hi:X.N[i]?=some x) (hx:Loc X.env.scope x) (he:PEd X e te) (hs:U7 e (some (.Name x pos')) pos.line X.env=W0 false:=by rfl) (hf:X.fn x=true∨X.env.scope.names.lookup x=some .local:=by first|exact .inl rfl|exact .inr rfl|assumption) :
  PSd X (.Assign [.Name x pos'] e pos) (zc i te):=(DN hN hi hx he hs hf).conv fun D σ H ⟨Δ,M,E,sr,hr,q,k⟩=>⟨Δ,M,_,sr,hr,q,fun d M1 v H1 q1 e1 hr1 rv=>k.nx _ M1 _ H1 q1 e1 hr1 ((sr.ext e1).set i rv)⟩
def E9(i:Nat) (te:TEd) (r:D->D->Option D):TSd:=fun E Δ M=>∃x,Δ[i]?=some (some x)/\te Δ M fun y M1=>∃z,r (rdM M1 x) (rdM M1 y)=some z/\E.nx (Δ.set i (some z)) M1
theorem Gx{i:Nat}{x:Str}{op:ab5}{r:D->D->Option D}{pos':Pos}(hN:X.N.Nodup) (hi:X.N[i]?=some x) (hx:Loc X.env.scope x) (he:PEd X e te) (ho:bO X (ac3 op) r) (hf:X.fn x=true∨X.env.scope.names.lookup x=some .local:=by first|exact .inl rfl|exact .inr rfl|assumption) :
  PSd X (.AugAssign (.Name x pos') op e pos) (E9 i te r):=by
 have h:PIp X op (opV X.K r):=fun ae s σ H x y v u Q I rx ry q=>ho.v ae s σ H x y v u Q I rx ry q
 refine(DS hN hi hx he h hf).conv fun D σ H hh=>?_
 obtain⟨Δ,M,E,sr,hr,⟨d,ed,q⟩,k⟩:=hh
 obtain⟨v,ev,rv⟩:=sr.2 i d ed
 refine⟨v,ev,Δ,M,_,sr,hr,q,fun y M1 w H1 ⟨z,ez,q1⟩ e1 hr1 rw_=>⟨_,_,z,M1,hr1,(rv.ext e1).rd hr1,rw_.rd hr1,ez,fun w2 H2 e2 hr2 r2=>k.nx _ M1 _ H2 q1 (e1.trans e2) hr2 (((sr.ext e1).ext e2).set i r2)⟩⟩
/-! a ghost step: a cell of ours is ours no more,a name that holds it has the list as a value -/
def sL(i:Nat) (t:TSd):TSd:=fun E Δ M=>∃a ds,Δ[i]?=some (some (.ref a))/\M a=some (.lst ds)/\t E (Δ.set i (some (.lst ds))) (fK M a)
theorem AE{sts:List Z7}(i:Nat) (h:jC X sts t):jC X sts (sL i t):=PSs.conv h fun D σ H ⟨Δ,M,E,sr,hr,⟨a,ds,e1,e2,q⟩,k⟩=>by
 refine⟨_,fK M a,E,?_,hr.le LeM.del,q,k.ext (Ext.le LeM.del)⟩
 obtain⟨v,ev,rv⟩:=sr.2 i _ e1
 simp only[Rep]at rv
 subst rv
 have:=(sr.ext (Ext.le (M1:=fK M a) LeM.del)).set i (Rep.froze (M1:=fK M a) hr LeM.del e2 df)
 have es:σ.set i (some (.ref a))=σ:=by
  apply List.ext_getElem?
  intro j
  by_cases hj:j=i
  ·subst hj
   have hl:j<σ.length:=(N0.mp ev).1
   rw[R9 hl,ev]
  ·rw[V4 (W9 hj)]
 rw[es]at this
 exact this
/-! ### targets -/
abbrev GD:=D->DE->Option DE
def PGd(X:Cx) (tg:K4) (g:GD):Prop:=∃gv:TG,PG X tg gv/\∀(d:D) (v:V) (σ:St) (Δ Δ':DE) (M:DH) (H:Hp) (Q:St->Hp->Prop),SR X.K M H σ Δ->HR X.K M H->Rep X.K M H d v->g d Δ=some Δ'->(∀ σ',SR X.K M H σ' Δ'->Q σ' H)->gv v σ H Q
def bf(i:Nat):GD:=fun d Δ=>some (Δ.set i (some d))
theorem aH{i:Nat}{x:Str}(hN:X.N.Nodup) (hi:X.N[i]?=some x) (hx:Loc X.env.scope x) (hf:X.fn x=true∨X.env.scope.names.lookup x=some .local:=by first|exact .inl rfl|exact .inr rfl|assumption):PGd X (.Name x pos) (bf i) :=
 ⟨oP i,qA hN hi hx hf,fun d v σ Δ Δ' M H Q sr hr rv e k=>by cases e;exact k _ (sr.set i rv)⟩
abbrev GDs:=List D->DE->Option DE
def Az(X:Cx) (tgs:List K4) (g:GDs):Prop:=∃gv:TGs,PGs X tgs gv/\∀(ds:List D) (vs:List V) (σ:St) (Δ Δ':DE) (M:DH) (H:Hp) (Q:St->Hp->Prop),SR X.K M H σ Δ->HR X.K M H->aq X.K M H ds vs->g ds Δ=some Δ'->(∀ σ',SR X.K M H σ' Δ'->Q σ' H)->gv vs σ H Q
def kK:GDs:=fun ds Δ=>match ds with|[]=>some Δ|_=>none
def eF(g:GD) (gs:GDs):GDs:=fun ds Δ=>match ds with|[]=>none|d::r=>(g d Δ).bind fun Δ1=>gs r Δ1
def iK(g:GDs) (n:Nat):GD:=fun d Δ=>match d with|.tup ds=>if ds.length=n then g ds Δ else none|_=>none
theorem gn:Az X [] kK:=⟨ES,uH,fun ds vs σ Δ Δ' M H Q sr hr rv e k=>by
 cases ds with
 |nil=>simp only[aq]at rv;subst rv;cases e;exact⟨rfl,k _ sr⟩
 |cons _ _=>cases e⟩
theorem bc{tg:K4}{tgs:List K4}{g:GD}{gs:GDs}(h1:PGd X tg g) (h2:Az X tgs gs)
  (hs:(P4 (tg::tgs) X.env).map (·.2)=X9 tg X.env::(P4 tgs X.env).map (·.2):=by rfl):Az X (tg::tgs) (eF g gs):=by
 obtain⟨g1,p1,k1⟩:=h1
 obtain⟨g2,p2,k2⟩:=h2
 refine⟨Ab g1 g2,qM p1 p2 hs,fun ds vs σ Δ Δ' M H Q sr hr rv e k=>?_⟩
 cases ds with
 |nil=>cases e
 |cons d r =>
  simp only[aq]at rv
  obtain⟨v,ws,rfl,h3,h4⟩:=rv
  simp only[eF]at e
  cases q:g d Δ with
  |none=>rw[q]at e;cases e
  |some Δ1 =>
   rw[q]at e
   exact⟨v,ws,rfl,k1 d v σ Δ Δ1 M H _ sr hr h3 q fun σ1 sr1=>k2 r ws σ1 Δ1 Δ' M H Q sr1 hr h4 e k⟩
theorem gq{tgs:List K4}{kx:Nat}{g:GDs}{n:Nat}(hc:X.calm=true) (h:Az X tgs g) (hn:(P4 tgs X.env).length=n:=by rfl) (hst:(P4 tgs X.env).findIdx? (·.1)=none:=by rfl):PGd X (.Tuple tgs kx pos) (iK g n):=by
 obtain⟨g1,p1,k1⟩:=h
 refine⟨Fu X.K n g1,yU hc p1 hn hst,fun d v σ Δ Δ' M H Q sr hr rv e k=>?_⟩
 cases d with
 |tup ds =>
  simp only[iK]at e
  by_cases hl:ds.length=n
  ·rw[if_pos hl]at e
   simp only[Rep]at rv
   obtain⟨a,vs,rfl,ta,rl⟩:=rv
   exact⟨a,vs,rfl,ta.sq,by rw[<-rl.length];exact hl,k1 ds vs σ Δ Δ' M H Q sr hr rl e k⟩
  ·rw[if_neg hl]at e;cases e
 |_=>cases e
def EW(te:TEd) (g:GD):TSd:=fun E Δ M=>te Δ M fun d M1=>∃ Δ',g d Δ=some Δ'/\E.nx Δ' M1
theorem Hk{tg:K4}{g:GD}(he:PEd X e te) (hg:PGd X tg g) (hs:Y0 [tg] e pos.line X.env=W0 false:=by rfl) (hw:Y1 [tg] e X.env=W0 none:=by rfl)
  (h1:(P4 [tg] X.env).map (·.2)=[X9 tg X.env]:=by rfl):PSd X (.Assign [tg] e pos) (EW te g):=by
 obtain⟨gv,pg,kg⟩:=hg
 exact(yp he pg hs hw h1).conv fun D σ H ⟨Δ,M,E,sr,hr,q,k⟩=>⟨Δ,M,_,sr,hr,q,fun d M1 v H1 ⟨Δ',eg,q1⟩ e1 hr1 rv=>kg d v σ Δ Δ' M1 H1 _ (sr.ext e1) hr1 rv eg fun σ' sr'=>k.nx Δ' M1 σ' H1 q1 e1 hr1 sr'⟩
/-! ### what is walked -/
abbrev TId:=DE->DH->(List D->DH->Prop)->Prop
def ItD(K:o0) (J:It) (ds:List D) (M1:DH) (H1:Hp):Prop:=∀M2 H2,Ext M1 H1 M2 H2->HR K M2 H2->∀i,(∀d,ds[i]?=some d->J.go i H2/\∀x H',J.yld i H2 x H'->Ext M2 H2 M2 H'/\HR K M2 H'/\Rep K M2 H' d x)/\(ds.length<=i->J.stop i H2)
def upI(K:o0) (wi:TId):TI:=fun σ H R=>∃(Δ:DE) (M:DH) (R':List D->DH->Prop),SR K M H σ Δ/\HR K M H/\wi Δ M R'/\∀ds M1 J H1,R' ds M1->Ext M H M1 H1->HR K M1 H1->ItD K J ds M1 H1->R J H1
def PId(X:Cx) (tg iter:K4) (wi:TId):Prop:=PI X tg iter (upI X.K wi)
theorem PI.conv{tg iter:K4}{w w':TI}(h:PI X tg iter w) (k:∀ σ H R,w' σ H R->w σ H R):PI X tg iter w':=fun p s σ H R I q=>h p s σ H R I (k σ H R q)
variable{tg iter:K4}
def hV(lo:Int) (n:Nat):List D:=(V7 n).map fun(k:Nat)=>.int (lo+(k:Int))
theorem cS{lo:Int}{n i:Nat}{d:D}(h:(hV lo n)[i]?=some d):i<n/\d=.int (lo+i):=by
 unfold hV at h
 rw[O7]at h
 by_cases hi:i<n
 ·rw[List.getElem?_range hi]at h;cases h;exact⟨hi,rfl⟩
 ·rw[List.getElem?_eq_none (by simp;omega)]at h;cases h
theorem AV{K:o0}{lo:Int}{n:Nat}{M1:DH}{H1:Hp}:ItD K (Itr lo n) (hV lo n) M1 H1:=fun M2 H2 e2 hr2 i=>⟨fun d hd=>by
  obtain⟨h1,rfl⟩:=cS hd
  refine⟨h1,fun x H' ⟨eH,y⟩=>?_⟩
  subst eH;subst y
  exact⟨Ext.refl _ _,hr2,by simp[Rep]⟩,fun hl=>by
  show n<=i
  simpa[hV]using hl⟩
def qj(ta:TAd):TId:=fun Δ M R=>ta Δ M fun ds M1=>∃j:Int,ds=[.int j]/\-(2 ^ 62)<=j/\j<2 ^ 62/\R (hV 0 j.toNat) M1
theorem EO{ta:TAd}{p:Pos}(hg:Gl X "range") (hm:X.mg "range"=none) (ha:PAd X [a] ta) (hs:J5 [a] X.env=[(false,T7 a X.env)]:=by rfl):PId X tg (.Call (.Name "range" p) [a] [] pos) (qj ta) :=
 (wb hg hm ha hs).conv fun σ H R ⟨Δ,M,R',sr,hr,q,k⟩ => ⟨Δ,M,_,sr,hr,q,fun ds M1 vs H1 ⟨j,ed,h1,h2,q1⟩ e1 hr1 rv => by
  subst ed
  obtain⟨v,ev,rv1⟩:=rv.one
  have ev1:v=.int j:=by simpa only[Rep]using rv1
  subst ev1;subst ev
  exact⟨j,rfl,h1,h2,k _ M1 _ H1 q1 e1 hr1 AV⟩⟩
/-! ### for -/
def cZ(g:GD) (tb:TSd) (E:iG):List D->DE->DH->Prop
 |[],Δ,M=>E.nx Δ M
 |d::ds,Δ,M=>∃ Δ',g d Δ=some Δ'/\tb { E with nx:=cZ g tb E ds,ct:=cZ g tb E ds,bk:=E.nx } Δ' M
def As(wi:TId) (g:GD) (tb:TSd):TSd:=fun E Δ M=>wi Δ M fun ds M1=>cZ g tb E ds Δ M1
theorem Ha{body:List Z7}{wi:TId}{g:GD}{tb:TSd}(hp:ab0 (L3 X.prog X.w) X.A X.env X.xe) (hc:X.calm=true) (hi:PId X tg iter wi) (hg:PGd X tg g) (hb:jC X body tb)
  (hs:∀x,O0 iter X.env x=W0 x:=by intro _;rfl):PSd X (.For tg iter body [] pos) (As wi g tb):=by
 obtain⟨gv,pg,kg⟩:=hg
 refine(FA hp hc hi pg hb hs).conv fun D σ H hh=>?_
 obtain⟨Δ,M,E,sr,hr,q,k⟩:=hh
 refine⟨Δ,M,_,sr,hr,q,fun ds M1 J H1 q1 e1 hr1 it=>?_⟩
 refine⟨fun i m σ' H'=>∃ Δ' M',m=ds.length-i/\i<=ds.length/\Ext M1 H1 M' H'/\HR X.K M' H'/\SR X.K M' H' σ' Δ'/\cZ g tb E (ds.drop i) Δ' M',⟨ds.length,Δ,M1,by simp,U1 _,Ext.refl _ _,hr1,sr.ext e1,q1⟩,?_⟩
 rintro i m σ2 H2 ⟨Δ2,M2,rfl,hi2,e2,hr2,sr2,f2⟩
 obtain⟨go,stop⟩:=it M2 H2 e2 hr2 i
 by_cases hlt:i<ds.length
 ·have hd:ds[i]?=some ds[i]:=by simp[hlt]
  obtain⟨g1,y1⟩:=go _ hd
  rw[List.drop_eq_getElem_cons hlt]at f2
  simp only[cZ]at f2
  obtain⟨Δ3,eg,f3⟩:=f2
  refine .inr ⟨g1,fun σ' H'=>∃m',m'<ds.length-i/\∃ Δ' M',m'=ds.length-(i+1)/\i+1<=ds.length/\Ext M1 H1 M' H'/\HR X.K M' H'/\SR X.K M' H' σ' Δ'/\cZ g tb E (ds.drop (i+1)) Δ' M',fun σ' H' z=>z,fun x H' hy=>?_⟩
  obtain⟨e3,hr3,rx⟩:=y1 x H' hy
  refine kg _ x σ2 Δ2 Δ3 M2 H' _ (sr2.ext e3) hr3 rx eg fun σ3 sr3=>?_
  refine⟨Δ3,M2,_,sr3,hr3,f3,⟨fun Δ' M' σ' H'' q' e' hr' sr'=>?_,fun Δ' M' σ' H'' q' e' hr' sr'=>?_,fun Δ' M' σ' H'' q' e' hr' sr'=>?_,fun d M' v H'' q' e' hr' rv'=>?_⟩⟩
  ·exact⟨_,by omega,Δ',M',rfl,hlt,(e2.trans e3).trans e',hr',sr',q'⟩
  ·exact k.nx Δ' M' σ' H'' q' (((e1.trans e2).trans e3).trans e') hr' sr'
  ·exact⟨_,by omega,Δ',M',rfl,hlt,(e2.trans e3).trans e',hr',sr',q'⟩
  ·exact k.rt d M' v H'' q' (((e1.trans e2).trans e3).trans e') hr' rv'
 ·rw[List.drop_eq_nil_of_le (by omega)]at f2
  exact .inl ⟨stop (by omega),k.nx Δ2 M2 σ2 H2 f2 (e1.trans e2) hr2 sr2⟩
/-! ### while -/
def sH(c:TTd) (tb:TSd):TSd:=fun E Δ M=>∃W:Nat->DE->DH->Prop,(∃m,W m Δ M)/\∀m Δ M,W m Δ M->c Δ M fun b M1=>if b=true then tb { E with nx:=fun Δ' M'=>∃m',m'<m/\W m' Δ' M',ct:=fun Δ' M'=>∃m',m'<m/\W m' Δ' M',bk:=E.nx } Δ M1 else E.nx Δ M1
theorem BX{body:List Z7}{tc:TTd}{tb:TSd}(hp:ab0 (L3 X.prog X.w) X.A X.env X.xe) (hc:PTd X c tc) (hb:jC X body tb):PSd X (.While c body [] pos) (sH tc tb):=by
 refine(xP hp hc hb).conv fun D σ H hh=>?_
 obtain⟨Δ,M,E,sr,hr,⟨W,⟨m0,w0⟩,turn⟩,k⟩:=hh
 refine⟨fun m σ' H'=>∃ Δ' M',Ext M H M' H'/\HR X.K M' H'/\SR X.K M' H' σ' Δ'/\W m Δ' M',⟨m0,Δ,M,Ext.refl _ _,hr,sr,w0⟩,?_⟩
 rintro m σ1 H1 ⟨Δ1,M1,e1,hr1,sr1,w1⟩
 refine⟨Δ1,M1,_,sr1,hr1,turn m Δ1 M1 w1,fun b M2 H2 q2 e2 hr2=>?_⟩
 cases b with
 |true =>
  simp only[if_true]at q2 ⊢
  refine⟨fun σ' H'=>∃m',m'<m/\∃ Δ' M',Ext M H M' H'/\HR X.K M' H'/\SR X.K M' H' σ' Δ'/\W m' Δ' M',fun σ' H' z=>z,Δ1,M2,_,sr1.ext e2,hr2,q2,⟨fun Δ' M' σ' H'' ⟨m',hm,w'⟩ e' hr' sr'=>?_,fun Δ' M' σ' H'' q' e' hr' sr'=>?_,fun Δ' M' σ' H'' ⟨m',hm,w'⟩ e' hr' sr'=>?_,fun d M' v H'' q' e' hr' rv'=>?_⟩⟩
  ·exact⟨m',hm,Δ',M',(e1.trans e2).trans e',hr',sr',w'⟩
  ·exact k.nx Δ' M' σ' H'' q' ((e1.trans e2).trans e') hr' sr'
  ·exact⟨m',hm,Δ',M',(e1.trans e2).trans e',hr',sr',w'⟩
  ·exact k.rt d M' v H'' q' ((e1.trans e2).trans e') hr' rv'
 |false =>
  simp only[O8,if_false]at q2 ⊢
  exact k.nx Δ1 M2 σ1 H2 q2 (e1.trans e2) hr2 (sr1.ext e2)
end
def ve:D->Prop
 |.tup ds=>ds.length<=J0
 |.lst ds=>ds.length<=J0
 |.scr ds=>ds.length<=J0
 |_=>True
section
variable{X:Cx}{a b c e:K4}{es:List K4}{te ta tb:TEd}{pos:Pos}{tg iter elt:K4}
theorem aL.len{K:o0}{ae:List (J9×Obj)}{σ:St}{H:Hp}{s:I0}{M:DH}{d:D}{v:V}(I:Inv X ae σ H s) (h:Rep X.K M H d v):ve d:=by
 cases d with
 |tup ds =>
  simp only[Rep]at h;obtain⟨a,vs,e,t,r⟩:=h
  obtain⟨_,_,_,z⟩:=I.tuple t.sq
  simp only[ve];rw[r.length];exact z
 |lst ds =>
  simp only[Rep]at h;obtain⟨a,vs,e,t,r⟩:=h
  obtain⟨_,_,_,z⟩:=I.list (SqL.of t.1)
  simp only[ve];rw[r.length];exact z
 |scr ds =>
  simp only[Rep]at h;obtain⟨a,vs,e,t,r⟩:=h
  obtain⟨_,_,_,z⟩:=I.list t.sq
  simp only[ve];rw[r.length];exact z
 |_=>trivial
/-! ### comprehensions -/
def cz:List Bool->DE->DE
 |true::ms,v::σ=>v::cz ms σ
 |false::ms,_::σ=>none::cz ms σ
 |[],_::σ=>none::cz [] σ
 |_,[]=>[]
def eQ(ms:List Bool) (k:Nat) (Δ:DE):DE:=cz ms Δ++K2 k none
theorem cU:∀(ms:List Bool) (σ:DE),(cz ms σ).length=σ.length
 |true::ms,v::σ=>by simp[cz,cU ms σ]
 |false::ms,_::σ=>by simp[cz,cU ms σ]
 |[],_::σ=>by simp[cz,cU [] σ]
 |[],[]=>by simp[cz]
 |true::_,[]=>by simp[cz]
 |false::_,[]=>by simp[cz]
theorem il:∀{ms:List Bool}{σ:DE}{i:Nat}{v:D},(cz ms σ)[i]?=some (some v)->ms[i]?=some true/\σ[i]?=some (some v)
 |true::ms,v::σ,0,x,h=>by simpa[cz]using h
 |true::ms,v::σ,i+1,x,h=>by
  have:=il (ms:=ms) (σ:=σ) (i:=i) (v:=x) (by simpa[cz]using h)
  simpa using this
 |false::ms,_::σ,0,x,h=>by simp[cz]at h
 |false::ms,_::σ,i+1,x,h=>by
  have:=il (ms:=ms) (σ:=σ) (i:=i) (v:=x) (by simpa[cz]using h)
  simpa using this
 |[],_::σ,0,x,h=>by simp[cz]at h
 |[],_::σ,i+1,x,h=>by
  have:=il (ms:=[]) (σ:=σ) (i:=i) (v:=x) (by simpa[cz]using h)
  simpa using this
 |[],[],_,_,h=>by simp[cz]at h
 |true::_,[],_,_,h=>by simp[cz]at h
 |false::_,[],_,_,h=>by simp[cz]at h
theorem i6:∀{ms:List Bool}{σ:St}{i:Nat}{v:V},ms[i]?=some true->σ[i]?=some (some v)->(bV ms σ)[i]?=some (some v)
 |true::ms,v::σ,0,x,h,h2=>by simpa[bV]using h2
 |true::ms,v::σ,i+1,x,h,h2=>by
  have:=i6 (ms:=ms) (σ:=σ) (i:=i) (v:=x) (by simpa using h) (by simpa using h2)
  simpa[bV]using this
 |false::ms,_::σ,0,x,h,h2=>by simp at h
 |false::ms,_::σ,i+1,x,h,h2=>by
  have:=i6 (ms:=ms) (σ:=σ) (i:=i) (v:=x) (by simpa using h) (by simpa using h2)
  simpa[bV]using this
 |[],_,_,_,h,_=>by simp at h
 |_::_,[],_,_,_,h=>by simp at h
theorem SR.comp{K:o0}{M:DH}{H:Hp}{σ:St}{Δ:DE}(ms:List Bool) (k:Nat) (h:SR K M H σ Δ):SR K M H (dm ms k σ) (eQ ms k Δ):=by
 refine⟨by simp[dm,eQ,bM,cU,h.1],fun i d q=>?_⟩
 unfold eQ at q
 by_cases hi:i<(cz ms Δ).length
 ·rw[N6 hi]at q
  obtain⟨m,e⟩:=il q
  obtain⟨v,ev,rv⟩:=h.2 i d e
  refine⟨v,?_,rv⟩
  have:=i6 m ev
  unfold dm
  rw[N6 (by rw[bM,h.1,<-cU ms];exact hi)]
  exact this
 ·rw[S1 (by omega),U4]at q
  split at q<;>cases q
def eR(g:GD) (tc:TTd) (te:TEd):List D->DE->DH->List D->(List D->DH->Prop)->Prop
 |[],_,M,acc,Q=>Q acc M
 |d::ds,Δ,M,acc,Q=>∃ Δ',g d Δ=some Δ'/\tc Δ' M fun b M1=>if b=true then te Δ' M1 fun y M2=>eR g tc te ds Δ' M2 (acc++[y]) Q else eR g tc te ds Δ' M1 acc Q
def dLc(ms:List Bool) (k:Nat) (wi:TId) (g:GD) (tc:TTd) (te:TEd):TEd:=fun Δ M Q=>wi Δ M fun ds M1=>ds.length<=J0/\eR g tc te ds (eQ ms k Δ) M1 [] fun ys M2=>Q (.lst ys) M2
def nJ(X:Cx) (ifs:List K4) (t:TTd):Prop:=PIf X ifs (upT X.K t)
def qz:TTd:=fun _ M Q=>Q true M
theorem FU:nJ X [] qz:=fun ae s σ H Q I ⟨Δ,M,R,sr,hr,q,k⟩=>B4 ae s σ H Q I (k true M H q (Ext.refl _ _) hr)
theorem FT{tc:TTd}(h:PTd X c tc):nJ X [c] tc:=Bs h
theorem oX{K:o0}{wi:TId}{g:GD}{tc:TTd}{te:TEd}{gv:TG}{ms:List Bool}{kk:Nat}
  (kg:∀(d:D) (v:V) (σ:St) (Δ Δ':DE) (M:DH) (H:Hp) (Q:St->Hp->Prop),SR K M H σ Δ->HR K M H->Rep K M H d v->g d Δ=some Δ'->(∀ σ',SR K M H σ' Δ'->Q σ' H)->gv v σ H Q) :
  ∀ σ H Q,up K (dLc ms kk wi g tc te) σ H Q->tLc ms kk (upI K wi) gv (upT K tc) (up K te) σ H Q:=by
 rintro σ H Q ⟨Δ,M,R,sr,hr,q,k⟩
 refine⟨Δ,M,_,sr,hr,q,fun ds M1 J H1 ⟨hz,q1⟩ e1 hr1 it=>?_⟩
 refine⟨fun i m ys σ' H'=>∃ Δ' M' acc,m=ds.length-i/\i<=ds.length/\Ext M1 H1 M' H'/\HR K M' H'/\SR K M' H' σ' Δ'/\aq K M' H' acc ys/\acc.length<=i/\eR g tc te (ds.drop i) Δ' M' acc fun ys M2=>R (.lst ys) M2,
  fun ys H'=>∃M' acc,Ext M1 H1 M' H'/\HR K M' H'/\aq K M' H' acc ys/\R (.lst acc) M',⟨ds.length,_,M1,[],by simp,U1 _,Ext.refl _ _,hr1,(sr.ext e1).comp ms kk,aq.nil,by simp,q1⟩,?_,?_⟩
 ·rintro i m ys σ2 H2 ⟨Δ2,M2,acc,rfl,hi2,e2,hr2,sr2,ra,la,f2⟩
  have hl:ys.length<=J0:=by rw[<-ra.length];omega
  refine⟨hl,?_⟩
  obtain⟨go,stop⟩:=it M2 H2 e2 hr2 i
  by_cases hlt:i<ds.length
  ·have hd:ds[i]?=some ds[i]:=by simp[hlt]
   obtain⟨g1,y1⟩:=go _ hd
   rw[List.drop_eq_getElem_cons hlt]at f2
   simp only[eR]at f2
   obtain⟨Δ3,eg,f3⟩:=f2
   refine .inr ⟨g1,fun x H' hy=>?_⟩
   obtain⟨e3,hr3,rx⟩:=y1 x H' hy
   refine kg _ x σ2 Δ2 Δ3 M2 H' _ (sr2.ext e3) hr3 rx eg fun σ3 sr3=>?_
   refine⟨Δ3,M2,_,sr3,hr3,f3,fun b M4 H4 q4 e4 hr4=>?_⟩
   cases b with
   |true =>
    simp only[if_true]at q4 ⊢
    refine⟨Δ3,M4,_,sr3.ext e4,hr4,q4,fun y M5 v5 H5 q5 e5 hr5 rv5=>?_⟩
    refine⟨ds.length-(i+1),by omega,Δ3,M5,acc++[y],rfl,hlt,((e2.trans e3).trans e4).trans e5,hr5,(sr3.ext e4).ext e5,(((ra.ext e3).ext e4).ext e5).append (aq.cons rv5 aq.nil),by simp;omega,q5⟩
   |false =>
    simp only[O8,if_false]at q4 ⊢
    exact⟨ds.length-(i+1),by omega,Δ3,M4,acc,rfl,hlt,(e2.trans e3).trans e4,hr4,sr3.ext e4,(ra.ext e3).ext e4,by omega,q4⟩
  ·rw[List.drop_eq_nil_of_le (by omega)]at f2
   exact .inl ⟨stop (by omega),M2,acc,e2,hr2,ra,f2⟩
 ·rintro ys H' p ⟨M',acc,e',hr',ra,q'⟩ hp
  refine k _ M' _ _ q' ((e1.trans e').trans (Ext.new hr' hp)) (hr'.new hp) ?_
  simp only[Rep]
  exact⟨p,ys,rfl,⟨aC,hr'.fresh hp⟩,ra.ext (Ext.new hr' hp)⟩
variable{scope:U9}{cl:List (Str×J9)}{ms:List Bool}{ah:List Str}{ifs:List K4}
def PGa(X:Cx) (scope:U9) (cl:List (Str×J9)) (ah:List Str) (tg:K4) (g:GD):Prop:=∃gv:TG,(∀C s H ex,PG (ay X scope cl (X.N++ah) C s H ex) tg gv)/\∀(d:D) (v:V) (σ:St) (Δ Δ':DE) (M:DH) (H:Hp) (Q:St->Hp->Prop),SR X.K M H σ Δ->HR X.K M H->Rep X.K M H d v->g d Δ=some Δ'->(∀ σ',SR X.K M H σ' Δ'->Q σ' H)->gv v σ H Q
theorem HL{wi:TId}{g:GD}{tc:TTd}{te:TEd}(S:cI X scope cl ms ah) (bt:X.calm=true) (hi:PId X tg iter wi) (hg:PGa X scope cl ah tg g)
  (hif:∀C s H ex,nJ (ay X scope cl (X.N++ah) C s H ex) ifs tc) (he:∀C s H ex,PEd (ay X scope cl (X.N++ah) C s H ex) elt te)
  (hs:∀x,O0 iter X.env x=W0 x:=by intro _;rfl):PEd X (.ListComp elt [⟨tg,iter,ifs,0⟩] scope pos) (dLc ms ah.length wi g tc te):=by
 obtain⟨gv,pg,kg⟩:=hg
 exact(GT (tc:=upT X.K tc) (te:=up X.K te) S bt hi pg hif he hs).conv (oX kg)
theorem BF{i:Nat}{x:Str}{spos pos':Pos}{wi:TId}{g:GD}{tc:TTd}{te:TEd}(hN:X.N.Nodup) (hix:X.N[i]?=some x) (hx:X.env.scope.names.lookup x=some .local)
  (hsw:U7 (.ListComp elt [⟨tg,iter,ifs,0⟩] scope pos) (some (.Name x pos')) spos.line X.env=W0 true) (S:cI X scope cl ms ah) (bt:X.calm=true) (hi:PId X tg iter wi) (hg:PGa X scope cl ah tg g)
  (hif:∀C s H ex,nJ (ay X scope cl (X.N++ah) C s H ex) ifs tc) (he:∀C s H ex,PEd (ay X scope cl (X.N++ah) C s H ex) elt te)
  (hs:∀x,O0 iter X.env x=W0 x:=by intro _;rfl):PSd X (.Assign [.Name x pos'] (.ListComp elt [⟨tg,iter,ifs,0⟩] scope pos) spos) (zc i (dLc ms ah.length wi g tc te)):=by
 obtain⟨gv,pg,kg⟩:=hg
 refine(y0 (tc:=upT X.K tc) (te:=up X.K te) hN hix hx hsw S bt hi pg hif he hs).conv fun D σ H hh=>?_
 obtain⟨Δ,M,E,sr,hr,q,k⟩:=hh
 exact oX kg σ H _ ⟨Δ,M,_,sr,hr,q,fun d M1 v H1 q1 e1 hr1 rv=>k.nx _ M1 _ H1 q1 e1 hr1 ((sr.ext e1).set i rv)⟩
theorem aU{i:Nat}{x:Str}{pos:Pos}(hN:(X.N++ah).Nodup) (hi:(X.N++ah)[i]?=some x) (hx:(aa6 scope X.env).names.lookup x=some .local):PGa X scope cl ah (.Name x pos) (bf i) :=
 ⟨oP i,fun C s H ex=>qA hN hi (.inl hx) (.inr hx),fun d v σ Δ Δ' M H Q sr hr rv e k=>by cases e;exact k _ (sr.set i rv)⟩
end
/-! ### a def's promise over deep data -/
abbrev SpD:=List D->DH->(D->DH->Prop)->Prop
def spD(K:o0) (n:Nat) (S:SpD):Sp:=fun vs H Q _=>∃(ds:List D) (M:DH) (R:D->DH->Prop),ds.length=n/\aq K M H ds vs/\HR K M H/\S ds M R/\∀d M' v H',R d M'->Ext M H M' H'->HR K M' H'->Rep K M' H' d v->Q v H'
theorem Ax{K:o0}{n:Nat}{S:SpD}{vs:List V}{H:Hp}{Q:VK}{E:XK}(h:spD K n S vs H Q E):vs.length=n:=by
 obtain⟨ds,M,R,hl,r,_⟩:=h
 rw[<-r.length];exact hl
def iX(N:List Str) (ds:List D):DE:=ds.map some++K2 (N.length-ds.length) none
theorem yf{K:o0}{M:DH}{H:Hp}{N:List Str}:∀{ds:List D}{vs:List V},aq K M H ds vs->SR K M H (cN N vs) (iX N ds):=by
 intro ds vs h
 have hl:=h.length
 refine⟨by simp[cN,iX,hl],fun i d q=>?_⟩
 unfold iX at q
 by_cases hi:i<ds.length
 ·rw[N6 (by simpa using hi),O7]at q
  cases e:ds[i]? with
  |none=>rw[e]at q;cases q
  |some d' =>
   rw[e]at q;cases q
   obtain⟨v,gv,rv⟩:=h.get e
   refine⟨v,?_,rv⟩
   unfold cN
   rw[N6 (by simp;omega),O7,gv]
   rfl
 ·rw[S1 (by simpa using hi),U4]at q
  split at q<;>cases q
section
variable{P:L8}{w:P2}{K:o0}{mg:Str->Option s0}{base:L9}
theorem Fun.okD{x qual:Str}{st:Z7}{f:J9}{fd:U3}{N ps:List Str}{k n:Nat}{S:SpD}(F:Fun K x qual st f fd) (hn:ps.length=n) (Sc:az N ps (am st))
  (hbody:∀ (cdv:s0) (A:O3) (outer:List Env) (s:I0) (H:Hp) (E:XK),cA k (A.deeper (ab8 qual (am st) s.heap.objs.size f cdv)) →
   ∃t:TSd,jC (sj CX0 P w K mg base N qual (am st) f cdv A outer s H E).nox (dh st) t/\∀ds M R,ds.length=n->S ds M R->t { nx:=fun _ M'=>R .non M',rt:=R } (iX N ds) M):ba P w K mg base CX0 (k+1) f fd ps (spD K n S):=by
 refine F.ok Sc (fun vs H Q E h=>by rw[hn];exact Ax h) (fun cdv A outer s H vs Q E hr h=>?_)
 obtain⟨t,ht,hq⟩:=hbody cdv A outer s H E hr
 obtain⟨ds,M,R,hl,r,hrr,q,k'⟩:=h
 refine⟨_,ht,iX N ds,M,_,yf r,hrr,hq ds M R hl q,⟨fun Δ' M' σ' H' q' e' hr' _=>k' .non M' .non H' q' e' hr' (by simp[Rep]),fun _ _ _ _ q'=>Q5 q',fun _ _ _ _ q'=>Q5 q',fun d M' v H' q' e' hr' rv=>k' d M' v H' q' e' hr' rv⟩⟩
end
section
variable{X:Cx}{a b c e:K4}{es:List K4}{te ta tb:TEd}{t:TAd}{pos:Pos}
def iJ(n:Nat) (S:SpD) (t:TAd):TEd:=fun Δ M Q=>t Δ M fun ds M1=>ds.length=n/\S ds M1 Q
theorem Fx{k:Nat}{f:J9}{fd:U3}{ps:List Str}{n:Nat}{S:SpD}{x:Str}{p:Pos}(F:ba X.prog X.w X.K X.mg X.base CX0 k f fd ps (spD X.K n S)) (hr:cA k X.A) (hg:Gl X x) (hm:X.mg x=some (.ref f)) (hk:V5 X.K (.ref f)=true) (hb:dv X.K fd ps [])
  (ha:PAd X (e::es) t) (hdb:(x==("__debug__":Str))=false:=by decide) (he:J5 (e::es) X.env=(false,T7 e X.env)::J5 es X.env:=by rfl) (hpl:(T3 pos (J5 es X.env)).any (·.1)=false:=by rfl) :
  PEd X (.Call (.Name x p) (e::es) [] pos) (iJ n S t) :=
 (BO F hr hg hm hk hb .nil CB ha hdb he hpl).conv fun σ H Q ⟨Δ,M,R,sr,hr,q,k⟩ => ⟨Δ,M,_,sr,hr,q,fun ds M1 vs H1 ⟨hl,q1⟩ e1 hr1 rv => by
  dsimp only;rw[Y6]
  exact⟨ds,M1,R,hl,rv,hr1,q1,fun d M' v H' q' e' hr' rv'=>k d M' v H' q' (e1.trans e') hr' rv'⟩⟩
/-! ### cells of ours are written -/
def Ek(to ti te:TEd):TSd:=fun E Δ M=>te Δ M fun d M1=>to Δ M1 fun o M2=>ti Δ M2 fun i M3=>∃a ds k j,o=.ref a/\i=.int k/\M3 a=some (.lst ds)/\ixN ds.length k=some j/\E.nx Δ (aw M3 a (.lst (ds.set j d)))
theorem Gv{o i:K4}{to ti:TEd}{p:Pos}(ho:PEd X o to) (hi:PEd X i ti) (he:PEd X e te)
  (ha:∀ v,X9 (.Subscript o i p) X.env v = (do
   let ov <-Y3 [v] (T7 o X.env)
   let iv <-Y3 [v,ov] (T7 i X.env)
   ad3 p
   Y3 [v,ov,iv] (setItem ov iv v)
   release [v,ov,iv] []):=by intro _;rfl) (hs:Y0 [.Subscript o i p] e pos.line X.env=W0 false:=by rfl) (hw:Y1 [.Subscript o i p] e X.env=W0 none:=by rfl)
  (h1:(P4 [.Subscript o i p] X.env).map (·.2)=[X9 (.Subscript o i p) X.env]:=by rfl):PSd X (.Assign [.Subscript o i p] e pos) (Ek to ti te) :=
 (yp he (Ed ho hi xt ha) hs hw h1).conv fun D σ H ⟨Δ,M,E,sr,hr,q,k⟩ => ⟨Δ,M,_,sr,hr,q,fun d M1 v H1 q1 e1 hr1 rv => ⟨Δ,M1,_,sr.ext e1,hr1,q1,fun o M2 ov H2 q2 e2 hr2 ro => ⟨Δ,M2,_,(sr.ext e1).ext e2,hr2,q2,fun i M3 iv H3 ⟨a,ds,kk,j,eo,ei,em,ej,q3⟩ e3 hr3 ri => by
  subst eo;subst ei
  simp only[Rep]at ro ri
  subst ro;subst ri
  obtain⟨vs,hv,rl⟩:=hr3 a _ em
  refine⟨a,vs,kk,j,rfl,rfl,hv,by rw[<-rl.length];exact ej,?_⟩
  exact k.nx Δ _ σ _ q3 (((e1.trans e2).trans e3).trans (Ext.write em)) (hr3.write em (rl.set j ((rv.ext e2).ext e3))) ((((sr.ext e1).ext e2).ext e3).ext (Ext.write em))⟩⟩⟩
def BD(to te:TEd):TEd:=fun Δ M Q=>to Δ M fun o M1=>∃a l,o=.ref a/\M1 a=some (.lst l)/\te Δ M1 fun d M2=>∃ds,M2 a=some (.lst ds)/\ds.length<J0/\Q .non (aw M2 a (.lst (ds++[d])))
theorem FS{o:K4}{to:TEd}{aW aG:Pos}(ho:PEd X o to) (he:PEd X e te) (bG:U2 o "append" X.env (T7 o X.env)=T7 o X.env:=by rfl)
  (hse:J5 [e] X.env=(false,T7 e X.env)::J5 [] X.env:=by rfl)
  (dR:((T3 aG (J5 [e] X.env)).all (fun x => !x.1) && (ac5 aG (Y9 [] X.env)).all (fun x => x.1.isSome)
  &&decide ([e].length+([]:List X8).length+(if([]:List X8).isEmpty then 0 else 1)<30))=true:=by rfl)
  (bE:(aW.endLine==aG.line)=true:=by rfl) (bZ:(T3 aG (J5 [] X.env)).any (·.1)=false:=by rfl):PEd X (.Call (.Attribute o "append" aW) [e] [] aG) (BD to te) :=
 (qP PySem.F.plainAttrs_list PySem.F.slot_list_append PySem.F.type_list_append (show MtR X "list.append" vo from wX) ho (dP he iU hse) bG dR bE hse bZ).conv fun σ H Q ⟨Δ,M,R,sr,hr,q,k⟩ => ⟨Δ,M,_,sr,hr,q,fun o M1 ov H1 ⟨a,l,eo,em,q1⟩ e1 hr1 ro => by
  subst eo
  simp only[Rep]at ro
  subst ro
  obtain⟨vs,hv,rl⟩:=hr1 a _ em
  refine⟨.inl ⟨rfl,vs,SqL.of hv⟩,Δ,M1,_,sr.ext e1,hr1,q1,fun d M2 v H2 ⟨ds,em2,hz,q2⟩ e2 hr2 rv=>?_⟩
  obtain⟨ws,hw,rl2⟩:=hr2 a _ em2
  refine⟨a,ws,v,rfl,rfl,hw,by rw[<-rl2.length];exact hz,k _ _ _ _ q2 ((e1.trans e2).trans (Ext.write em2)) (hr2.write em2 (rl2.append (aq.cons rv aq.nil))) (by simp[Rep])⟩⟩
end
/-! ### any source that the library walks,as a gK -/
def ItW(n:Nat) (Vp:Nat->V->Prop):It:=⟨fun i _=>i<n,fun i H x H'=>H'=H/\Vp i x,fun i _=>n<=i⟩
theorem wk{P:L8}{w:P2}{K:o0}{tg:K4}{it:J9}{n:Nat}{Pv:Nat->s0->Prop}{St:Nat->L9->Prop}{ty:String}{Vp:Nat->V->Prop}
  (W:∀A:O3,A.handled=none->Walks P w A it [it] [it] n Pv St) (ho:∀i h,St i h->∃o,h.get? it=some o/\o.cls=.type ty/\∃vs,o.data=.fields vs)
  (hn:["enumerate","zip","dict_itemiterator","dict_reverseitemiterator","odict_iterator","itertools.zip_longest","itertools.pairwise"].contains ty=false)
  (hv:∀i u,Pv i u->∃x,aD x u/\Vp i x) (hself:∀(A:O3) (i:Nat) (s:I0) (Q:s0->I0->Prop) (E:s0->I0->Prop),St i s.heap->Q (.ref it) s->K5 (L3 P w) A (pyIter (.ref it)) Q E s):gK P w K tg (ItW n Vp) [it] it (fun i h=>i<=n/\St i h) where
 mem:=by simp
 obj:=fun i h st b hb=>by
  have e:b=it:=by simpa using hb
  subst e
  obtain⟨o,e,c,vs,d⟩:=ho i h st.2
  exact⟨o,e,fun v z=>by rw[d]at z;cases z⟩
 keep:=fun i h h' st k=>⟨st.1,(W { handled:=none } rfl).frame i h h' st.2 k⟩
 item:=by
  intro X hP hw hK hc i ae s σ H E I hf st hg
  subst hP hw hK
  obtain⟨f0,f1,f2,f3,f4,f5⟩:=hf it (by simp)
  refine(W X.A (I.ok.hd hc)).item i s _ _ hg st.2 fun v h' tk pv st' kk=>?_
  have I1:Inv X ae σ H { s with heap:=h',toks:=tk }:=I.turned (fun b o hb e=>kk b o (by simpa using hb) e) f0 f1 f3 f4 f5
  obtain⟨x,rx,vx⟩:=hv i v pv
  obtain⟨o,e,c,vs,d⟩:=ho _ _ st'
  exact⟨v,rfl,lT (s:={ s with heap:=h',toks:=tk }) e c d hn ⟨x,H,I1,rx,⟨rfl,vx⟩,⟨hg,st'⟩,fun b hb=>(hf b hb).1⟩⟩
 done:=by
  intro X hP hw hK hc i ae s σ H E I hf st hg
  subst hP hw hK
  obtain⟨f0,f1,f2,f3,f4,f5⟩:=hf it (by simp)
  have e:i=n:=Nat.le_antisymm st.1 hg
  subst e
  exact(W X.A (I.ok.hd hc)).done s _ _ st.2 fun h' tk kk=>⟨rfl,I.turned (fun b o hb e=>kk b o (by simpa using hb) e) f0 f1 f3 f4 f5⟩
 self:=fun A i s Q E st h=>hself A i s Q E st.2 h
section
variable{X:Cx}{a b c e:K4}{es:List K4}{te ta tb:TEd}{t:TAd}{pos:Pos}{tg iter:K4}
/-! ### a text's kR -/
def kR(x:Str):List D:=x.cps.toList.map fun c=>.str ⟨#[c]⟩
theorem ux{ae:List (J9×Obj)}{σ:St}{H:Hp}{s:I0}{x:Str}{t:Tok}{R:It->Hp->Prop}(I:Inv X ae σ H s) (ty:String) (hn:["enumerate","zip","dict_itemiterator","dict_reverseitemiterator","odict_iterator","itertools.zip_longest","itertools.pairwise"].contains ty=false)
  (W:∀A:O3,A.handled=none->Walks X.prog X.w A s.heap.objs.size [s.heap.objs.size] [s.heap.objs.size] x.cps.size (SignAt x) (fun i h=>h.IsStrIter s.heap.objs.size ty x t i))
  (hself:∀(A:O3) (i:Nat) (s':I0) (Q:s0->I0->Prop) (E:s0->I0->Prop),s'.heap.IsStrIter s.heap.objs.size ty x t i->Q (.ref s.heap.objs.size) s'->K5 (L3 X.prog X.w) A (pyIter (.ref s.heap.objs.size)) Q E s')
  (q:R (ItW x.cps.size fun i v=>∃c,x.cps[i]?=some c/\v=.str ⟨#[c]⟩) H):PIE X ae σ tg R (.ref s.heap.objs.size) { s with heap:=s.heap.push { cls:=.type ty,data:=.fields #[.str x t,.int 0 0] } }:=by
 have I1:Inv X ae σ H { s with heap:=s.heap.push { cls:=.type ty,data:=.fields #[.str x t,.int 0 0] } }:=I.kept (t':=s.toks) fun b o e=>u8 _ e
 refine⟨s.heap.objs.size,[s.heap.objs.size],_,_,H,rfl,I1,wk W (fun i h st=>?_) hn (fun i u ⟨c,t',e,ev⟩=>⟨.str ⟨#[c]⟩,⟨t',ev⟩,c,e,rfl⟩) hself,⟨U1 _,_,J6 _ rfl,rfl,rfl⟩,fun b hb=>?_,q⟩
 ·obtain⟨o,e,c,d⟩:=st
  exact⟨o,e,c,_,d⟩
 ·have e:b=s.heap.objs.size:=by simpa using hb
  subst e
  exact I.fpOk (J4 _) (I.hok.fresh (J4 _))
end
section
variable{X:Cx}{a b c e:K4}{es:List K4}{te ta tb:TEd}{t:TAd}{pos:Pos}
/-! ###==-/
def eqF(x y:D):Option D:=if dLe x 60=true/\dLe y 60=true then some (.bl (eqD x y))else none
theorem zE{x y z:D}(h:eqF x y=some z):dLe x 60=true/\dLe y 60=true/\z=.bl (eqD x y):=by
 unfold eqF at h
 by_cases hc:dLe x 60=true/\dLe y 60=true
 ·rw[if_pos hc]at h;cases h;exact⟨hc.1,hc.2,rfl⟩
 ·rw[if_neg hc]at h;cases h
theorem gx(hu:X.A.units+64<X7):bO X (L7 .Eq) eqF:=by
 intro ae s σ H M x y v u dx dy dz Q I hr rx ry r1 r2 e k
 obtain⟨h1,h2,rfl⟩:=zE e
 exact(pT I 60 (A:=X.A) (by omega) h1 h2 r1 r2 rx ry).2 X.prog X.w X.xe _ ⟨.bl (eqD dx dy),H,I,rfl,k _ H (Ext.refl _ _) hr (by simp[Rep])⟩
/-! ### in,not in: flat items -/
def inD(neg:Bool) (x y:D):Option D:=match y with
 |.lst ds=>if bw x=true/\ds.all bw=true then some (.bl (xor neg (ds.any fun d=>eqD d x)))else none
 |.tup ds=>if bw x=true/\ds.all bw=true then some (.bl (xor neg (ds.any fun d=>eqD d x)))else none
 |_=>none
theorem Ei{K:o0}{M:DH}{H:Hp}{d:D}{v:V}(h:bw d=true) (r:Rep K M H d v):v=toV d/\gE v=true:=by
 cases d<;>first|(simp only[Rep]at r;subst r;exact⟨rfl,rfl⟩)|cases h
theorem Cd{x y:D}(hx:bw x=true) (hy:bw y=true):eqV (toV x) (toV y)=eqD x y:=by
 cases x<;>cases y<;>first|(simp[bw]at hx;done)|(simp[bw]at hy;done)|(simp[toV,eqV,eqD];done)
theorem hG{K:o0}{M:DH}{H:Hp}{x:D}(hx:bw x=true):∀{ds:List D}{vs:List V},aq K M H ds vs->ds.all bw=true->vs.all gE=true/\inV (toV x) vs=ds.any fun d=>eqD d x
 |[],_,h,_=>by simp only[aq]at h;subst h;simp[inV]
 |d::ds,_,h,ha=>by
  simp only[aq]at h
  obtain⟨v,ws,rfl,h3,h4⟩:=h
  rw[W7,L6]at ha
  obtain⟨e1,e2⟩:=Ei ha.1 h3
  obtain⟨e3,e4⟩:=hG hx h4 ha.2
  subst e1
  refine⟨by rw[W7,e2,e3];rfl,?_⟩
  unfold inV at e4 ⊢
  rw[Q7,Q7,e4,Cd ha.1 hx]
theorem aL.scal{K:o0}{M:DH}{H:Hp}{d:D}{v:V}(h:bw d=true) (r:aL K M H d v):v=toV d/\gE v=true:=by
 cases d<;>first|(simp only[aL,Rep]at r;subst r;exact⟨rfl,rfl⟩)|cases h
theorem Ia:bO X (L7 .In) (inD false):=bO.of xc fun H M x y dx dy dz Q hr r1 r2 e q=>by
 cases dy with
 |lst ds =>
  simp only[inD]at e
  by_cases hc:bw dx=true/\ds.all bw=true
  ·rw[if_pos hc]at e;cases e
   obtain⟨l,vs,rfl,sq,rl⟩:=r2
   obtain⟨e1,e2⟩:=aL.scal hc.1 r1
   obtain⟨e3,e4⟩:=hG hc.1 rl hc.2
   subst e1
   refine⟨l,vs,rfl,.inl (SqL.of sq),e2,e3,q _ H (Ext.refl _ _) hr ?_⟩
   rw[e4];simp[Rep]
  ·rw[if_neg hc]at e;cases e
 |tup ds =>
  simp only[inD]at e
  by_cases hc:bw dx=true/\ds.all bw=true
  ·rw[if_pos hc]at e;cases e
   obtain⟨l,vs,rfl,sq,rl⟩:=r2
   obtain⟨e1,e2⟩:=aL.scal hc.1 r1
   obtain⟨e3,e4⟩:=hG hc.1 rl hc.2
   subst e1
   refine⟨l,vs,rfl,.inr sq,e2,e3,q _ H (Ext.refl _ _) hr ?_⟩
   rw[e4];simp[Rep]
  ·rw[if_neg hc]at e;cases e
 |_=>cases e
theorem AS:bO X (L7 .NotIn) (inD true):=bO.of pz fun H M x y dx dy dz Q hr r1 r2 e q=>by
 cases dy with
 |lst ds =>
  simp only[inD]at e
  by_cases hc:bw dx=true/\ds.all bw=true
  ·rw[if_pos hc]at e;cases e
   obtain⟨l,vs,rfl,sq,rl⟩:=r2
   obtain⟨e1,e2⟩:=aL.scal hc.1 r1
   obtain⟨e3,e4⟩:=hG hc.1 rl hc.2
   subst e1
   refine⟨l,vs,rfl,.inl (SqL.of sq),e2,e3,q _ H (Ext.refl _ _) hr ?_⟩
   rw[e4];simp[Rep]
  ·rw[if_neg hc]at e;cases e
 |tup ds =>
  simp only[inD]at e
  by_cases hc:bw dx=true/\ds.all bw=true
  ·rw[if_pos hc]at e;cases e
   obtain⟨l,vs,rfl,sq,rl⟩:=r2
   obtain⟨e1,e2⟩:=aL.scal hc.1 r1
   obtain⟨e3,e4⟩:=hG hc.1 rl hc.2
   subst e1
   refine⟨l,vs,rfl,.inr sq,e2,e3,q _ H (Ext.refl _ _) hr ?_⟩
   rw[e4];simp[Rep]
  ·rw[if_neg hc]at e;cases e
 |_=>cases e
/-! ### len,abs,tuple,list -/
def jH(f:D->Option D):List D->Option D
 |[d]=>f d
 |_=>none
theorem jo{K:o0}{M:DH}{H:Hp}{d:D}{xs:List V}(h:S0 (aL K M H) [d] xs):∃v,xs=[v]/\aL K M H d v:=by
 cases h with
 |cons r t=>cases t;exact⟨_,rfl,r⟩
theorem cy{f:D->Option D}{ds:List D}{z:D}(h:jH f ds=some z):∃d,ds=[d]/\f d=some z:=by
 match ds,h with
 |[d],h=>exact⟨d,rfl,h⟩
def fW:D->Option D
 |.tup ds=>some (.int ds.length)
 |.lst ds=>some (.int ds.length)
 |.scr ds=>some (.int ds.length)
 |.str x=>if x.length<=J0 then some (.int x.length)else none
 |_=>none
theorem br:bo X (.builtin "len") (jH fW):=bo.of (cM.or oY qf) fun H M xs ds dz Q hr rp e q=>by
 obtain⟨d,rfl,e0⟩:=cy e
 clear e
 have e:=e0
 clear e0
 obtain⟨v,rfl,r⟩:=jo rp
 cases d with
 |tup ds=>cases e;obtain⟨l,vs,rfl,sq,rl⟩:=r;exact .inl ⟨l,vs,rfl,.inr sq,q _ H (Ext.refl _ _) hr (by rw[<-rl.length];simp[Rep])⟩
 |lst ds=>cases e;obtain⟨l,vs,rfl,sq,rl⟩:=r;exact .inl ⟨l,vs,rfl,.inl (SqL.of sq),q _ H (Ext.refl _ _) hr (by rw[<-rl.length];simp[Rep])⟩
 |scr ds=>cases e;obtain⟨l,vs,rfl,sq,rl⟩:=r;exact .inl ⟨l,vs,rfl,.inl sq,q _ H (Ext.refl _ _) hr (by rw[<-rl.length];simp[Rep])⟩
 |str x =>
  simp only[fW]at e
  by_cases hz:x.length<=J0
  ·rw[if_pos hz]at e;cases e
   exact .inr ⟨x,by rw[nM r],hz,q _ H (Ext.refl _ _) hr (by simp[Rep])⟩
  ·rw[if_neg hz]at e;cases e
 |_=>cases e
def F4:D->Option D
 |.int i=>some (.int (if i<0 then -i else i))
 |_=>none
theorem Gc:bo X (.builtin "abs") (jH F4):=bo.of xN fun H M xs ds dz Q hr rp e q=>by
 obtain⟨d,rfl,e0⟩:=cy e
 clear e
 have e:=e0
 clear e0
 obtain⟨v,rfl,r⟩:=jo rp
 cases d with
 |int i=>cases e;exact⟨i,by rw[dM r],q _ H (Ext.refl _ _) hr (by simp[Rep])⟩
 |_=>cases e
def D6:D->Option D
 |.lst ds=>some (.tup ds)
 |.tup ds=>some (.tup ds)
 |_=>none
theorem di:bo X (.type "tuple") (jH D6):=bo.of nO fun H M xs ds dz Q hr rp e q=>by
 obtain⟨d,rfl,e0⟩:=cy e
 clear e
 have e:=e0
 clear e0
 obtain⟨v,rfl,r⟩:=jo rp
 cases d with
 |lst ds=>cases e;obtain⟨l,vs,rfl,sq,rl⟩:=r;exact⟨l,vs,rfl,.inl ⟨SqL.of sq,fun p hp=>jU hr hp rl q⟩⟩
 |tup ds=>cases e;have t1:=aL.tup hr r;obtain⟨l,vs,rfl,sq,rl⟩:=r;exact⟨l,vs,rfl,.inr ⟨sq,q _ H (Ext.refl _ _) hr t1⟩⟩
 |_=>cases e
/-! ### all,any of truths -/
def Aa:D->Bool
 |.bl _=>true
 |_=>false
def vV:D->Bool
 |.bl b=>b
 |_=>false
def yI:D->Option D
 |.lst ds=>if ds.all Aa=true then some (.bl (ds.all vV))else none
 |_=>none
theorem vP{p:Nat->Bool}{q:D->Bool}:∀{ds:List D},(∀i d,ds[i]?=some d->p i=q d)->(V7 ds.length).all p=ds.all q:=by
 intro ds h
 rw[Bool.eq_iff_iff,S6,S6]
 constructor
 ·intro hh d hd
  obtain⟨i,hi,e⟩:=List.mem_iff_getElem.mp hd
  rw[<-h i d (by rw[List.getElem?_eq_getElem hi,e])]
  exact hh i (List.mem_range.mpr hi)
 ·intro hh i hi
  have hi:=List.mem_range.mp hi
  rw[h i ds[i] (by simp[hi])]
  exact hh _ (List.getElem_mem hi)
theorem xY{K:o0}{M:DH}{H:Hp}{ds:List D}{vs:List V}{us:List s0}(rl:aq K M H ds vs) (rv:aA vs us) (hb:ds.all Aa=true) {i:Nat}{u:s0}(h:us[i]?=some u):∃d,ds[i]?=some d/\u=.bool (vV d):=by
 have hi:i<ds.length:=by rw[rl.length,rv.length];exact(N0.mp h).1
 obtain⟨v,g,r⟩:=rl.get (i:=i) (d:=ds[i]) (by simp[hi])
 obtain⟨u',g',r'⟩:=rv.get g
 rw[h]at g';cases g'
 have hbi:=S6.mp hb ds[i] (List.getElem_mem hi)
 refine⟨ds[i],by simp[hi],?_⟩
 cases q:ds[i]with
 |bl b=>rw[q]at r;simp only[Rep]at r;subst r;exact r'
 |_=>rw[q]at hbi;cases hbi
theorem CC(hc:X.calm=true):bo X (.builtin "all") (jH yI):=by
 intro ae s σ H M xs us ds dz Q I hr rv rp e k
 obtain⟨d,rfl,e0⟩:=cy e
 clear e
 have e:=e0
 clear e0
 obtain⟨v,rfl,r⟩:=jo rp
 obtain⟨u,rfl,ru⟩:=aA.one rv
 cases d with
 |lst ds =>
  simp only[yI]at e
  by_cases hb:ds.all Aa=true
  ·rw[if_pos hb]at e;cases e
   obtain⟨l,vs,rfl,sq,rl⟩:=r
   cases ru
   obtain⟨its,rv,pl,hz⟩:=I.list (SqL.of sq)
   have hne:l≠s.heap.objs.size:=K0 (I.hok.lt sq)
   refine call_all_walk (wpAny_pyIter_list pl.isList ⟨s.heap.objs.size,[s.heap.objs.size,l],[s.heap.objs.size],its.toArray.size,_,_,fun i=>(ds[i]?.map vV).getD false,rfl,Walks.list (A:=X.A.in1) (show X.A.in1.handled=none from I.ok.hd hc) s.heap.objs.size l hne its.toArray,⟨⟨_,J6 _ rfl,rfl,rfl⟩,?_⟩,fun i v s' Q' E' hv q=>?_,fun h' tk kk=>?_⟩)
   ·obtain⟨o,e,c⟩:=pl.isList
    exact⟨o,u8 _ e,c⟩
   ·obtain⟨d,hd,rfl⟩:=xY rl rv hb (i:=i) (u:=v) (by simpa using hv)
    dsimp only at q;rw[hd]at q
    exact R1 q
   ·have I1:Inv X ae σ H { s with heap:=h',toks:=tk }:=I.kept (t':=tk) fun b o e=>kk b o (by simpa using K0 (J7 e)) (u8 _ e)
    refine⟨.bl _,H,I1,rfl,k _ H (Ext.refl _ _) hr ?_⟩
    rw[J1,<-rv.length,<-rl.length,vP (q:=vV) (fun i d hd=>by simp[hd])]
    simp[Rep]
  ·rw[if_neg hb]at e;cases e
 |_=>cases e
end
section
variable{X:Cx}{a b c e:K4}{es:List K4}{te ta tb:TEd}{t:TAd}{pos:Pos}
/-! ### isinstance -/
def AB(T:String):D->Option Bool
 |.non=>some false
 |.bl _=>some (T=="bool" || T=="int")
 |.int _=>some (T=="int")
 |.str _=>some (T=="str")
 |.tup _=>some (T=="tuple")
 |.lst _=>some (T=="list")
 |.emp=>some (T=="dict")
 |_=>none
def okT(T:String):Bool:=T=="bool" || T=="int" || T=="str" || T=="tuple" || T=="list"
def Ff(T:String) (te:TEd):TEd:=fun Δ M Q=>te Δ M fun d M1=>∃k,AB T (rdM M1 d)=some k/\Q (.bl k) M1
theorem xa{T:String}(hT:okT T=true) {ae:List (J9×Obj)}{s:I0}{σ:St}{H:Hp}{M:DH}{v:V}{u:s0}{d:D}{k:Bool}{Q:VK}(I:Inv X ae σ H s) (r:aD v u) (rd:aL X.K M H d v) (e:AB T d=some k) (q:Q (.bl k) H) :
  K5 (L3 X.prog X.w) X.A (call (.builtin "isinstance") [u,.type T]) (EP X ae σ Q) X.xe s:=by
 have fin:∀{k'} ,k=k'->EP X ae σ Q (.bool k') s:=fun e=>by subst e;exact⟨.bl k,H,I,rfl,q⟩
 have fint:∀{k'} ,k=k'->EP X ae σ Q (.bool k') { s with toks:=s.toks+1 }:=fun e=>by subst e;exact⟨.bl k,H,I.tok _,rfl,q⟩
 have h5:T="bool"∨T="int"∨T="str"∨T="tuple"∨T="list":=by
  simp[okT]at hT
  rcases hT with(((h|h)|h)|h)|h<;>simp[h]
 cases d with
 |non =>
  simp only[aL,Rep]at rd;subst rd;simp only[aD]at r;subst r;cases e
  rcases h5 with rfl|rfl|rfl|rfl|rfl
  ·exact IsiPair.NoneType_bool (fint rfl)
  ·exact IsiPair.NoneType_int (fint rfl)
  ·exact IsiPair.NoneType_str (fint rfl)
  ·exact IsiPair.NoneType_tuple (fint rfl)
  ·exact IsiPair.NoneType_list (fint rfl)
 |bl b =>
  simp only[aL,Rep]at rd;subst rd;simp only[aD]at r;subst r;cases e
  rcases h5 with rfl|rfl|rfl|rfl|rfl
  ·exact IsiPair.bool_bool (fin rfl)
  ·exact IsiPair.bool_int (fin rfl)
  ·exact IsiPair.bool_str (fint rfl)
  ·exact IsiPair.bool_tuple (fint rfl)
  ·exact IsiPair.bool_list (fint rfl)
 |int i =>
  simp only[aL,Rep]at rd;subst rd;obtain⟨t,rfl⟩:=r;cases e
  rcases h5 with rfl|rfl|rfl|rfl|rfl
  ·exact IsiPair.int_bool (fint rfl)
  ·exact IsiPair.int_int (fin rfl)
  ·exact IsiPair.int_str (fint rfl)
  ·exact IsiPair.int_tuple (fint rfl)
  ·exact IsiPair.int_list (fint rfl)
 |str x =>
  simp only[aL,Rep]at rd;subst rd;obtain⟨t,rfl⟩:=r;cases e
  rcases h5 with rfl|rfl|rfl|rfl|rfl
  ·exact IsiPair.str_bool (fint rfl)
  ·exact IsiPair.str_int (fint rfl)
  ·exact IsiPair.str_str (fin rfl)
  ·exact IsiPair.str_tuple (fint rfl)
  ·exact IsiPair.str_list (fint rfl)
 |tup ds =>
  obtain⟨a,vs,rfl,sq,rl⟩:=rd
  cases r;cases e
  obtain⟨its,rv,⟨o,ho,hc,_⟩,_⟩:=I.tuple sq
  rcases h5 with rfl|rfl|rfl|rfl|rfl
  ·exact IsiPair.tuple_bool ho hc (fint rfl)
  ·exact IsiPair.tuple_int ho hc (fint rfl)
  ·exact IsiPair.tuple_str ho hc (fint rfl)
  ·exact IsiPair.tuple_tuple ho hc (fin rfl)
  ·exact IsiPair.tuple_list ho hc (fint rfl)
 |lst ds =>
  obtain⟨a,vs,rfl,sq,rl⟩:=rd
  cases r;cases e
  obtain⟨its,rv,⟨o,n,ho,hc,_⟩,_⟩:=I.list (SqL.of sq)
  rcases h5 with rfl|rfl|rfl|rfl|rfl
  ·exact IsiPair.list_bool ho hc (fint rfl)
  ·exact IsiPair.list_int ho hc (fint rfl)
  ·exact IsiPair.list_str ho hc (fint rfl)
  ·exact IsiPair.list_tuple ho hc (fint rfl)
  ·exact IsiPair.list_list ho hc (fin rfl)
 |emp =>
  simp only[aL,Rep]at rd
  obtain⟨a,rfl,h1,_⟩:=rd
  cases r;cases e
  obtain⟨_,_,_,_,o,es,ep,ho,ex,_⟩:=I.hok a _ h1
  rcases h5 with rfl|rfl|rfl|rfl|rfl
  ·exact IsiPair.dict_bool ho ex.1 (fint rfl)
  ·exact IsiPair.dict_int ho ex.1 (fint rfl)
  ·exact IsiPair.dict_str ho ex.1 (fint rfl)
  ·exact IsiPair.dict_tuple ho ex.1 (fint rfl)
  ·exact IsiPair.dict_list ho ex.1 (fint rfl)
 |_=>cases e
theorem Gp{T:Str}{Tn:String}{p p2:Pos}(hT:okT Tn=true) (hg:Gl X "isinstance") (hm:X.mg "isinstance"=none) (hg2:Gl X T) (hm2:X.mg T=none) (hv2:P3 T=some (.type Tn)) (ha:PEd X a ta) (hn2:T≠"__name__":=by decide) (hd2:(T==("__debug__":Str))=false:=by decide)
  (hs:J5 [a,.Name T p2] X.env=(false,T7 a X.env)::J5 [.Name T p2] X.env:=by rfl) (hs2:J5 [.Name T p2] X.env=(false,T7 (.Name T p2) X.env)::J5 [] X.env:=by rfl) (hpl:(T3 pos (J5 [.Name T p2] X.env)).any (·.1)=false:=by rfl) :
  PEd X (.Call (.Name "isinstance" p) [a,.Name T p2] [] pos) (Ff Tn ta):=by
 have hc:cM X (.builtin "isinstance") (fun xs H Q=>∃v d k M,xs=[v,.ty Tn]/\aL X.K M H d v/\AB Tn d=some k/\Q (.bl k) H):=by
  intro ae s σ H xs us Q I rv h
  obtain⟨v,d,k,M,rfl,rd,ek,q⟩:=h
  obtain⟨u1,u2,rfl,r1,r2⟩:=aA.two rv
  cases r2
  exact xa hT I r1 rd ek q
 refine(rE hc hg hm (by kernel_rfl) (dP ha (dP (BQ (v:=.ty Tn) hg2 hm2 hv2 rfl hn2 hd2) iU hs2) hs) (by decide) (by decide) hs hpl).conv fun σ H Q hh=>?_
 obtain⟨Δ,M,R,sr,hr,q,k⟩:=hh
 exact⟨Δ,M,_,sr,hr,q,fun d M1 v H1 ⟨kk,ek,q1⟩ e1 hr1 rv=>⟨v,_,kk,M1,rfl,rv.rd hr1,ek,k _ M1 _ H1 q1 e1 hr1 (by simp[Rep])⟩⟩
/-! ### slices -/
abbrev TOd:=DE->DH->(Option Int->DH->Prop)->Prop
def upO(K:o0) (t:TOd):TO:=fun σ H Q=>∃(Δ:DE) (M:DH) (R:Option Int->DH->Prop),SR K M H σ Δ/\HR K M H/\t Δ M R/\∀i M' H',R i M'->Ext M H M' H'->HR K M' H'->Q i H'
def POd(X:Cx) (e:Option K4) (t:TOd):Prop:=PO X e (upO X.K t)
def o9:TOd:=fun _ M Q=>Q none M
def zB(t:TEd):TOd:=fun Δ M Q=>t Δ M fun d M1=>∃i,d=.int i/\Q (some i) M1
theorem PO.conv{e:Option K4}{t t':TO}(h:PO X e t) (k:∀ σ H Q,t' σ H Q->t σ H Q):PO X e t':=fun p s σ H Q I q=>h p s σ H Q I (k σ H Q q)
theorem Be:POd X none o9:=Aw.conv fun σ H Q ⟨Δ,M,R,sr,hr,q,k⟩=>k none M H q (Ext.refl _ _) hr
theorem A3(h:PEd X e te):POd X (some e) (zB te):=(AO h).conv fun σ H Q ⟨Δ,M,R,sr,hr,q,k⟩=>⟨Δ,M,_,sr,hr,q,fun d M1 v H1 ⟨i,ed,q1⟩ e1 hr1 rv=>⟨i,by subst ed;simpa only[Rep]using rv,k _ M1 H1 q1 e1 hr1⟩⟩
def cC(xs:List D) (lo hi:Option Int):List D:=(xs.drop (HT.sIx xs.length 0 lo)).take (HT.sIx xs.length xs.length hi-HT.sIx xs.length 0 lo)
def slD:D->Option Int->Option Int->Option D
 |.lst ds,lo,hi=>some (.lst (cC ds lo hi))
 |.scr ds,lo,hi=>some (.lst (cC ds lo hi))
 |.str x,lo,hi=>if x.length<=J0 then some (.str (ab3 x lo hi))else none
 |.tup ds,lo,hi=>if HT.sIx ds.length 0 lo=0/\HT.sIx ds.length ds.length hi=ds.length then none else some (.tup (cC ds lo hi))
 |_,_,_=>none
def Iz:V->Option Int->Option Int->Hp->VK->Prop:=fun x lo hi H Q=>∃z,x=.str z/\z.length<=J0/\Q (.str (ab3 z lo hi)) H
theorem Ah:SlR X Iz:=by
 intro ae s σ H x v vl vu lo hi sl Q I rx hs pl pu h
 obtain⟨z,rfl,hz,q⟩:=h
 obtain⟨t,rfl⟩:=rx
 refine⟨"str",_,PySem.F.slot_str_getitem.lookup,typeIs_str _ _ _,?_⟩
 have fin:∀(t':Tok) (k:Nat),EP X ae σ Q (.str (ab3 z lo hi) t') { s with toks:=k }:=fun t' k=>⟨.str (ab3 z lo hi),H,I.tok _,⟨t',rfl⟩,q⟩
 cases pl with
 |none =>
  cases pu with
  |none=>exact U6 (l:=none) (u:=none) (st:=none) hs rfl (Z1 ⟨M9 (ab4 z _ _) hz,fin⟩)
  |int j tj=>exact U6 (l:=none) (u:=some (j,tj)) (st:=none) hs rfl (Z1 ⟨M9 (ab4 z _ _) hz,fin⟩)
 |int i ti =>
  cases pu with
  |none=>exact U6 (l:=some (i,ti)) (u:=none) (st:=none) hs rfl (Z1 ⟨M9 (ab4 z _ _) hz,fin⟩)
  |int j tj=>exact U6 (l:=some (i,ti)) (u:=some (j,tj)) (st:=none) hs rfl (Z1 ⟨M9 (ab4 z _ _) hz,fin⟩)
/-! ### join -/
end
/-! ### a block's names,by one look at the text -/
def bX(names:List (Str×K8)) (cells:List (Str×J9)):List (Str×J9):=(names.filterMap fun y=>if y.2==.free then(cells.lookup y.1).map fun c=>(y.1,c)else none).reverse
def fI(env:Env) (y:Str×K8) (cs:List (Str×J9)):Sem (ForInStep (List (Str×J9))):=if(y.2==.free)=true then(do let c <-cellOf env y.1;W0 (R7 ((y.1,c)::cs)))else W0 (R7 cs)
theorem ku{env:Env}:∀(names:List (Str×K8)) (acc:List (Str×J9)),(∀y∈names,y.2=.free->(env.cells.lookup y.1).isSome=true) ->
  (forIn names acc (fI env):Sem (List (Str×J9)))=W0 (bX names env.cells++acc)
 |[],acc,_=>by simp[bX]
 |y::r,acc,h=>by
  rw[List.forIn_cons]
  by_cases hk:(y.2==M7)=true
  ·have hs:=h y N8 (by simpa using hk)
   obtain⟨c,hc⟩:=P6.mp hs
   have e1:fI env y acc=W0 (R7 ((y.1,c)::acc)):=by
    unfold fI cellOf
    rw[if_pos hk,hc]
    simp only[ad7]
   rw[e1]
   simp only[ad7]
   rw[ku r ((y.1,c)::acc) fun y hy=>h y (L5 _ hy)]
   have e2:bX (y::r) env.cells=bX r env.cells++[(y.1,c)]:=by
    unfold bX
    rw[R4,if_pos hk,hc]
    simp
   rw[e2]
   simp
  ·have e1:fI env y acc=W0 (R7 acc):=by
    unfold fI
    rw[if_neg hk]
   rw[e1]
   simp only[ad7]
   rw[ku r acc fun y hy=>h y (L5 _ hy)]
   have e2:bX (y::r) env.cells=bX r env.cells:=by
    unfold bX
    rw[R4,if_neg hk]
   rw[e2]
theorem pO{scope:U9}{env:Env}(h:∀y∈scope.names,y.2=.free->(env.cells.lookup y.1).isSome=true):closureFor scope env=W0 (bX scope.names env.cells):=by
 have:=ku (env:=env) scope.names [] h
 simp only[Y6]at this
 show(forIn scope.names [] (fI env) >>= fun cs=>W0 cs)=_
 rw[this]
 simp only[ad7]
theorem mG{cells:List (Str×J9)}{names:List (Str×K8)}{x:Str}{c:J9}(h:(bX names cells).lookup x=some c):cells.lookup x=some c:=by
 have hm:=L4 h
 unfold bX at hm
 rw[List.mem_reverse,V0]at hm
 obtain⟨y,_,e⟩:=hm
 split at e
 ·cases q:cells.lookup y.1 with
  |none=>rw[q]at e;cases e
  |some c'=>rw[q]at e;cases e;exact q
 ·cases e
theorem dX:∀{l:List (Str×J9)}{x:Str}{c:J9},(x,c)∈l->∃c',l.lookup x=some c'
 |(y,d)::l,x,c,h=>by
  rw[K7]
  cases q:x==y with
  |true=>exact⟨d,by simp⟩
  |false =>
   rcases O4.mp h with e|h
   ·cases e;simp at q
   ·simpa using dX h
theorem lF{cells:List (Str×J9)}{names:List (Str×K8)}{x:Str}(h:names.lookup x=some .free) (hs:(cells.lookup x).isSome=true):∃c,(bX names cells).lookup x=some c:=by
 obtain⟨c,hc⟩:=P6.mp hs
 refine dX (c:=c) ?_
 unfold bX
 rw[List.mem_reverse,V0]
 exact⟨(x,.free),L4 h,by simp[hc]⟩
def aZ(fs:U9) (N:List Str) (scope:U9) (ms:List Bool):Bool :=
 scope.kind==.function&&scope.names.all (fun y=>y.2 != .cell)&&scope.names.all (fun y=>y.2 != .local || scope.names.lookup y.1==some .local) &&
 scope.names.all (fun y=>y.2 != .free || fs.names.lookup y.1==some .cell)&&(ms.zip N).all (fun y=>!y.1 || scope.names.lookup y.2==some .free)&&decide (ms.length<=N.length)
theorem aQ{X:Cx}{scope:U9}{ms:List Bool}{ah:List Str}{n0:Nat}(hX:X.env.cells=Q0 n0 X.env.scope.names []) (c:aZ X.env.scope X.N scope ms=true):cI X scope (bX scope.names X.env.cells) ms ah:=by
 unfold aZ at c
 simp only[L6,S6,decide_eq_true_eq]at c
 obtain⟨⟨⟨⟨⟨c1,c2⟩,c3⟩,c4⟩,c5⟩,c6⟩:=c
 have fr:∀x,(x,M7)∈scope.names->X.env.scope.names.lookup x=some .cell:=fun x hx=>by
  have:=c4 _ hx
  simpa using this
 have cs:∀x,(x,M7)∈scope.names->(X.env.cells.lookup x).isSome=true:=fun x hx=>by
  rw[hX]
  exact O9 _ _ _ (.inl (fr x hx))
 refine⟨by simpa using c1,fun y hy e=>?_,fun y hy e=>?_,pO fun y hy e=>?_,fun x c h=>mG h,fun x h=>lF h (cs x (L4 h)),fun x h=>.inl (fr x (L4 h)),fun i x h1 h2=>?_,c6⟩
 ·have:=c2 y hy
  rw[e]at this
  simp at this
 ·have:=c3 y hy
  simpa[e]using this
 ·obtain⟨a,b⟩:=y
  cases e
  exact cs a hy
 ·have:=c5 (true,x) (by
   rw[List.mem_iff_getElem?]
   exact⟨i,by rw[List.getElem?_zip_eq_some];exact⟨h1,h2⟩⟩)
  simpa using this
/-! ### a def of the text,by its name -/
structure FnD(P:L8) (w:P2) (K:o0) (mg:Str->Option s0) (base:L9) (x:Str) (k n:Nat) (S:SpD):Prop where
 ex:∃(f:J9) (fd:U3) (ps:List Str),ba P w K mg base CX0 k f fd ps (spD K n S)/\mg x=some (.ref f)/\V5 K (.ref f)=true/\dv K fd ps []
section
variable{X:Cx}{e:K4}{es:List K4}{t:TAd}{pos p:Pos}{x:Str}{k n:Nat}{S:SpD}
theorem dc(F:FnD X.prog X.w X.K X.mg X.base x k n S) (hr:cA k X.A) (hg:Gl X x) (ha:PAd X (e::es) t) (hdb:(x==("__debug__":Str))=false:=by decide) (he:J5 (e::es) X.env=(false,T7 e X.env)::J5 es X.env:=by rfl) (hpl:(T3 pos (J5 es X.env)).any (·.1)=false:=by rfl) :
  PEd X (.Call (.Name x p) (e::es) [] pos) (iJ n S t):=by
 obtain⟨f,fd,ps,h1,h2,h3,h4⟩:=F.ex
 exact Fx h1 hr hg h2 h3 h4 ha hdb he hpl
end
section
variable{X:Cx}{a b c e:K4}{es:List K4}{te ta tb:TEd}{t:TAd}{pos:Pos}{tg iter:K4}
def xr(te:TEd):TSd:=fun E Δ M=>te Δ M fun d M1=>∃a ds,d=.ref a/\M1 a=some (.lst ds)/\E.rt (.lst ds) (fK M1 a)
theorem FB(he:PEd X e te):PSd X (.Return (some e) pos) (xr te):=(tT he).conv fun D σ H ⟨Δ,M,E,sr,hr,q,k⟩=>⟨Δ,M,_,sr,hr,q,fun d M1 v H1 ⟨a,ds,ed,em,q1⟩ e1 hr1 rv=>by
 subst ed
 simp only[Rep]at rv
 subst rv
 exact k.rt _ _ _ H1 q1 (e1.trans (Ext.le LeM.del)) (hr1.le LeM.del) (Rep.froze hr1 LeM.del em df)⟩
/-! += of ints -/
theorem C3:bO X (ac3 .Add) (iOp fun i j=>some (.int (i+j))):=by
 intro ae s σ H M x y v u dx dy dz Q I hr rx ry r1 r2 e k
 obtain⟨i,j,rfl,rfl,e'⟩:=mC e
 cases e'
 exact EG ae s σ H x y v u Q I rx ry ⟨i,j,dM r1,dM r2,k _ H (Ext.refl _ _) hr (by simp[Rep])⟩
theorem B9:EK X (ad4 .USub) (fun d=>match d with|.int i=>some (.int (-i))|_=>none):=by
 intro ae s σ H M x v dx dz Q I hr rx r1 e k
 cases dx with
 |int i=>cases e;exact E6 ae s σ H x v Q I rx ⟨i,dM r1,k _ H (Ext.refl _ _) hr (by simp[Rep])⟩
 |_=>cases e
/-! ### whatever can be walked: a tuple,a list that stays,the script,a text -/
def gP:D->Option (List D)
 |.tup ds=>some ds
 |.lst ds=>some ds
 |.scr ds=>some ds
 |.str x=>if x.length<=J0 then some (kR x)else none
 |_=>none
def yY(te:TEd):TId:=fun Δ M R=>te Δ M fun d M1=>∃ds,gP d=some ds/\(ds.length<=J0->R ds M1)
theorem pY{ae:List (J9×Obj)}{σ:St}{H:Hp}{s:I0}{o:Obj}(I:Inv X ae σ H s):∀b∈[s.heap.objs.size],cJ X ae H b:=fun b hb=>by
 have e:b=s.heap.objs.size:=by simpa using hb
 subst e
 exact I.fpOk (J4 _) (I.hok.fresh (J4 _))
theorem ET{K:o0}{x:Str}{M1:DH}{H1:Hp}:ItD K (ItW x.cps.size fun i v=>∃c,x.cps[i]?=some c/\v=.str ⟨#[c]⟩) (kR x) M1 H1:=fun M2 H2 e2 hr2 i=>⟨fun d hd=>by
  unfold kR at hd
  rw[O7]at hd
  cases q:x.cps.toList[i]? with
  |none=>rw[q]at hd;cases hd
  |some c =>
   rw[q]at hd;cases hd
   have hc:x.cps[i]?=some c:=by simpa using q
   refine⟨?_,fun y H' ⟨eH,c',hc',ey⟩=>?_⟩
   ·exact(Array.getElem?_eq_some_iff.mp hc).1
   ·subst eH;subst ey
    rw[hc]at hc';cases hc'
    exact⟨Ext.refl _ _,hr2,by simp[Rep]⟩,fun hl=>by
  show x.cps.size<=i
  simpa[kR]using hl⟩
theorem F5(h:PEd X iter te):PId X tg iter (yY te):=by
 intro ae s σ H R I hh
 obtain⟨Δ,M,R',sr,hr,q,k⟩:=hh
 refine thn (h ae s σ H (fun v H1=>∃d ds M1,gP d=some ds/\(ds.length<=J0->R' ds M1)/\Ext M H M1 H1/\HR X.K M1 H1/\Rep X.K M1 H1 d v) I ⟨Δ,M,_,sr,hr,q,fun d M1 v H1 ⟨ds,ed,q1⟩ e1 hr1 rv=>⟨d,ds,M1,ed,q1,e1,hr1,rv⟩⟩) fun u s1 ⟨v,H1,I1,r1,d,ds,M1,ed,q1,e1,hr1,rv⟩=>?_
 have lo:=aL.len (K:=X.K) I1 rv
 cases d with
 |tup es =>
  cases ed
  simp only[Rep]at rv
  obtain⟨a,vs,rfl,ta,rl⟩:=rv
  cases r1
  obtain⟨its,rvv,p,hz⟩:=I1.tuple ta.sq
  refine wpAny_pyIter_tuple (show s1.heap.IsTuple a its.toArray from p) ?_
  refine⟨s1.heap.objs.size,[s1.heap.objs.size],_,_,H1,rfl,I1.kept (t':=s1.toks) fun b o e=>u8 _ e,tm a _,⟨_,J6 _ rfl,rfl,rfl⟩,pY (o:=default) I1,?_⟩
  refine k _ M1 _ H1 (q1 lo) e1 hr1 fun M2 H2 e2 hr2 i=>⟨fun d hd=>?_,fun hl=>⟨vs,(ta.ext e2).sq,by rw[<-rl.length];exact hl⟩⟩
  obtain⟨v,gv,r⟩:=rl.get hd
  refine⟨⟨vs,v,(ta.ext e2).sq,gv⟩,fun x H' ⟨eH,y⟩=>?_⟩
  subst eH
  have:=y vs (ta.ext e2).sq
  rw[gv]at this;cases this
  exact⟨Ext.refl _ _,hr2,r.ext e2⟩
 |lst es =>
  cases ed
  simp only[Rep]at rv
  obtain⟨a,vs,rfl,ta,rl⟩:=rv
  cases r1
  obtain⟨its,rvv,p,hz⟩:=I1.list (SqL.of ta.1)
  refine wpAny_pyIter_list p.isList ?_
  refine⟨s1.heap.objs.size,[s1.heap.objs.size],_,_,H1,rfl,I1.kept (t':=s1.toks) fun b o e=>u8 _ e,oA a _,⟨_,J6 _ rfl,rfl,rfl⟩,pY (o:=default) I1,?_⟩
  refine k _ M1 _ H1 (q1 lo) e1 hr1 fun M2 H2 e2 hr2 i=>⟨fun d hd=>?_,fun hl=>⟨vs,SqL.of (ta.ext e2).1,by rw[<-rl.length];exact hl⟩⟩
  obtain⟨v,gv,r⟩:=rl.get hd
  refine⟨⟨vs,v,SqL.of (ta.ext e2).1,gv⟩,fun x H' ⟨eH,y⟩=>?_⟩
  subst eH
  have:=y vs (SqL.of (ta.ext e2).1)
  rw[gv]at this;cases this
  exact⟨Ext.refl _ _,hr2,r.ext e2⟩
 |scr es =>
  cases ed
  simp only[Rep]at rv
  obtain⟨a,vs,rfl,ta,rl⟩:=rv
  cases r1
  obtain⟨its,rvv,p,hz⟩:=I1.list ta.sq
  refine wpAny_pyIter_list p.isList ?_
  refine⟨s1.heap.objs.size,[s1.heap.objs.size],_,_,H1,rfl,I1.kept (t':=s1.toks) fun b o e=>u8 _ e,oA a _,⟨_,J6 _ rfl,rfl,rfl⟩,pY (o:=default) I1,?_⟩
  refine k _ M1 _ H1 (q1 lo) e1 hr1 fun M2 H2 e2 hr2 i=>⟨fun d hd=>?_,fun hl=>⟨vs,(ta.ext e2).sq,by rw[<-rl.length];exact hl⟩⟩
  obtain⟨v,gv,r⟩:=rl.get hd
  refine⟨⟨vs,v,(ta.ext e2).sq,gv⟩,fun x H' ⟨eH,y⟩=>?_⟩
  subst eH
  have:=y vs (ta.ext e2).sq
  rw[gv]at this;cases this
  exact⟨Ext.refl _ _,hr2,r.ext e2⟩
 |str x =>
  simp only[gP]at ed
  by_cases hz:x.length<=J0
  ·rw[if_pos hz]at ed;cases ed
   simp only[Rep]at rv
   subst rv
   obtain⟨t,rfl⟩:=r1
   have hq:=k _ M1 _ H1 (q1 (by have hz2:x.cps.size<=J0:=hz;simpa[kR]using hz2)) e1 hr1 ET
   cases ha:x.cps.all (·<128)
   ·exact wpAny_pyIter_wide ha (ux I1 "str_iterator" (by decide) (fun A hA=>Walks.strWide hA _ x t) (fun A i s' Q E st q=>wpAny_pyIter_striter_wide st q) hq)
   ·exact wpAny_pyIter_ascii ha (ux I1 "str_ascii_iterator" (by decide) (fun A hA=>Walks.strAscii hA _ x t) (fun A i s' Q E st q=>wpAny_pyIter_striter_ascii st q) hq)
  ·rw[if_neg hz]at ed;cases ed
 |_=>cases ed
end
section
variable{M:DH}
theorem pW{i:Int}:rdM M (.int i)=.int i:=rfl
theorem Fo{i:Bool}:rdM M (.bl i)=.bl i:=rfl
theorem lC{i:Str}:rdM M (.str i)=.str i:=rfl
theorem BS:rdM M .non=.non:=rfl
theorem AZ{i:List D}:rdM M (.tup i)=.tup i:=rfl
theorem AH{i:List D}:rdM M (.lst i)=.lst i:=rfl
theorem Ay{i:List D}:rdM M (.scr i)=.scr i:=rfl
theorem dN{a:J9}{ds:List D}(h:M a=some (.lst ds)):rdM M (.ref a)=.lst ds:=by simp[rdM,h]
theorem BG{a:J9}{ds:List D}:rdM (aw M a (.lst ds)) (.ref a)=.lst ds:=dN aj
theorem D1{f:Int->Int->Option D}{a b:Int}:iOp f (.int a) (.int b)=f a b:=rfl
theorem Bb{a b:Int}:kU (.int a) (.int b)=some (.int (a+b)):=rfl
theorem px{a b:Str}:kU (.str a) (.str b)=if a.length+b.length<=J0 then some (.str (a++b))else none:=rfl
theorem AU{a b:List D}:kU (.lst a) (.lst b)=if a.length+b.length<=J0 then some (.lst (a++b))else none:=rfl
theorem pE{a b:List D}:kU (.tup a) (.tup b)=if a.length+b.length<=J0 then some (.tup (a++b))else none:=rfl
theorem FQ{a:List D}{b:Int}:ixD (.lst a) (.int b)=atI a b:=rfl
theorem G8{a:List D}{b:Int}:ixD (.scr a) (.int b)=atI a b:=rfl
theorem G0{a:List D}{b:Int}:ixD (.tup a) (.int b)=atI a b:=rfl
theorem CI{z:Str}{i:Int}:ixD (.str z) (.int i)=if z.length<=J0 then(atI z.cps.toList i).map fun c=>.str ⟨#[c]⟩else none:=rfl
theorem HH{α:Type}{x:α}{xs:List α}:atI (x::xs) 0=some x:=bN (j:=0) rfl
theorem GZ{α:Type}{x y:α}{xs:List α}:atI (x::y::xs) 1=some y:=bN (j:=1) rfl
theorem G3{α:Type}{x y z:α}{xs:List α}:atI (x::y::z::xs) 2=some z:=bN (j:=2) rfl
theorem z9{f:D->Option D}{d:D}:jH f [d]=f d:=rfl
theorem Dq{a:List D}:fW (.lst a)=some (.int a.length):=rfl
theorem Fq{a:List D}:fW (.tup a)=some (.int a.length):=rfl
theorem DP{a:List D}:fW (.scr a)=some (.int a.length):=rfl
theorem DG{x:Str}:fW (.str x)=if x.length<=J0 then some (.int x.length)else none:=rfl
theorem EB{i:Int}:F4 (.int i)=some (.int (if i<0 then -i else i)):=rfl
theorem E1{a:List D}:D6 (.lst a)=some (.tup a):=rfl
theorem CZ{a:List D}:D6 (.tup a)=some (.tup a):=rfl
theorem Hf{b:Bool}{x:D}{ds:List D}:inD b x (.lst ds)=if bw x=true/\ds.all bw=true then some (.bl (xor b (ds.any fun d=>eqD d x)))else none:=rfl
theorem He{b:Bool}{x:D}{ds:List D}:inD b x (.tup ds)=if bw x=true/\ds.all bw=true then some (.bl (xor b (ds.any fun d=>eqD d x)))else none:=rfl
theorem D3{a b:Int}:eqF (.int a) (.int b)=some (.bl (a==b)):=by simp[eqF,dLe,eqD]
theorem Fi{a b:Str}:eqF (.str a) (.str b)=some (.bl (a==b)):=by simp[eqF,dLe,eqD]
theorem Dj{a b:Bool}:eqF (.bl a) (.bl b)=some (.bl (a==b)):=by simp[eqF,dLe,eqD]
theorem GK{ds:List D}{lo hi:Option Int}:slD (.scr ds) lo hi=some (.lst (cC ds lo hi)):=rfl
theorem Hx{ds:List D}{lo hi:Option Int}:slD (.lst ds) lo hi=some (.lst (cC ds lo hi)):=rfl
theorem GQ{x:Str}{lo hi:Option Int}:slD (.str x) lo hi=if x.length<=J0 then some (.str (ab3 x lo hi))else none:=rfl
theorem zZ{a:List D}:gP (.lst a)=some a:=rfl
theorem yd{a:List D}:gP (.tup a)=some a:=rfl
theorem xv{a:List D}:gP (.scr a)=some a:=rfl
theorem zu{x:Str}:gP (.str x)=if x.length<=J0 then some (kR x)else none:=rfl
theorem FE{n:Nat}:ixN (n+1) 0=some 0:=by simp[ixN]<;>omega
theorem Hb{n:Nat}:ixN (n+2) 1=some 1:=by simp[ixN]<;>omega
theorem FZ{n:Nat}:ixN (n+3) 2=some 2:=by simp[ixN]<;>omega
theorem sz3(n:Nat) (h:n<=1000:=by decide):n<=J0:=M9 h (by decide)
theorem Fd{b:Bool}:AB "bool" (.bl b)=some true:=rfl
end
end L2
namespace L2
theorem zT{i j:Int}(h:-18446744073709551616<j/\j<18446744073709551616):g9 i j=True:=by unfold g9;simp;right;omega
theorem Gq{i j:Int}(h:-18446744073709551616<i/\i<18446744073709551616):g9 i j=True:=by unfold g9;simp;left;omega
theorem xR:qQ 10 18=True:=by simp[qQ]
theorem Hl{i j:Int}(h:0<j/\j<1073741824):mX i j=True:=by unfold mX;simp[h]
end L2
namespace L2
open PySem PySem.Spec PyProof.Rows
theorem Ao{a b:Str}:eqD (.str a) (.str b)=(a==b):=by simp[eqD]
theorem mx{x:Str}:∀{ws:List Str},(ws.map D.str).any (fun d=>eqD d (.str x))=decide (x∈ws)
 |[]=>by simp
 |w::ws=>by
  rw[N2,Q7,mx (ws:=ws),Ao]
  by_cases h:w=x
  ·subst h;simp
  ·have h2:(w==x)=false:=by simpa using h
   have h3:¬ x=w:=fun e=>h e.symm
   simp[h2,h3]
theorem r8{ws:List Str}:(ws.map D.str).all bw=true:=by
 induction ws with
 |nil=>rfl
 |cons w ws ih=>rw[N2,W7,ih];rfl
section
variable{X:Cx}{e:K4}{te:TEd}{pos:Pos}
def xI(te:TEd):TSd:=fun E Δ M=>te Δ M fun d M1=>∃M2,LeM M2 M1/\E.rt d M2
theorem CY(he:PEd X e te):PSd X (.Return (some e) pos) (xI te):=(tT he).conv fun D σ H ⟨Δ,M,E,sr,hr,q,k⟩=>⟨Δ,M,_,sr,hr,q,fun d M1 v H1 ⟨M2,hle,q1⟩ e1 hr1 rv =>
 k.rt _ _ _ H1 q1 (e1.trans (Ext.le hle)) (hr1.le hle) (rv.ext (Ext.le hle))⟩
theorem pK{M:DH}{q:J9}{o:HD}(h:M q=none):LeM M (aw M q o):=fun a u e=>by
 by_cases ha:a=q
 ·subst ha;rw[h]at e;cases e
 ·rw[au ha];exact e
end
end L2
namespace L2
open PySem PySem.Spec PyProof.Rows PySem.Builtin.Str
/-! ### texts as lists of kR -/
def tx(cs:List Nat):Str:=⟨cs.toArray⟩
theorem BC(cs:List Nat):(tx cs).cps.toList=cs:=by simp[tx]
theorem zJ(a b:List Nat):tx a++tx b=tx (a++b):=by
 show Str.mk (a.toArray++b.toArray)=_
 simp[tx]
theorem cL{α:Type} [DecidableEq α]:∀(V K:List α),V.Nodup->(∀x∈V,x∈K)->V.length<=K.length
 |[],_,_,_=>U1 _
 |x::V,K,hn,h=>by
  have hx:=h x N8
  obtain⟨h1,h2⟩:=W5.mp hn
  have:=cL V (K.erase x) h2 fun y hy=>(List.mem_erase_of_ne (by rintro rfl;exact h1 hy)).mpr (h y (L5 _ hy))
  rw[List.length_erase_of_mem hx]at this
  have hp:0<K.length:=List.length_pos_of_mem hx
  simp only[N9]
  omega
abbrev abc:Str:=X6 "abcdefghijklmnopqrstuvwxyz"
def AX:List Nat:=List.range' 97 26
theorem Fe:abc=tx AX:=by decide +kernel
end L2
namespace L2
open PySem PySem.Spec PyProof.Rows
theorem nY{g:GD}{tb:TSd}{E:iG}{all:List D}(I:Nat->DE->DH->Prop)
  (step:∀(i:Nat) (d:D) (Δ:DE) (M:DH) (X:DE->DH->Prop),all[i]?=some d->I i Δ M->(∀ Δ' M',I (i+1) Δ' M'->X Δ' M')->∃ Δ',g d Δ=some Δ'/\tb { E with nx:=X,ct:=X,bk:=E.nx } Δ' M)
  (fin:∀ Δ M,I all.length Δ M->E.nx Δ M):∀(ds:List D) (i:Nat) (Δ:DE) (M:DH),all.drop i=ds->i<=all.length->I i Δ M->cZ g tb E ds Δ M
 |[],i,Δ,M,e,hi,h=>by
  have:i=all.length:=by
   have:=congrArg aa3 e
   simp at this;omega
  subst this
  simpa only[cZ]using fin Δ M h
 |d::ds,i,Δ,M,e,hi,h=>by
  have hlt:i<all.length:=by
   have:=congrArg aa3 e
   simp at this;omega
  have hd:all[i]?=some d:=by
   have:=congrArg List.head? e
   simpa using this
  have hn:all.drop (i+1)=ds:=by
   rw[<-List.tail_drop,e];rfl
  simp only[cZ]
  exact step i d Δ M _ hd h fun Δ' M' h'=>nY I step fin ds (i+1) Δ' M' hn hlt h'
theorem aK{g:GD}{tb:TSd}{E:iG}{ds:List D}{Δ:DE}{M:DH}(I:Nat->DE->DH->Prop) (h0:I 0 Δ M)
  (step:∀(i:Nat) (d:D) (Δ:DE) (M:DH) (X:DE->DH->Prop),ds[i]?=some d->I i Δ M->(∀ Δ' M',I (i+1) Δ' M'->X Δ' M')->∃ Δ',g d Δ=some Δ'/\tb { E with nx:=X,ct:=X,bk:=E.nx } Δ' M)
  (fin:∀ Δ M,I ds.length Δ M->E.nx Δ M):cZ g tb E ds Δ M:=nY I step fin ds 0 Δ M rfl (U1 _) h0
theorem si{g:GD}{tc:TTd}{te:TEd}{all:List D}{Q:List D->DH->Prop}(I:Nat->List D->DE->DH->Prop)
  (step:∀ (i:Nat) (d:D) (acc:List D) (Δ:DE) (M:DH) (X:List D → DE → DH → Prop),all[i]? = some d → I i acc Δ M → (∀ acc' Δ' M',I (i + 1) acc' Δ' M' → X acc' Δ' M') →
   ∃ Δ',g d Δ=some Δ'/\tc Δ' M fun b M1=>if b=true then te Δ' M1 fun y M2=>X (acc++[y]) Δ' M2 else X acc Δ' M1)
  (fin:∀acc Δ M,I all.length acc Δ M->Q acc M):∀(ds:List D) (i:Nat) (acc:List D) (Δ:DE) (M:DH),all.drop i=ds->i<=all.length->I i acc Δ M->eR g tc te ds Δ M acc Q
 |[],i,acc,Δ,M,e,hi,h=>by
  have:i=all.length:=by
   have:=congrArg aa3 e
   simp at this;omega
  subst this
  simpa only[eR]using fin acc Δ M h
 |d::ds,i,acc,Δ,M,e,hi,h=>by
  have hlt:i<all.length:=by
   have:=congrArg aa3 e
   simp at this;omega
  have hd:all[i]?=some d:=by
   have:=congrArg List.head? e
   simpa using this
  have hn:all.drop (i+1)=ds:=by
   rw[<-List.tail_drop,e];rfl
  simp only[eR]
  exact step i d acc Δ M (fun acc' Δ' M'=>eR g tc te ds Δ' M' acc' Q) hd h fun acc' Δ' M' h'=>si I step fin ds (i+1) acc' Δ' M' hn hlt h'
theorem jq{g:GD}{tc:TTd}{te:TEd}{ds:List D}{Δ:DE}{M:DH}{Q:List D->DH->Prop}(I:Nat->List D->DE->DH->Prop) (h0:I 0 [] Δ M)
  (step:∀ (i:Nat) (d:D) (acc:List D) (Δ:DE) (M:DH) (X:List D → DE → DH → Prop),ds[i]? = some d → I i acc Δ M → (∀ acc' Δ' M',I (i + 1) acc' Δ' M' → X acc' Δ' M') →
   ∃ Δ',g d Δ=some Δ'/\tc Δ' M fun b M1=>if b=true then te Δ' M1 fun y M2=>X (acc++[y]) Δ' M2 else X acc Δ' M1)
  (fin:∀acc Δ M,I ds.length acc Δ M->Q acc M):eR g tc te ds Δ M [] Q:=si I step fin ds 0 [] Δ M rfl (U1 _) h0
theorem szB(n:Nat) (h:n<=16000000:=by decide):n<=J0:=M9 h (by decide)
theorem cF{α:Type}{f:α->D}{xs:List α}{i:Nat}{d:D}(h:(xs.map f)[i]?=some d):∃x,xs[i]?=some x/\d=f x:=by
 rw[O7]at h
 cases e:xs[i]? with
 |none=>rw[e]at h;cases h
 |some x=>rw[e]at h;cases h;exact⟨x,rfl,rfl⟩
theorem rW{K:o0}{M:DH}{H:Hp}:∀ns:List Int,aq K M H (ns.map D.int) (ns.map V.int)
 |[]=>aq.nil
 |n::ns=>aq.cons (by simp[Rep]) (rW ns)
theorem wn{K:o0}{H:Hp}{a:J9}{ns:List Int}(hO:Cm H) (hS:SqL K H a (ns.map V.int)):aq K noM H [.scr (ns.map D.int)] [.ref a]:=by
 refine aq.cons ?_ aq.nil
 simp only[Rep]
 refine⟨a,ns.map V.int,rfl,?_,rW ns⟩
 rcases hS with h|h
 ·left
  rcases h with h|h
  ·rcases hO a with z|⟨o,xs,z⟩<;>(rw[h]at z;cases z)
  ·exact⟨h,rfl⟩
 ·right
  exact .inr h
def GL(S:SpD):Prop:=∀(ns:List Int) (R:D->DH->Prop),ns.length<=63->(∀M',R (.bl true) M')->S [.scr (ns.map .int)] noM R
theorem GS{S:SpD}(hS:GL S) {k:Nat}{x:Str}{l:PySem.W.OpenLaw}{q:L8}{loose:List Str}{XP:(Str->Option s0)->L9->Prop}{YP:P2->L9->Prop}{d:DefRec}{K:Params->o0}(hr:cA k ac2) (hn:l.most=some 63) (hdf:d.params.defaults=[])
  (hY:∀(w:P2) (h:L9),YP w h->(K w.params).In h)
  (F:∀ (w:P2) (mg:Str → Option s0) (fa:J9) (h:L9),(K w.params).In h → h.Ns T8 mg → mg d.name = some (.ref fa) →
   ∃fd:U3,(∀(s:I0) (u:s0),ad6 s fd ⟨[u],[]⟩ [(x,u)])/\∀base:L9,(K w.params).In base->base.Ns T8 mg->ba l.prog w (K w.params) mg base CX0 k fa fd [x] (spD (K w.params) 1 S)) :
  PySem.W.WalkO q loose XP YP l.row.toRowW d [] (fun f vs=>PySem.call f vs) :=
 L2.uN (n:=63) (k:=k) (x:=x) (CX:=fun _=>CX0) (sp:=fun w=>spD (K w.params) 1 S) hn (by decide) hdf hr hY F
  (fun w H a ns hl hO hq=>⟨[.scr (ns.map .int)],noM,fun d _=>d=.bl true,rfl,wn hO hq,HR.nil,hS ns _ hl (fun _=>rfl),fun d M' v H' e _ _ rv=>by subst e;simpa only[Rep]using rv⟩) fun _ _ _ _ _ z=>z
/-! ### reversed(tuple) -/
section
variable{prog:L8}{w:P2}{A:O3}{E:s0->I0->Prop}{s:I0}
def tp(h:L9) (a l:J9) (i:Int):Prop:=∃o,h.get? a=some o/\o.cls=.type "reversed"/\o.data=.fields #[.ref l,rawInt i]
theorem tp.at{h h':L9}{a l:J9}{i:Int}(x:tp h a l i) (e:∀o,h.get? a=some o->h'.get? a=some o):tp h' a l i:=let⟨o,ho,r⟩:=x;⟨o,e _ ho,r⟩
end
section
variable{X:Cx}{a b c e:K4}{es:List K4}{te ta tb:TEd}{t:TAd}{pos:Pos}{tg iter:K4}
theorem nG:P3 "reversed"=some (.type "reversed"):=by kernel_rfl
end
section
variable{X:Cx}
open PySem.SeqAt in
def neF(x y:D):Option D:=if dLe x 60=true/\dLe y 60=true then some (.bl (!(eqD x y)))else none
theorem Eb{a b:Int}:neF (.int a) (.int b)=some (.bl (!(a==b))):=by simp[neF,dLe,eqD]
theorem Fh{a b:Str}:neF (.str a) (.str b)=some (.bl (!(a==b))):=by simp[neF,dLe,eqD]
theorem Fb{a b:Bool}:neF (.bl a) (.bl b)=some (.bl (!(a==b))):=by simp[neF,dLe,eqD]
end
end L2
namespace HT
open PySem PyProof.Rows
section
variable{prog:L8}{w:P2}{A:O3}{E:s0->I0->Prop}{s:I0}
theorem nK{t:J9}{items:Array s0}{Q:Bool->I0->Prop}(ht:ad2 s.heap t items) (h:Q true s):K5 (L3 prog w) A (K3.Tuple.tupleIsExact (.ref t)) Q E s:=by
 unfold K3.Tuple.tupleIsExact
 exact t3 (ab2 ht.typeIs (J3 (by simpa using h)))
theorem getItem_tuple_whole{t sl:J9}{items:Array s0}{vl vu:s0}{lo hi:Option Int}{Q:s0->I0->Prop}(ht:ad2 s.heap t items) (hs:s.heap.IsSliceOf sl vl vu .none) (pl:ac4 vl lo) (pu:ac4 vu hi)
  (hw:sIx items.size 0 lo=0/\sIx items.size items.size hi=items.size) (h:Q (.ref t) s):K5 (L3 prog w) A (Y8 (.ref t) (.ref sl)) Q E s:=by
 obtain⟨os,hos,hcs,hds⟩:=id hs
 have hTs:s.TypeIs (.ref sl) "slice":=⟨os,hos,hcs⟩
 unfold Y8
 try with_reducible refine W1 ?_
 first|refine t3 (J3 ?_)|skip
 refine t3 (wpAny_sequenceKey ht.typeIs (by decide) ?_)
 refine t3 (Q9 (name:=X6 "__getitem__") ht.typeIs K6
  (V6 K6 ht.typeIs entry_tuple_getitem ?_ (args_tuple_getitem _ _)))
 show K5 _ _ (S3 (.ref t) >>= _) _ _ s
 refine t3 (aa4 ht ?_)
 refine t3 (ab2 hTs ?_)
 rw[if_pos (by decide)]
 refine t3 (fD hs pl pu ?_)
 show K5 _ _ (if(((sIx items.size 0 lo:Nat):Int)==0&&(1:Int)==1&&(sIx items.size items.size hi-sIx items.size 0 lo)==items.size)=true then _ else _) _ _ s
 rw[if_pos (by rw[hw.1,hw.2];simp)]
 refine t3 (nK ht ?_)
 rw[if_pos rfl]
 refine t3 (wpAny_rule ?_)
 first
  |exact J3 ⟨_,rfl,J3 h⟩
  |exact t3 (J3 (J3 ⟨_,rfl,J3 h⟩))
theorem jS{sl:J9}{tk:Tok}{n:Nat}{Q:Int×Int×Nat->I0->Prop}(hs:s.heap.IsSliceOf sl .none .none (.int (-1) tk))
  (h:Q ((n:Int)-1,-1,n) s):K5 (L3 prog w) A (S2 (.ref sl) (W0 (n:Int))) Q E s:=by
 obtain⟨os,hos,hcs,hds⟩:=id hs
 unfold S2 K3.Slice.sliceFields
 refine t3 (t3 (U5 hos hds (x:=.none) rfl (t3 (U5 hos hds (x:=.none) rfl (t3 (U5 hos hds (x:=.int (-1) tk) rfl (J3 ?_)))))))
 refine t3 (slicePart_int ?_)
 show K5 _ _ (if((-1:Int)==0)=true then _ else _) _ _ s
 rw[if_neg (by decide)]
 refine t3 (Z5 (t3 (Z5 (t3 (J3 ?_)))))
 show K5 _ _ (W0 ((n:Int)-1,(-1:Int),O1 ((n:Int)-1) (-1) (-1))) _ _ s
 have e:O1 ((n:Int)-1) (-1) (-1)=n:=by
  unfold O1
  simp only[show ¬ ((-1:Int) > 0)by omega,if_false]
  split<;>simp<;>omega
 rw[e]
 exact J3 h
theorem yl(xs:Array s0):((V7 xs.size).filterMap fun(m:Nat)=>xs[((xs.size:Int)-1+(m:Int)*-1).toNat]?)=xs.toList.reverse:=by
 have:∀k,k<=xs.size->((V7 k).filterMap fun(m:Nat)=>xs[((xs.size:Int)-1+(m:Int)*-1).toNat]?)=xs.toList.reverse.take k:=by
  intro k
  induction k with
  |zero=>intro _;simp
  |succ k ih =>
   intro hk
   rw[List.range_succ,List.filterMap_append,ih (by omega)]
   have e1:((xs.size:Int)-1+(k:Int)*-1).toNat=xs.size-1-k:=by omega
   have e2:xs[xs.size-1-k]?=some xs[xs.size-1-k]:=by simp[show xs.size-1-k<xs.size by omega]
   have e3:xs.toList.reverse[k]?=some xs[xs.size-1-k]:=by
    rw[List.getElem?_reverse (by simp;omega)]
    simpa using e2
   rw[List.take_add_one,e3]
   have e4:(List.filterMap (fun(m:Nat)=>xs[((xs.size:Int)-1+(m:Int)*-1).toNat]?) [k])=[xs[xs.size-1-k]]:=by
    rw[R4,e1,e2];rfl
   rw[e4];rfl
 rw[this xs.size (J4 _)]
 exact List.take_of_length_le (by simp)
theorem getItem_tuple_rev{t sl:J9}{items:Array s0}{tk:Tok}{Q:s0->I0->Prop}(ht:ad2 s.heap t items) (hs:s.heap.IsSliceOf sl .none .none (.int (-1) tk))
  (h:Q (.ref s.heap.objs.size) { s with heap:=s.heap.push { cls:=.type "tuple",data:=.seq items.toList.reverse.toArray } }) (hsz:items.size<=J0):K5 (L3 prog w) A (Y8 (.ref t) (.ref sl)) Q E s:=by
 have htake:sizeOk (.seq items.toList.reverse.toArray):=by
  show items.toList.reverse.toArray.size<=J0
  simpa using hsz
 obtain⟨os,hos,hcs,hds⟩:=id hs
 have hTs:s.TypeIs (.ref sl) "slice":=⟨os,hos,hcs⟩
 unfold Y8
 try with_reducible refine W1 ?_
 first|refine t3 (J3 ?_)|skip
 refine t3 (wpAny_sequenceKey ht.typeIs (by decide) ?_)
 refine t3 (Q9 (name:=X6 "__getitem__") ht.typeIs K6
  (V6 K6 ht.typeIs entry_tuple_getitem ?_ (args_tuple_getitem _ _)))
 show K5 _ _ (S3 (.ref t) >>= _) _ _ s
 refine t3 (aa4 ht ?_)
 refine t3 (ab2 hTs ?_)
 rw[if_pos (by decide)]
 refine t3 (jS hs ?_)
 show K5 _ _ (if((((items.size:Int)-1)==0&&(-1:Int)==1&&items.size==items.size)=true)then _ else _) _ _ s
 rw[if_neg (by simp),yl]
 first
  |exact t3 (m:=L1 _) (N3 (J3 ⟨_,rfl,J3 h⟩) htake)
  |exact t3 (m:=L1 _) (N3 (t3 (J3 (J3 ⟨_,rfl,J3 h⟩))) htake)
  |exact t3 (t3 (m:=L1 _) (N3 (J3 (J3 ⟨_,rfl,J3 h⟩)) htake))
  |exact t3 (t3 (m:=L1 _) (N3 (J3 ⟨_,rfl,J3 h⟩) htake))
end
end HT
namespace L2
open PySem PySem.Spec PyProof.Rows
section
variable{X:Cx}{a b c e:K4}{es:List K4}{te ta tb ts:TEd}{t:TAd}{pos:Pos}
/-! ### slices of tuples,the whole one too -/
def slE:D->Option Int->Option Int->Option D
 |.tup ds,lo,hi=>some (.tup (cC ds lo hi))
 |d,lo,hi=>slD d lo hi
def IG(K:o0):V->Option Int->Option Int->Hp->VK->Prop:=fun x lo hi H Q=>∃a xs,x=.ref a/\SqT K H a xs/\(HT.sIx xs.length 0 lo=0/\HT.sIx xs.length xs.length hi=xs.length)/\Q (.ref a) H
theorem qU:SlR X (IG X.K):=by
 intro ae s σ H x v vl vu lo hi sl Q I rx hs pl pu h
 obtain⟨a,xs,rfl,hx,hw,q⟩:=h
 cases rx
 obtain⟨its,r,ht,hz⟩:=I.tuple hx
 have bj:its.toArray.size=xs.length:=by rw[J1];exact r.length.symm
 exact⟨"tuple",_,K6.lookup,ht.typeIs,HT.getItem_tuple_whole ht hs pl pu (by rw[bj];exact hw) ⟨.ref a,H,I,rfl,q⟩⟩
theorem uh{ds:List D}{lo hi:Option Int}(h:HT.sIx ds.length 0 lo=0/\HT.sIx ds.length ds.length hi=ds.length):cC ds lo hi=ds:=by
 unfold cC
 rw[h.1,h.2];simp
def EM(te:TEd) (tl th:TOd):TEd:=fun Δ M Q=>te Δ M fun x M1=>tl Δ M1 fun l M2=>th Δ M2 fun u M3=>∃z,slE (rdM M3 x) l u=some z/\Q z M3
theorem zQ{lo hi:Option K4}{tl th:TOd}{p2:Pos}(he:PEd X e te) (hl:POd X lo tl) (hu:POd X hi th):PEd X (.Subscript e (.Slice lo hi none p2) pos) (EM te tl th):=by
 refine(rQ (SlR.or vt (SlR.or yj (SlR.or Ah qU))) he hl hu).conv fun σ H Q hh=>?_
 obtain⟨Δ,M,R,sr,hr,q,k⟩:=hh
 refine⟨Δ,M,_,sr,hr,q,fun x M1 v H1 q1 e1 hr1 rv=>⟨Δ,M1,_,sr.ext e1,hr1,q1,fun l M2 H2 q2 e2 hr2=>⟨Δ,M2,_,(sr.ext e1).ext e2,hr2,q2,fun u M3 H3 ⟨z,ez,q3⟩ e3 hr3=>?_⟩⟩⟩
 have rr:=((rv.ext e2).ext e3).rd hr3
 have ee:=(e1.trans e2).trans e3
 have kk:∀w H',Ext M3 H3 M3 H'->HR X.K M3 H'->Rep X.K M3 H' z w->Q w H':=fun w H' e4 hr4 r4=>k z M3 w H' q3 (ee.trans e4) hr4 r4
 generalize rdM M3 x=d at rr ez
 cases d with
 |lst ds =>
  cases ez
  obtain⟨a,vs,rfl,sq,rl⟩:=rr
  refine .inl ⟨a,vs,rfl,SqL.of sq,fun p hp=>lM hr3 hp ?_ kk⟩
  unfold cC nF
  rw[<-rl.length]
  exact(rl.drop _).take _
 |scr ds =>
  cases ez
  obtain⟨a,vs,rfl,sq,rl⟩:=rr
  refine .inl ⟨a,vs,rfl,sq,fun p hp=>lM hr3 hp ?_ kk⟩
  unfold cC nF
  rw[<-rl.length]
  exact(rl.drop _).take _
 |str s =>
  simp only[slE,slD]at ez
  by_cases hz:s.length<=J0
  ·rw[if_pos hz]at ez;cases ez
   exact .inr (.inr (.inl ⟨s,nM rr,hz,kk _ H3 (Ext.refl _ _) hr3 (by simp[Rep])⟩))
  ·rw[if_neg hz]at ez;cases ez
 |tup ds =>
  cases ez
  have rt:=aL.tup hr3 rr
  obtain⟨a,vs,rfl,sq,rl⟩:=rr
  by_cases hw:HT.sIx ds.length 0 l=0/\HT.sIx ds.length ds.length u=ds.length
  ·refine .inr (.inr (.inr ⟨a,vs,rfl,sq,by rw[<-rl.length];exact hw,kk _ H3 (Ext.refl _ _) hr3 ?_⟩))
   rw[uh hw]
   exact rt
  ·refine .inr (.inl ⟨a,vs,rfl,sq,by rw[<-rl.length];exact hw,fun p hp=>jU hr3 hp ?_ kk⟩)
   unfold cC nF
   rw[<-rl.length]
   exact(rl.drop _).take _
 |_=>cases ez
theorem Hr{ds:List D}{lo hi:Option Int}:slE (.tup ds) lo hi=some (.tup (cC ds lo hi)):=rfl
theorem GG{ds:List D}{lo hi:Option Int}:slE (.lst ds) lo hi=some (.lst (cC ds lo hi)):=rfl
theorem FI{ds:List D}{lo hi:Option Int}:slE (.scr ds) lo hi=some (.lst (cC ds lo hi)):=rfl
theorem Gy{x:Str}{lo hi:Option Int}:slE (.str x) lo hi=if x.length<=J0 then some (.str (ab3 x lo hi))else none:=rfl
/-! ### t[::-1] -/
theorem aq.reverse{K:o0}{M:DH}{H:Hp}:∀{ds:List D}{vs:List V},aq K M H ds vs->aq K M H ds.reverse vs.reverse
 |[],_,h=>by simp only[aq]at h;subst h;exact aq.nil
 |d::ds,_,h=>by
  simp only[aq]at h
  obtain⟨v,ws,rfl,h1,h2⟩:=h
  rw[X1,X1]
  exact(aq.reverse h2).append (aq.cons h1 aq.nil)
def t9(te ts:TEd):TEd:=fun Δ M Q=>te Δ M fun x M1=>ts Δ M1 fun st M2=>st=.int (-1)/\∃ds,x=.tup ds/\Q (.tup ds.reverse) M2
theorem yr{st:K4}{p2:Pos}(he:PEd X e te) (hs:PEd X st ts):PEd X (.Subscript e (.Slice none none (some st) p2) pos) (t9 te ts):=by
 intro ae s σ H Q I hh
 obtain⟨Δ,M,R,sr,hr,q,k⟩:=hh
 refine ac6 (thn (he ae s σ H (fun v H1=>∃x M1,Rep X.K M1 H1 x v/\Ext M H M1 H1/\HR X.K M1 H1/\ts Δ M1 fun st M2=>st=.int (-1)/\∃ds,x=.tup ds/\R (.tup ds.reverse) M2) I
  ⟨Δ,M,_,sr,hr,q,fun x M1 v H1 q1 e1 hr1 rv=>⟨x,M1,rv,e1,hr1,q1⟩⟩) fun v s1 ⟨vx,H1,I1,r1,x,M1,rv,e1,hr1,q1⟩=>?_)
 refine wpAny_Slice ?_
 rw[evalPart_none]
 refine J3 (J3 ?_)
 rw[evalPart_some]
 refine thn (hs ae s1 σ H1 (fun u H2=>∃M2 ds,u=.int (-1)/\x=.tup ds/\R (.tup ds.reverse) M2/\Ext M1 H1 M2 H2/\HR X.K M2 H2) I1 ⟨Δ,M1,_,sr.ext e1,hr1,q1,fun d M2 u H2 ⟨ed,ds,ex,q2⟩ e2 hr2 ru=>⟨M2,ds,by subst ed;simpa only[Rep]using ru,ex,q2,e2,hr2⟩⟩) fun u s2 ⟨vu,H2,I2,r2,M2,ds,eu,ex,q2,e2,hr2⟩=>?_
 subst eu
 subst ex
 obtain⟨tk,rfl⟩:=r2
 have rv2:=rv.ext e2
 simp only[Rep]at rv2
 obtain⟨ad,vs,rfl,ta,rl⟩:=rv2
 cases r1
 have I4:Inv X ae σ H2 { s2 with heap:=s2.heap.push { cls:=.type "slice",data:=.fields #[.none,.none,.int (-1) tk] } }:=I2.kept (t':=s2.toks) fun b ob q=>u8 _ q
 obtain⟨its,r,ht,hz⟩:=I4.tuple ta.sq
 have hl:=r.length
 refine tail_any (ops:=[.ref ad,.ref s2.heap.objs.size]) ht.typeIs K6.lookup (HT.getItem_tuple_rev ht (L9.IsSliceOf.new ..) ?_ (by rw[J1,<-hl];exact hz)) (by with_unfolding_all rfl)
 have rr:aA vs.reverse its.reverse:=aA.reverse r
 refine⟨.ref _,_,I4.laid (t':=s2.toks) (o:=.tup vs.reverse) (fun b ob q=>u8 _ q) (J4 _) ?_,rfl,?_⟩
 ·exact⟨by simpa using hz,_,rr,iR.new _ _⟩
 ·exact jU (ds:=ds.reverse) hr2 (I4.hok.fresh (J4 _)) rl.reverse fun w H' e4 hr4 r4=>k _ M2 w H' q2 ((e1.trans e2).trans e4) hr4 r4
def ud:TSd:=fun _ _ _=>False
theorem A0{st:Z7}:PSd X st ud:=fun ae s σ H D I ⟨_,_,_,_,_,q,_⟩=>Q5 q
variable{scope:U9}{cl:List (Str×J9)}{ah:List Str}{tg:K4}
def B2(X:Cx) (scope:U9) (cl:List (Str×J9)) (ah:List Str) (tgs:List K4) (g:GDs):Prop:=∃gv:TGs,(∀C s H ex,PGs (ay X scope cl (X.N++ah) C s H ex) tgs gv)/\∀(ds:List D) (vs:List V) (σ:St) (Δ Δ':DE) (M:DH) (H:Hp) (Q:St->Hp->Prop),SR X.K M H σ Δ->HR X.K M H->aq X.K M H ds vs->g ds Δ=some Δ'->(∀ σ',SR X.K M H σ' Δ'->Q σ' H)->gv vs σ H Q
theorem pL:B2 X scope cl ah [] kK:=⟨ES,fun _ _ _ _=>uH,fun ds vs σ Δ Δ' M H Q sr hr rv e k=>by
 cases ds with
 |nil=>simp only[aq]at rv;subst rv;cases e;exact⟨rfl,k _ sr⟩
 |cons _ _=>cases e⟩
theorem eU{tgs:List K4}{g:GD}{gs:GDs}(h1:PGa X scope cl ah tg g) (h2:B2 X scope cl ah tgs gs)
  (hs:∀env,(P4 (tg::tgs) env).map (·.2)=X9 tg env::(P4 tgs env).map (·.2):=by intro _;rfl):B2 X scope cl ah (tg::tgs) (eF g gs):=by
 obtain⟨g1,p1,k1⟩:=h1
 obtain⟨g2,p2,k2⟩:=h2
 refine⟨Ab g1 g2,fun C s H ex=>qM (p1 C s H ex) (p2 C s H ex) (hs _),fun ds vs σ Δ Δ' M H Q sr hr rv e k=>?_⟩
 cases ds with
 |nil=>cases e
 |cons d r =>
  simp only[aq]at rv
  obtain⟨v,ws,rfl,h3,h4⟩:=rv
  simp only[eF]at e
  cases q:g d Δ with
  |none=>rw[q]at e;cases e
  |some Δ1 =>
   rw[q]at e
   exact⟨v,ws,rfl,k1 d v σ Δ Δ1 M H _ sr hr h3 q fun σ1 sr1=>k2 r ws σ1 Δ1 Δ' M H Q sr1 hr h4 e k⟩
theorem p0{tgs:List K4}{kx:Nat}{g:GDs}{n:Nat}(hc:X.calm=true) (h:B2 X scope cl ah tgs g) (hn:∀env,(P4 tgs env).length=n:=by intro _;rfl) (hst:∀env,(P4 tgs env).findIdx? (·.1)=none:=by intro _;rfl):PGa X scope cl ah (.Tuple tgs kx pos) (iK g n):=by
 obtain⟨g1,p1,k1⟩:=h
 refine⟨Fu X.K n g1,fun C s H ex=>yU (X:=ay X scope cl (X.N++ah) C s H ex) hc (p1 C s H ex) (hn _) (hst _),fun d v σ Δ Δ' M H Q sr hr rv e k=>?_⟩
 cases d with
 |tup ds =>
  simp only[iK]at e
  by_cases hl:ds.length=n
  ·rw[if_pos hl]at e
   simp only[Rep]at rv
   obtain⟨a,vs,rfl,ta,rl⟩:=rv
   exact⟨a,vs,rfl,ta.sq,by rw[<-rl.length];exact hl,k1 ds vs σ Δ Δ' M H Q sr hr rl e k⟩
  ·rw[if_neg hl]at e;cases e
 |_=>cases e
end
section
variable{X:Cx}{a b c e:K4}{es:List K4}{te ta tb ts:TEd}{t:TAd}{pos:Pos}
/-! ### in,not in: a text within a text,too -/
def inE(neg:Bool) (x y:D):Option D:=match y with
 |.str j=>match x with
  |.str i=>some (.bl (xor neg (!(U0 j i 0 j.length 1).isEmpty)))
  |_=>none
 |y=>inD neg x y
theorem zt:bO X (L7 .In) (inE false):=by
 intro ae s σ H M x y v u dx dy dz Q I hr rx ry r1 r2 e k
 cases dy with
 |str j =>
  cases dx with
  |str i =>
   cases e
   exact wH ae s σ H x y v u Q I rx ry ⟨i,j,nM r1,nM r2,k _ H (Ext.refl _ _) hr (by simp[Rep])⟩
  |_=>cases e
 |_=>exact Ia ae s σ H M x y v u dx _ dz Q I hr rx ry r1 r2 e k
theorem xF:bO X (L7 .NotIn) (inE true):=by
 intro ae s σ H M x y v u dx dy dz Q I hr rx ry r1 r2 e k
 cases dy with
 |str j =>
  cases dx with
  |str i =>
   cases e
   exact p9 ae s σ H x y v u Q I rx ry ⟨i,j,nM r1,nM r2,k _ H (Ext.refl _ _) hr (by simp[Rep])⟩
  |_=>cases e
 |_=>exact AS ae s σ H M x y v u dx _ dz Q I hr rx ry r1 r2 e k
theorem Hh{b:Bool}{x:D}{ds:List D}:inE b x (.lst ds)=if bw x=true/\ds.all bw=true then some (.bl (xor b (ds.any fun d=>eqD d x)))else none:=rfl
theorem GR{b:Bool}{x:D}{ds:List D}:inE b x (.tup ds)=if bw x=true/\ds.all bw=true then some (.bl (xor b (ds.any fun d=>eqD d x)))else none:=rfl
theorem Cv{b:Bool}{c:Nat}{y:Str}:inE b (.str (tx [c])) (.str y)=some (.bl (xor b (decide (c∈y.cps.toList)))):=by
 show some (D.bl (xor b (!(U0 y ⟨#[c]⟩ 0 y.length 1).isEmpty)))=_
 rw[StrLaws.found_one]
/-! ### {} -/
/-! ### pop -/
/-! ###*-/
theorem kh:fillsNumberSlot (.type "tuple") "mul"=W0 false :=
 PySem.fillsNumberSlot_seq (id:="tuple.__mul__") (r:=some (.builtin "tuple.__rmul__")) F.slot_tuple_mul.lookup (by decide +kernel) F.slot_tuple_rmul.lookup (by decide +kernel)
theorem o7:seqRepeat? (.type "tuple")=W0 (some (.builtin "tuple.__mul__")):=by
 unfold seqRepeat?
 rw[PySem.seqSlot_of (T:="tuple") (name:="__mul__") (id:="tuple.__mul__") F.slot_tuple_mul.lookup (by decide +kernel),PySem.seqSlot_of (T:="tuple") (name:="__rmul__") (id:="tuple.__rmul__") F.slot_tuple_rmul.lookup (by decide +kernel)]
 rfl
theorem m6(a:Int) (t:Tok) (l:J9) (items:Array s0) :
  Meets (K3.«int.__rmul__» ⟨[.int a t,.ref l],[]⟩) (fun _ R s=>ad2 s.heap l items/\R (.ok (.ret s0.notImplemented)) s) :=
 .of_wp fun prog w A R s h=>by
  obtain⟨hp,g,d,tk,os⟩:=s;obtain⟨⟨⟨cls,dd,data,sl⟩,ho,hc,n,hd⟩,h⟩:=h
  simp only at hc hd
  subst hc hd
  wp_walk;exact⟨_,rfl,h⟩
theorem nN(l:J9) (items:Array s0) (x:Int) (u:Tok) (hne:items.isEmpty=false) (hx:2<=x) (hx2:x<2 ^ 62) (hz:items.size*x.toNat<=J0) :
  Meets (K3.«tuple.__mul__» ⟨[.ref l,.int x u],[]⟩) (fun _ R s=>ad2 s.heap l items/\R (.ok (.ret (.ref s.heap.objs.size))) { s with heap:=s.heap.push { cls:=.type "tuple",data:=.seq (K2 x.toNat items.toList).flatten.toArray } }) :=
 .of_wp fun prog w A R s h=>by
  obtain⟨ht,h⟩:=h
  show K5 _ _ (do
   let n <-asIndex (.int x u)
   if n < -(2 ^ 63) || n>=2 ^ 63 then
    rule "tuple.repeat.overflow";raiseError "OverflowError" s!"cannot fit '{← typeNameOf (.int x u)}' into an index-sized integer"
   let xs <-S3 (.ref l)
   if xs.isEmpty || n==1 then
    if <-K3.Tuple.tupleIsExact (.ref l)then rule "tuple.repeat.same-object";return <-ret (.ref l)
   if n<=0 || xs.isEmpty then return <-ret (<-L1 #[])
   if xs.size*n > (2 ^ 63-1) / 8 then rule "tuple.repeat.no-memory";raiseNew (<-newExc (.type "MemoryError") [])
   if K3.Tuple.tupleTooMany (xs.size*n)then unsupported "tuple.__mul__:memory"
   ret (<-L1 ((K2 n.toNat xs).foldl (·++·) #[]))) _ _ s
  refine t3 (wpAny_of_eq (a:=x) rfl ?_)
  dsimp only
  rw[if_neg (by simp only[Bool.or_eq_true,decide_eq_true_eq];omega)]
  refine t3 (aa4 ht ?_)
  rw[if_neg (by simp[hne];omega)]
  rw[if_neg (by simp[hne];omega)]
  have hxn:((x.toNat:Nat):Int)=x:=by omega
  have hm:(items.size:Int)*x=((items.size*x.toNat:Nat):Int):=by rw[Int.natCast_mul,hxn]
  have h16:J0=16777216:=rfl
  rw[if_neg (by rw[hm];omega)]
  rw[if_neg (by unfold K3.Tuple.tupleTooMany;rw[hm];simp only[decide_eq_true_eq];omega)]
  have hf:ac7 (fun x1 x2=>x1++x2) #[] (K2 x.toNat items)=(K2 x.toNat items.toList).flatten.toArray:=by
   have:=jV items.toList x.toNat []
   rw[List.nil_append]at this
   simpa using this
  rw[hf]
  have hs:sizeOk (.seq (K2 x.toNat items.toList).flatten.toArray):=by
   show(K2 x.toNat items.toList).flatten.toArray.size<=J0
   rw[J1,pR,T9,Nat.mul_comm]
   exact hz
  exact t3 (m:=L1 _) (N3 (J3 ⟨_,rfl,h⟩) hs)
theorem aq.rep{K:o0}{M:DH}{H:Hp}{ds:List D}{vs:List V}(h:aq K M H ds vs):∀k:Nat,aq K M H (K2 k ds).flatten (K2 k vs).flatten
 |0=>aq.nil
 |k+1=>by
  rw[Q6,Q6,T5,T5]
  exact h.append (aq.rep h k)
def wo:D->D->Option D
 |.int a,.int b=>if g9 a b then some (.int (a*b))else none
 |.str x,.int n=>if x.length<=16777216/\-(2 ^ 63)<=n/\n<=16777216/\x.length*n.toNat<=16777216 then some (.str (Txt.mul x n))else none
 |.tup ds,.int n=>if 2<=n/\n<2 ^ 62/\ds≠[]/\ds.length*n.toNat<=J0 then some (.tup (K2 n.toNat ds).flatten)else none
 |.lst ds,.int n=>if -(2 ^ 63)<=n/\n<2 ^ 63/\ds.length*n.toNat<=J0 then some (.lst (K2 n.toNat ds).flatten)else none
 |_,_=>none
theorem cW:bO X (P9 .Mult) wo:=by
 intro ae s σ H M x y v u dx dy dz Q I hr rx ry r1 r2 e k
 cases dx with
 |int a =>
  cases dy with
  |int b=>exact E4 ae s σ H M x y v u _ _ dz Q I hr rx ry r1 r2 e k
  |_=>cases e
 |str z =>
  cases dy with
  |int n =>
   simp only[wo]at e
   by_cases hc:z.length<=16777216/\-(2 ^ 63)<=n/\n<=16777216/\z.length*n.toNat<=16777216
   ·rw[if_pos hc]at e;cases e
    have e1:=nM r1
    have e2:=dM r2
    subst e1;subst e2
    obtain⟨t1,rfl⟩:=rx
    obtain⟨t2,rfl⟩:=ry
    have hok:MulOk z n:=by
     by_cases hn:0<=n
     ·exact mulOk_of z.length n.toNat (J4 _) (by omega) hc.2.1 (by omega) hc.2.2.2
     ·exact mulOk_of z.length 0 (J4 _) (by omega) hc.2.1 (by omega) (by omega)
    exact SB.mul hok fun t' kk=>⟨.str _,H,I.tok _,⟨t',rfl⟩,k _ H (Ext.refl _ _) hr (by simp[Rep])⟩
   ·rw[if_neg hc]at e;cases e
  |_=>cases e
 |tup ds =>
  cases dy with
  |int n =>
   simp only[wo]at e
   by_cases hc:2<=n/\n<2 ^ 62/\ds≠[]/\ds.length*n.toNat<=J0
   ·rw[if_pos hc]at e;cases e
    have e2:=dM r2
    subst e2
    obtain⟨t2,rfl⟩:=ry
    obtain⟨a,vs,rfl,sq,rl⟩:=r1
    cases rx
    obtain⟨its,rv,pt,hz⟩:=I.tuple sq
    have hl1:=rv.length
    have hl2:=rl.length
    have hne:its.toArray.isEmpty=false:=by
     cases its with
     |nil =>
      have h0:ds.length=0:=by rw[hl2,hl1];rfl
      exact absurd (List.length_eq_zero_iff.mp h0) hc.2.2.1
     |cons _ _=>rfl
    have hzz:its.toArray.size*n.toNat<=J0:=by rw[J1,<-hl1,<-hl2];exact hc.2.2.2
    refine wpAny_binaryOp_repeat_ref (T:="tuple") (U:="int") (by decide) pt.typeIs (fun s'=>ab7 s' n t2) kh F.fills_int_mul Z0 o7 F.slot_int_index.lookup
     (Z9 Z0 (ab7 s n t2) F.entry_int_rmul (F.args_int_rmul_2 _ _) (m6 n t2 a its.toArray)
      ⟨pt,rfl,pt.typeIs,Z9 F.slot_tuple_mul pt.typeIs F.entry_tuple_mul (F.args_tuple_mul_2 _ _) (nN a its.toArray n t2 hne hc.1 hc.2.1 hzz) ⟨pt,?_⟩⟩)
    have rr:aA (K2 n.toNat vs).flatten (K2 n.toNat its).flatten:=rv.rep n.toNat
    refine⟨.ref s.heap.objs.size,_,I.laid (t':=s.toks) (o:=.tup (K2 n.toNat vs).flatten) (fun b ob q=>u8 _ q) (J4 _) ?_,rfl,?_⟩
    ·refine⟨?_,_,rr,by simpa using iR.new _ _⟩
     rw[pR,Nat.mul_comm,<-hl2];exact hc.2.2.2
    ·exact jU hr (I.hok.fresh (J4 _)) (rl.rep n.toNat) k
   ·rw[if_neg hc]at e;cases e
  |_=>cases e
 |lst ds =>
  cases dy with
  |int n =>
   simp only[wo]at e
   by_cases hc:-(2 ^ 63)<=n/\n<2 ^ 63/\ds.length*n.toNat<=J0
   ·rw[if_pos hc]at e;cases e
    obtain⟨a,vs,rfl,sq,rl⟩:=r1
    exact zl ae s σ H _ _ v u Q I rx ry ⟨a,n,vs,rfl,dM r2,sq,hc.1,hc.2.1,by rw[<-rl.length];exact hc.2.2,fun p hp=>lM hr hp (rl.rep n.toNat) k⟩
   ·rw[if_neg hc]at e;cases e
  |_=>cases e
 |_=>cases e
theorem qp{a b:Int}:wo (.int a) (.int b)=if g9 a b then some (.int (a*b))else none:=rfl
/-! ### is None -/
def oq:D->Bool
 |.non=>true
 |_=>false
def pB(neg:Bool) (x y:D):Option D:=match y with|.non=>some (.bl (xor neg (oq x)))|_=>none
theorem uO{K:o0}{M:DH}{H:Hp}{d:D}{x:V}(r:aL K M H d x):decide (x=V.non)=oq d:=by
 cases d with
 |tup ds=>obtain⟨a,vs,rfl,_⟩:=r;rfl
 |lst ds=>obtain⟨a,vs,rfl,_⟩:=r;rfl
 |scr ds=>obtain⟨a,vs,rfl,_⟩:=r;rfl
 |emp=>simp only[aL,Rep]at r;obtain⟨a,rfl,_⟩:=r;rfl
 |box _ _=>simp only[aL,Rep]at r;obtain⟨a,_,rfl,_⟩:=r;rfl
 |_=>simp only[aL,Rep]at r;subst r;rfl
theorem HY:bO X (L7 .Is) (pB false):=by
 intro ae s σ H M x y v u dx dy dz Q I hr rx ry r1 r2 e k
 cases dy with
 |non =>
  cases e
  refine Fy ae s σ H x y v u Q I rx ry ⟨F9 r2,?_⟩
  rw[uO r1]
  exact k _ H (Ext.refl _ _) hr (by simp[Rep])
 |_=>cases e
theorem Bj:bO X (L7 .IsNot) (pB true):=by
 intro ae s σ H M x y v u dx dy dz Q I hr rx ry r1 r2 e k
 cases dy with
 |non =>
  cases e
  refine Al ae s σ H x y v u Q I rx ry ⟨F9 r2,?_⟩
  rw[uO r1]
  exact k _ H (Ext.refl _ _) hr (by simp[Rep])
 |_=>cases e
theorem vT{b:Bool}{x:D}:pB b x .non=some (.bl (xor b (oq x))):=rfl
/-! ### a comprehension's list,ours -/
variable{scope:U9}{cl:List (Str×J9)}{ms:List Bool}{ah:List Str}{ifs:List K4}{tg iter elt:K4}
theorem yO{x:Str}{i:Int}{pos:Pos}(hg:Gl X x) (hm:∃tk,X.mg x=some (.int i tk)) (hd:(x==("__debug__":Str))=false:=by decide):PEd X (.Name x pos) (dC (.int i)):=by
 obtain⟨t,ht⟩:=hm
 exact AF hg ht hd
theorem xH{x y:Str}{pos:Pos}(hg:Gl X x) (hm:∃tk,X.mg x=some (.str y tk)) (hd:(x==("__debug__":Str))=false:=by decide):PEd X (.Name x pos) (dC (.str y)):=by
 obtain⟨t,ht⟩:=hm
 exact BV hg ht hd
end
/-! ### the same rules,as judgements that are not looked into -/
@[irreducible] def QEd(X:Cx) (e:K4) (t:TEd):Prop:=PEd X e t
theorem QEd.eq{X:Cx}{e:K4}{t:TEd}:QEd X e t=(PEd X e t):=by unfold QEd;rfl
@[irreducible] def QAd(X:Cx) (e:List K4) (t:TAd):Prop:=PAd X e t
theorem QAd.eq{X:Cx}{e:List K4}{t:TAd}:QAd X e t=(PAd X e t):=by unfold QAd;rfl
@[irreducible] def QTd(X:Cx) (e:K4) (t:TTd):Prop:=PTd X e t
theorem QTd.eq{X:Cx}{e:K4}{t:TTd}:QTd X e t=(PTd X e t):=by unfold QTd;rfl
@[irreducible] def QWd(X:Cx) (e:K4) (t:TTd):Prop:=PWd X e t
theorem QWd.eq{X:Cx}{e:K4}{t:TTd}:QWd X e t=(PWd X e t):=by unfold QWd;rfl
@[irreducible] def QSd(X:Cx) (e:Z7) (t:TSd):Prop:=PSd X e t
theorem QSd.eq{X:Cx}{e:Z7}{t:TSd}:QSd X e t=(PSd X e t):=by unfold QSd;rfl
@[irreducible] def QSs(X:Cx) (e:List Z7) (t:TSd):Prop:=jC X e t
theorem QSs.eq{X:Cx}{e:List Z7}{t:TSd}:QSs X e t=(jC X e t):=by unfold QSs;rfl
@[irreducible] def QId(X:Cx) (tg e:K4) (t:TId):Prop:=PId X tg e t
theorem QId.eq{X:Cx}{tg e:K4}{t:TId}:QId X tg e t=(PId X tg e t):=by unfold QId;rfl
@[irreducible] def QIf(X:Cx) (e:List K4) (t:TTd):Prop:=nJ X e t
theorem QIf.eq{X:Cx}{e:List K4}{t:TTd}:QIf X e t=(nJ X e t):=by unfold QIf;rfl
@[irreducible] def QOd(X:Cx) (e:Option K4) (t:TOd):Prop:=POd X e t
theorem QOd.eq{X:Cx}{e:Option K4}{t:TOd}:QOd X e t=(POd X e t):=by unfold QOd;rfl
theorem ab{X:Cx}(i:Nat) {x:Str}{pos:Pos}(hN:X.N[i]?=some x:=by rfl) (hv:Vis X.env.scope x:=by first|exact Or.inl rfl|exact Or.inr (Or.inl rfl)|exact Or.inr (Or.inr rfl)) (hd:(x==("__debug__":Str))=false:=by decide)
  (hcd:(x==("__classdict__":Str))=false:=by decide):QEd X (.Name x pos) (eD i):=by
 simp only[QEd.eq,QAd.eq,QTd.eq,QWd.eq,QSd.eq,QSs.eq,QId.eq,QIf.eq,QOd.eq]at *
 exact Hc (i:=i) (hN:=hN) (hv:=hv) (hd:=hd) (hcd:=hcd)
theorem ak{X:Cx}{i j pos}:QEd X (.Constant (.int i) j pos) (dC (.int i)):=by
 simp only[QEd.eq,QAd.eq,QTd.eq,QWd.eq,QSd.eq,QSs.eq,QId.eq,QIf.eq,QOd.eq]at *
 exact Gs 
theorem Bc{X:Cx}{i j pos}:QEd X (.Constant (.bool i) j pos) (dC (.bl i)):=by
 simp only[QEd.eq,QAd.eq,QTd.eq,QWd.eq,QSd.eq,QSs.eq,QId.eq,QIf.eq,QOd.eq]at *
 exact Ie 
theorem vH{X:Cx}{i j pos}:QEd X (.Constant (.str i) j pos) (dC (.str i)):=by
 simp only[QEd.eq,QAd.eq,QTd.eq,QWd.eq,QSd.eq,QSs.eq,QId.eq,QIf.eq,QOd.eq]at *
 exact Hu 
theorem uX{X:Cx}{j pos}:QEd X (.Constant .none j pos) (dC .non):=by
 simp only[QEd.eq,QAd.eq,QTd.eq,QWd.eq,QSd.eq,QSs.eq,QId.eq,QIf.eq,QOd.eq]at *
 exact Gi 
theorem yR{X:Cx}{x:Str}{i:Int}{pos:Pos}(hg:Gl X x) (hm:∃tk,X.mg x=some (.int i tk)) (hd:(x==("__debug__":Str))=false:=by decide):QEd X (.Name x pos) (dC (.int i)):=by
 simp only[QEd.eq,QAd.eq,QTd.eq,QWd.eq,QSd.eq,QSs.eq,QId.eq,QIf.eq,QOd.eq]at *
 exact yO (hg:=hg) (hm:=hm) (hd:=hd)
theorem yb{X:Cx}{x y:Str}{pos:Pos}(hg:Gl X x) (hm:∃tk,X.mg x=some (.str y tk)) (hd:(x==("__debug__":Str))=false:=by decide):QEd X (.Name x pos) (dC (.str y)):=by
 simp only[QEd.eq,QAd.eq,QTd.eq,QWd.eq,QSd.eq,QSs.eq,QId.eq,QIf.eq,QOd.eq]at *
 exact xH (hg:=hg) (hm:=hm) (hd:=hd)
theorem ag{X:Cx}:QAd X [] kn:=by
 simp only[QEd.eq,QAd.eq,QTd.eq,QWd.eq,QSd.eq,QSs.eq,QId.eq,QIf.eq,QOd.eq]at *
 exact F0 
theorem aa{X:Cx}{a:K4}{es:List K4}{ta:TEd}{tr:TAd}(ha:QEd X a ta) (hr:QAd X es tr) (hs:J5 (a::es) X.env=(false,T7 a X.env)::J5 es X.env:=by rfl):QAd X (a::es) (fB ta tr):=by
 simp only[QEd.eq,QAd.eq,QTd.eq,QWd.eq,QSd.eq,QSs.eq,QId.eq,QIf.eq,QOd.eq]at *
 exact Fg (ha:=ha) (hr:=hr) (hs:=hs)
theorem bU{X:Cx}{es:List K4}{pos:Pos}{x1}{t:TAd}(h:QAd X es t):QEd X (.Tuple es x1 pos) (wW t):=by
 simp only[QEd.eq,QAd.eq,QTd.eq,QWd.eq,QSd.eq,QSs.eq,QId.eq,QIf.eq,QOd.eq]at *
 exact F6 (h:=h)
theorem lR{X:Cx}{es:List K4}{pos:Pos}{t:TAd}(h:QAd X es t):QEd X (.List es pos) (E7 t):=by
 simp only[QEd.eq,QAd.eq,QTd.eq,QWd.eq,QSd.eq,QSs.eq,QId.eq,QIf.eq,QOd.eq]at *
 exact F7 (h:=h)
theorem fj{X:Cx}{es:List K4}{pos:Pos}{t:TAd}(h:QAd X es t):QEd X (.List es pos) (zh t):=by
 simp only[QEd.eq,QAd.eq,QTd.eq,QWd.eq,QSd.eq,QSs.eq,QId.eq,QIf.eq,QOd.eq]at *
 exact Do (h:=h)
theorem aM{X:Cx}{a:K4}{b:K4}{ta:TEd}{tb:TEd}{pos:Pos}{op:ab5}{r:D->D->Option D}(ho:bO X (P9 op) r) (ha:QEd X a ta) (hb:QEd X b tb):QEd X (.BinOp a op b pos) (dOp r ta tb):=by
 simp only[QEd.eq,QAd.eq,QTd.eq,QWd.eq,QSd.eq,QSs.eq,QId.eq,QIf.eq,QOd.eq]at *
 exact Ip (ho:=ho) (ha:=ha) (hb:=hb)
theorem iH{X:Cx}{a:K4}{b:K4}{ta:TEd}{tb:TEd}{pos:Pos}{op:aa7}{r:D->D->Option D}(ho:bO X (L7 op) r) (ha:QEd X a ta) (hb:QEd X b tb) (hm:P0 op b=false):QEd X (.Compare a [op] [b] pos) (dOp r ta tb):=by
 simp only[QEd.eq,QAd.eq,QTd.eq,QWd.eq,QSd.eq,QSs.eq,QId.eq,QIf.eq,QOd.eq]at *
 exact Hm (ho:=ho) (ha:=ha) (hb:=hb) (hm:=hm)
theorem aX{X:Cx}{a:K4}{b:K4}{ta:TEd}{tb:TEd}{pos:Pos}{r:D->D->Option D}(ho:IxR X (opV X.K r)) (ha:QEd X a ta) (hb:QEd X b tb) (hs:pd b):QEd X (.Subscript a b pos) (dOp r ta tb):=by
 simp only[QEd.eq,QAd.eq,QTd.eq,QWd.eq,QSd.eq,QSs.eq,QId.eq,QIf.eq,QOd.eq]at *
 exact Im (ho:=ho) (ha:=ha) (hb:=hb) (hs:=hs)
theorem AI{X:Cx}{a:K4}{ta:TEd}{pos:Pos}{op:UnaryOp}{r:D->Option D}(ho:EK X (ad4 op) r) (ha:QEd X a ta):QEd X (.UnaryOp op a pos) (dUn r ta):=by
 simp only[QEd.eq,QAd.eq,QTd.eq,QWd.eq,QSd.eq,QSs.eq,QId.eq,QIf.eq,QOd.eq]at *
 exact HW (ho:=ho) (ha:=ha)
theorem bh{X:Cx}{a:K4}{b:K4}{ta:TEd}{tb:TEd}{pos:Pos}{op:aa7}{r:D->D->Option D}(ho:bO X (L7 op) r) (ha:QEd X a ta) (hb:QEd X b tb) (hm:P0 op b=false):QTd X (.Compare a [op] [b] pos) (jv (dOp r ta tb)):=by
 simp only[QEd.eq,QAd.eq,QTd.eq,QWd.eq,QSd.eq,QSs.eq,QId.eq,QIf.eq,QOd.eq]at *
 exact C8 (ho:=ho) (ha:=ha) (hb:=hb) (hm:=hm)
theorem lX{X:Cx}{a:K4}{ta:TEd}(h:QEd X a ta) (he:∀whole,isTrue a X.env whole=(do let v <-whole;ad3 a.pos;Y3 [v] (truthy v)):=by intro _;rfl):QTd X a (jv ta):=by
 simp only[QEd.eq,QAd.eq,QTd.eq,QWd.eq,QSd.eq,QSs.eq,QId.eq,QIf.eq,QOd.eq]at *
 exact C2 (h:=h) (he:=he)
theorem ze{X:Cx}{a:K4}{pos:Pos}{tA:TTd}(h:QTd X a tA):QTd X (.UnaryOp .Not a pos) (yS tA):=by
 simp only[QEd.eq,QAd.eq,QTd.eq,QWd.eq,QSd.eq,QSs.eq,QId.eq,QIf.eq,QOd.eq]at *
 exact Ey (h:=h)
theorem lA{X:Cx}{a:K4}{pos:Pos}{tA:TTd}(ha:QTd X a tA):QWd X (.BoolOp .And [a] pos) tA:=by
 simp only[QEd.eq,QAd.eq,QTd.eq,QWd.eq,QSd.eq,QSs.eq,QId.eq,QIf.eq,QOd.eq]at *
 exact AK (ha:=ha)
theorem Ad{X:Cx}{a:K4}{pos:Pos}{tA:TTd}(ha:QTd X a tA):QWd X (.BoolOp .Or [a] pos) tA:=by
 simp only[QEd.eq,QAd.eq,QTd.eq,QWd.eq,QSd.eq,QSs.eq,QId.eq,QIf.eq,QOd.eq]at *
 exact D5 (ha:=ha)
theorem qh{X:Cx}{a:K4}{b:K4}{pos:Pos}{tA:TTd}{tB':TTd}{rest:List K4}(ha:QTd X a tA) (hb:QWd X (.BoolOp .And (b::rest) pos) tB'):QWd X (.BoolOp .And (a::b::rest) pos) (uY tA tB'):=by
 simp only[QEd.eq,QAd.eq,QTd.eq,QWd.eq,QSd.eq,QSs.eq,QId.eq,QIf.eq,QOd.eq]at *
 exact Dc (ha:=ha) (hb:=hb)
theorem Cs{X:Cx}{a:K4}{b:K4}{pos:Pos}{tA:TTd}{tB':TTd}{rest:List K4}(ha:QTd X a tA) (hb:QWd X (.BoolOp .Or (b::rest) pos) tB'):QWd X (.BoolOp .Or (a::b::rest) pos) (Dx tA tB'):=by
 simp only[QEd.eq,QAd.eq,QTd.eq,QWd.eq,QSd.eq,QSs.eq,QId.eq,QIf.eq,QOd.eq]at *
 exact HE (ha:=ha) (hb:=hb)
theorem nX{X:Cx}{a:K4}{ta:TEd}{pos:Pos}{op}(h:QEd X a ta):QEd X (.BoolOp op [a] pos) ta:=by
 simp only[QEd.eq,QAd.eq,QTd.eq,QWd.eq,QSd.eq,QSs.eq,QId.eq,QIf.eq,QOd.eq]at *
 exact GF (h:=h)
theorem jL{X:Cx}{a:K4}{b:K4}{ta:TEd}{tb:TEd}{pos:Pos}{rest:List K4}(ha:QEd X a ta) (hb:QEd X (.BoolOp .And (b::rest) pos) tb):QEd X (.BoolOp .And (a::b::rest) pos) (EJ ta tb):=by
 simp only[QEd.eq,QAd.eq,QTd.eq,QWd.eq,QSd.eq,QSs.eq,QId.eq,QIf.eq,QOd.eq]at *
 exact Ga (ha:=ha) (hb:=hb)
theorem FR{X:Cx}{a:K4}{ta:TEd}{pos:Pos}(ha:QEd X a ta):QEd X (.UnaryOp .Not a pos) (DL ta):=by
 simp only[QEd.eq,QAd.eq,QTd.eq,QWd.eq,QSd.eq,QSs.eq,QId.eq,QIf.eq,QOd.eq]at *
 exact Gz (ha:=ha)
theorem Ih{X:Cx}{a:K4}{b:K4}{c:K4}{ta:TEd}{tb:TEd}{pos:Pos}{tA:TTd}(hc:QTd X c tA) (ha:QEd X a ta) (hb:QEd X b tb):QEd X (.IfExp c a b pos) (dIf tA ta tb):=by
 simp only[QEd.eq,QAd.eq,QTd.eq,QWd.eq,QSd.eq,QSs.eq,QId.eq,QIf.eq,QOd.eq]at *
 exact H0 (hc:=hc) (ha:=ha) (hb:=hb)
theorem AN{X:Cx}{a:K4}{b:K4}{c:K4}{ta:TEd}{tb:TEd}{pos:Pos}{tc:TEd}{op op':aa7}{r r':D->D->Option D}(ho:bO X (L7 op) r) (ho':bO X (L7 op') r') (ha:QEd X a ta) (hb:QEd X b tb) (hc:QEd X c tc)
  (hm:lastMarks [op,op'] [b,c]=false:=by with_unfolding_all rfl):QEd X (.Compare a [op,op'] [b,c] pos) (uq r r' ta tb tc):=by
 simp only[QEd.eq,QAd.eq,QTd.eq,QWd.eq,QSd.eq,QSs.eq,QId.eq,QIf.eq,QOd.eq]at *
 exact Ce (ho:=ho) (ho':=ho') (ha:=ha) (hb:=hb) (hc:=hc) (hm:=hm)
theorem aB{X:Cx}{pos:Pos}{x:Str}{p:Pos}{e:K4}{es:List K4}{t:TAd}{id:String}{r:List D->Option D}(hc:bo X (.builtin id) r) (hg:Gl X x) (hm:X.mg x=none) (hv:P3 x=some (.builtin id)) (ha:QAd X (e::es) t) (hn:x≠"__name__":=by decide) (hdb:(x==("__debug__":Str))=false:=by decide)
  (he:J5 (e::es) X.env=(false,T7 e X.env)::J5 es X.env:=by rfl) (hpl:(T3 pos (J5 es X.env)).any (·.1)=false:=by rfl):QEd X (.Call (.Name x p) (e::es) [] pos) (dCB r t):=by
 simp only[QEd.eq,QAd.eq,QTd.eq,QWd.eq,QSd.eq,QSs.eq,QId.eq,QIf.eq,QOd.eq]at *
 exact Bk (hc:=hc) (hg:=hg) (hm:=hm) (hv:=hv) (ha:=ha) (hn:=hn) (hdb:=hdb) (he:=he) (hpl:=hpl)
theorem bF{X:Cx}{pos:Pos}{x:Str}{p:Pos}{e:K4}{es:List K4}{t:TAd}{id:String}{r:List D->Option D}(hc:bo X (.type id) r) (hg:Gl X x) (hm:X.mg x=none) (hv:P3 x=some (.type id)) (ha:QAd X (e::es) t) (hn:x≠"__name__":=by decide) (hdb:(x==("__debug__":Str))=false:=by decide)
  (he:J5 (e::es) X.env=(false,T7 e X.env)::J5 es X.env:=by rfl) (hpl:(T3 pos (J5 es X.env)).any (·.1)=false:=by rfl):QEd X (.Call (.Name x p) (e::es) [] pos) (dCB r t):=by
 simp only[QEd.eq,QAd.eq,QTd.eq,QWd.eq,QSd.eq,QSs.eq,QId.eq,QIf.eq,QOd.eq]at *
 exact xx (hc:=hc) (hg:=hg) (hm:=hm) (hv:=hv) (ha:=ha) (hn:=hn) (hdb:=hdb) (he:=he) (hpl:=hpl)
theorem bz{X:Cx}:QSs X [] uQ:=by
 simp only[QEd.eq,QAd.eq,QTd.eq,QWd.eq,QSd.eq,QSs.eq,QId.eq,QIf.eq,QOd.eq]at *
 exact EY 
theorem ai{X:Cx}{st:Z7}{rest:List Z7}{t:TSd}{u:TSd}(h1:QSd X st t) (h2:QSs X rest u):QSs X (st::rest) (xf t u):=by
 simp only[QEd.eq,QAd.eq,QTd.eq,QWd.eq,QSd.eq,QSs.eq,QId.eq,QIf.eq,QOd.eq]at *
 exact Au (h1:=h1) (h2:=h2)
theorem av{X:Cx}{st:Z7}{t:TSd}(h1:QSd X st t):QSs X [st] t:=by
 simp only[QEd.eq,QAd.eq,QTd.eq,QWd.eq,QSd.eq,QSs.eq,QId.eq,QIf.eq,QOd.eq]at *
 exact Ds (h1:=h1)
theorem aT{X:Cx}{e:K4}{te:TEd}{pos:Pos}(he:QEd X e te):QSd X (.Return (some e) pos) (zW te):=by
 simp only[QEd.eq,QAd.eq,QTd.eq,QWd.eq,QSd.eq,QSs.eq,QId.eq,QIf.eq,QOd.eq]at *
 exact Hq (he:=he)
theorem fR{X:Cx}{e:K4}{te:TEd}{pos:Pos}(he:QEd X e te) (hs:U7 e none pos.line X.env=W0 false:=by rfl):QSd X (.Expr e pos) (uG te):=by
 simp only[QEd.eq,QAd.eq,QTd.eq,QWd.eq,QSd.eq,QSs.eq,QId.eq,QIf.eq,QOd.eq]at *
 exact ED (he:=he) (hs:=hs)
theorem cf{X:Cx}{c:K4}{pos:Pos}{t:TSd}{u:TSd}{sa sb:List Z7}{tc:TTd}(hc:QTd X c tc) (ha:QSs X sa t) (hb:QSs X sb u):QSd X (.If c sa sb pos) (Bu tc t u):=by
 simp only[QEd.eq,QAd.eq,QTd.eq,QWd.eq,QSd.eq,QSs.eq,QId.eq,QIf.eq,QOd.eq]at *
 exact GU (hc:=hc) (ha:=ha) (hb:=hb)
theorem aJ{X:Cx}{e:K4}{te:TEd}{pos:Pos}{i:Nat}{x:Str}{pos':Pos}(hN:X.N.Nodup) (hi:X.N[i]?=some x) (hx:Loc X.env.scope x) (he:QEd X e te) (hs:U7 e (some (.Name x pos')) pos.line X.env=W0 false:=by rfl) (hf:X.fn x=true∨X.env.scope.names.lookup x=some .local:=by first|exact .inl rfl|exact .inr rfl|assumption) :
  QSd X (.Assign [.Name x pos'] e pos) (zc i te):=by
 simp only[QEd.eq,QAd.eq,QTd.eq,QWd.eq,QSd.eq,QSs.eq,QId.eq,QIf.eq,QOd.eq]at *
 exact HB (hN:=hN) (hi:=hi) (hx:=hx) (he:=he) (hs:=hs) (hf:=hf)
theorem Hw{X:Cx}{e:K4}{te:TEd}{pos:Pos}{i:Nat}{x:Str}{op:ab5}{r:D->D->Option D}{pos':Pos}(hN:X.N.Nodup) (hi:X.N[i]?=some x) (hx:Loc X.env.scope x) (he:QEd X e te) (ho:bO X (ac3 op) r) (hf:X.fn x=true∨X.env.scope.names.lookup x=some .local:=by first|exact .inl rfl|exact .inr rfl|assumption) :
  QSd X (.AugAssign (.Name x pos') op e pos) (E9 i te r):=by
 simp only[QEd.eq,QAd.eq,QTd.eq,QWd.eq,QSd.eq,QSs.eq,QId.eq,QIf.eq,QOd.eq]at *
 exact Gx (hN:=hN) (hi:=hi) (hx:=hx) (he:=he) (ho:=ho) (hf:=hf)
theorem pX{X:Cx}{t:TSd}{sts:List Z7}(i:Nat) (h:QSs X sts t):QSs X sts (sL i t):=by
 simp only[QEd.eq,QAd.eq,QTd.eq,QWd.eq,QSd.eq,QSs.eq,QId.eq,QIf.eq,QOd.eq]at *
 exact AE (i:=i) (h:=h)
theorem ot{X:Cx}{e:K4}{te:TEd}{pos:Pos}{tg:K4}{g:GD}(he:QEd X e te) (hg:PGd X tg g) (hs:Y0 [tg] e pos.line X.env=W0 false:=by rfl) (hw:Y1 [tg] e X.env=W0 none:=by rfl)
  (h1:(P4 [tg] X.env).map (·.2)=[X9 tg X.env]:=by rfl):QSd X (.Assign [tg] e pos) (EW te g):=by
 simp only[QEd.eq,QAd.eq,QTd.eq,QWd.eq,QSd.eq,QSs.eq,QId.eq,QIf.eq,QOd.eq]at *
 exact Hk (he:=he) (hg:=hg) (hs:=hs) (hw:=hw) (h1:=h1)
theorem bx{X:Cx}{a:K4}{pos:Pos}{tg:K4}{ta:TAd}{p:Pos}(hg:Gl X "range") (hm:X.mg "range"=none) (ha:QAd X [a] ta) (hs:J5 [a] X.env=[(false,T7 a X.env)]:=by rfl):QId X tg (.Call (.Name "range" p) [a] [] pos) (qj ta):=by
 simp only[QEd.eq,QAd.eq,QTd.eq,QWd.eq,QSd.eq,QSs.eq,QId.eq,QIf.eq,QOd.eq]at *
 exact EO (hg:=hg) (hm:=hm) (ha:=ha) (hs:=hs)
theorem cc{X:Cx}{pos:Pos}{tg:K4}{iter:K4}{body:List Z7}{wi:TId}{g:GD}{tb:TSd}(hp:ab0 (L3 X.prog X.w) X.A X.env X.xe) (hc:X.calm=true) (hi:QId X tg iter wi) (hg:PGd X tg g) (hb:QSs X body tb)
  (hs:∀x,O0 iter X.env x=W0 x:=by intro _;rfl):QSd X (.For tg iter body [] pos) (As wi g tb):=by
 simp only[QEd.eq,QAd.eq,QTd.eq,QWd.eq,QSd.eq,QSs.eq,QId.eq,QIf.eq,QOd.eq]at *
 exact Ha (hp:=hp) (hc:=hc) (hi:=hi) (hg:=hg) (hb:=hb) (hs:=hs)
theorem uF{X:Cx}{c:K4}{pos:Pos}{body:List Z7}{tc:TTd}{tb:TSd}(hp:ab0 (L3 X.prog X.w) X.A X.env X.xe) (hc:QTd X c tc) (hb:QSs X body tb):QSd X (.While c body [] pos) (sH tc tb):=by
 simp only[QEd.eq,QAd.eq,QTd.eq,QWd.eq,QSd.eq,QSs.eq,QId.eq,QIf.eq,QOd.eq]at *
 exact BX (hp:=hp) (hc:=hc) (hb:=hb)
theorem bY{X:Cx}:QIf X [] qz:=by
 simp only[QEd.eq,QAd.eq,QTd.eq,QWd.eq,QSd.eq,QSs.eq,QId.eq,QIf.eq,QOd.eq]at *
 exact FU 
theorem pJ{X:Cx}{c:K4}{tc:TTd}(h:QTd X c tc):QIf X [c] tc:=by
 simp only[QEd.eq,QAd.eq,QTd.eq,QWd.eq,QSd.eq,QSs.eq,QId.eq,QIf.eq,QOd.eq]at *
 exact FT (h:=h)
theorem iz{X:Cx}{pos:Pos}{tg:K4}{iter:K4}{elt:K4}{scope:U9}{cl:List (Str×J9)}{ms:List Bool}{ah:List Str}{ifs:List K4}{wi:TId}{g:GD}{tc:TTd}{te:TEd}(S:cI X scope cl ms ah) (bt:X.calm=true) (hi:QId X tg iter wi) (hg:PGa X scope cl ah tg g)
  (hif:∀C s H ex,QIf (ay X scope cl (X.N++ah) C s H ex) ifs tc) (he:∀C s H ex,QEd (ay X scope cl (X.N++ah) C s H ex) elt te)
  (hs:∀x,O0 iter X.env x=W0 x:=by intro _;rfl):QEd X (.ListComp elt [⟨tg,iter,ifs,0⟩] scope pos) (dLc ms ah.length wi g tc te):=by
 simp only[QEd.eq,QAd.eq,QTd.eq,QWd.eq,QSd.eq,QSs.eq,QId.eq,QIf.eq,QOd.eq]at *
 exact HL (S:=S) (bt:=bt) (hi:=hi) (hg:=hg) (hif:=hif) (he:=he) (hs:=hs)
theorem qq{X:Cx}{pos:Pos}{tg:K4}{iter:K4}{elt:K4}{scope:U9}{cl:List (Str×J9)}{ms:List Bool}{ah:List Str}{ifs:List K4}{i:Nat}{x:Str}{spos pos':Pos}{wi:TId}{g:GD}{tc:TTd}{te:TEd}(hN:X.N.Nodup) (hix:X.N[i]?=some x) (hx:X.env.scope.names.lookup x=some .local)
  (hsw:U7 (.ListComp elt [⟨tg,iter,ifs,0⟩] scope pos) (some (.Name x pos')) spos.line X.env=W0 true) (S:cI X scope cl ms ah) (bt:X.calm=true) (hi:QId X tg iter wi) (hg:PGa X scope cl ah tg g)
  (hif:∀C s H ex,QIf (ay X scope cl (X.N++ah) C s H ex) ifs tc) (he:∀C s H ex,QEd (ay X scope cl (X.N++ah) C s H ex) elt te)
  (hs:∀x,O0 iter X.env x=W0 x:=by intro _;rfl):QSd X (.Assign [.Name x pos'] (.ListComp elt [⟨tg,iter,ifs,0⟩] scope pos) spos) (zc i (dLc ms ah.length wi g tc te)):=by
 simp only[QEd.eq,QAd.eq,QTd.eq,QWd.eq,QSd.eq,QSs.eq,QId.eq,QIf.eq,QOd.eq]at *
 exact BF (hN:=hN) (hix:=hix) (hx:=hx) (hsw:=hsw) (S:=S) (bt:=bt) (hi:=hi) (hg:=hg) (hif:=hif) (he:=he) (hs:=hs)
theorem uV{X:Cx}{e:K4}{te:TEd}{pos:Pos}{o i:K4}{to ti:TEd}{p:Pos}(ho:QEd X o to) (hi:QEd X i ti) (he:QEd X e te)
  (ha:∀ v,X9 (.Subscript o i p) X.env v = (do
   let ov <-Y3 [v] (T7 o X.env)
   let iv <-Y3 [v,ov] (T7 i X.env)
   ad3 p
   Y3 [v,ov,iv] (setItem ov iv v)
   release [v,ov,iv] []):=by intro _;rfl) (hs:Y0 [.Subscript o i p] e pos.line X.env=W0 false:=by rfl) (hw:Y1 [.Subscript o i p] e X.env=W0 none:=by rfl)
  (h1:(P4 [.Subscript o i p] X.env).map (·.2)=[X9 (.Subscript o i p) X.env]:=by rfl):QSd X (.Assign [.Subscript o i p] e pos) (Ek to ti te):=by
 simp only[QEd.eq,QAd.eq,QTd.eq,QWd.eq,QSd.eq,QSs.eq,QId.eq,QIf.eq,QOd.eq]at *
 exact Gv (ho:=ho) (hi:=hi) (he:=he) (ha:=ha) (hs:=hs) (hw:=hw) (h1:=h1)
theorem oV{X:Cx}{e:K4}{te:TEd}{o:K4}{to:TEd}{aW aG:Pos}(ho:QEd X o to) (he:QEd X e te) (bG:U2 o "append" X.env (T7 o X.env)=T7 o X.env:=by rfl)
  (hse:J5 [e] X.env=(false,T7 e X.env)::J5 [] X.env:=by rfl)
  (dR:((T3 aG (J5 [e] X.env)).all (fun x => !x.1) && (ac5 aG (Y9 [] X.env)).all (fun x => x.1.isSome)
  &&decide ([e].length+([]:List X8).length+(if([]:List X8).isEmpty then 0 else 1)<30))=true:=by rfl)
  (bE:(aW.endLine==aG.line)=true:=by rfl) (bZ:(T3 aG (J5 [] X.env)).any (·.1)=false:=by rfl):QEd X (.Call (.Attribute o "append" aW) [e] [] aG) (BD to te):=by
 simp only[QEd.eq,QAd.eq,QTd.eq,QWd.eq,QSd.eq,QSs.eq,QId.eq,QIf.eq,QOd.eq]at *
 exact FS (ho:=ho) (he:=he) (bG:=bG) (hse:=hse) (dR:=dR) (bE:=bE) (bZ:=bZ)
theorem yh{X:Cx}{a:K4}{ta:TEd}{pos:Pos}{T:Str}{Tn:String}{p p2:Pos}(hT:okT Tn=true) (hg:Gl X "isinstance") (hm:X.mg "isinstance"=none) (hg2:Gl X T) (hm2:X.mg T=none) (hv2:P3 T=some (.type Tn)) (ha:QEd X a ta) (hn2:T≠"__name__":=by decide) (hd2:(T==("__debug__":Str))=false:=by decide)
  (hs:J5 [a,.Name T p2] X.env=(false,T7 a X.env)::J5 [.Name T p2] X.env:=by rfl) (hs2:J5 [.Name T p2] X.env=(false,T7 (.Name T p2) X.env)::J5 [] X.env:=by rfl) (hpl:(T3 pos (J5 [.Name T p2] X.env)).any (·.1)=false:=by rfl) :
  QEd X (.Call (.Name "isinstance" p) [a,.Name T p2] [] pos) (Ff Tn ta):=by
 simp only[QEd.eq,QAd.eq,QTd.eq,QWd.eq,QSd.eq,QSs.eq,QId.eq,QIf.eq,QOd.eq]at *
 exact Gp (hT:=hT) (hg:=hg) (hm:=hm) (hg2:=hg2) (hm2:=hm2) (hv2:=hv2) (ha:=ha) (hn2:=hn2) (hd2:=hd2) (hs:=hs) (hs2:=hs2) (hpl:=hpl)
theorem fU{X:Cx}:QOd X none o9:=by
 simp only[QEd.eq,QAd.eq,QTd.eq,QWd.eq,QSd.eq,QSs.eq,QId.eq,QIf.eq,QOd.eq]at *
 exact Be 
theorem dI{X:Cx}{e:K4}{te:TEd}(h:QEd X e te):QOd X (some e) (zB te):=by
 simp only[QEd.eq,QAd.eq,QTd.eq,QWd.eq,QSd.eq,QSs.eq,QId.eq,QIf.eq,QOd.eq]at *
 exact A3 (h:=h)
theorem qc{X:Cx}{e:K4}{es:List K4}{t:TAd}{pos:Pos}{p:Pos}{x:Str}{k:Nat}{n:Nat}{S:SpD}(F:FnD X.prog X.w X.K X.mg X.base x k n S) (hr:cA k X.A) (hg:Gl X x) (ha:QAd X (e::es) t) (hdb:(x==("__debug__":Str))=false:=by decide) (he:J5 (e::es) X.env=(false,T7 e X.env)::J5 es X.env:=by rfl) (hpl:(T3 pos (J5 es X.env)).any (·.1)=false:=by rfl) :
  QEd X (.Call (.Name x p) (e::es) [] pos) (iJ n S t):=by
 simp only[QEd.eq,QAd.eq,QTd.eq,QWd.eq,QSd.eq,QSs.eq,QId.eq,QIf.eq,QOd.eq]at *
 exact dc (F:=F) (hr:=hr) (hg:=hg) (ha:=ha) (hdb:=hdb) (he:=he) (hpl:=hpl)
theorem xQ{X:Cx}{e:K4}{te:TEd}{pos:Pos}(he:QEd X e te):QSd X (.Return (some e) pos) (xr te):=by
 simp only[QEd.eq,QAd.eq,QTd.eq,QWd.eq,QSd.eq,QSs.eq,QId.eq,QIf.eq,QOd.eq]at *
 exact FB (he:=he)
theorem cj{X:Cx}{te:TEd}{tg:K4}{iter:K4}(h:QEd X iter te):QId X tg iter (yY te):=by
 simp only[QEd.eq,QAd.eq,QTd.eq,QWd.eq,QSd.eq,QSs.eq,QId.eq,QIf.eq,QOd.eq]at *
 exact F5 (h:=h)
theorem i8{X:Cx}{e:K4}{te:TEd}{pos:Pos}(he:QEd X e te):QSd X (.Return (some e) pos) (xI te):=by
 simp only[QEd.eq,QAd.eq,QTd.eq,QWd.eq,QSd.eq,QSs.eq,QId.eq,QIf.eq,QOd.eq]at *
 exact CY (he:=he)
theorem eK{X:Cx}{e:K4}{te:TEd}{pos:Pos}{lo hi:Option K4}{tl th:TOd}{p2:Pos}(he:QEd X e te) (hl:QOd X lo tl) (hu:QOd X hi th):QEd X (.Subscript e (.Slice lo hi none p2) pos) (EM te tl th):=by
 simp only[QEd.eq,QAd.eq,QTd.eq,QWd.eq,QSd.eq,QSs.eq,QId.eq,QIf.eq,QOd.eq]at *
 exact zQ (he:=he) (hl:=hl) (hu:=hu)
theorem yH{X:Cx}{e:K4}{te:TEd}{ts:TEd}{pos:Pos}{st:K4}{p2:Pos}(he:QEd X e te) (hs:QEd X st ts):QEd X (.Subscript e (.Slice none none (some st) p2) pos) (t9 te ts):=by
 simp only[QEd.eq,QAd.eq,QTd.eq,QWd.eq,QSd.eq,QSs.eq,QId.eq,QIf.eq,QOd.eq]at *
 exact yr (he:=he) (hs:=hs)
theorem Bh{X:Cx}{st:Z7}:QSd X st ud:=by
 simp only[QEd.eq,QAd.eq,QTd.eq,QWd.eq,QSd.eq,QSs.eq,QId.eq,QIf.eq,QOd.eq]at *
 exact A0 
section
variable{X:Cx}{rest:List Z7}{t:TSd}{e:K4}{tt:TTd}
theorem Ap(h:QSs X rest t):jC X rest t:=by
 rw[QSs.eq]at h
 exact h
theorem xh(h:QWd X e tt):QTd X e tt:=by
 simp only[QWd.eq,QTd.eq]at *
 exact PWd.pt h
end
section
variable{P:L8}{w:P2}{K:o0}{mg:Str->Option s0}{base:L9}
theorem Fun.okQ{x qual:Str}{st:Z7}{f:J9}{fd:U3}{N ps:List Str}{k n:Nat}{S:SpD}(F:Fun K x qual st f fd) (hn:ps.length=n) (Sc:az N ps (am st))
  (hbody:∀ (cdv:s0) (A:O3) (outer:List Env) (s:I0) (H:Hp) (E:XK),cA k (A.deeper (ab8 qual (am st) s.heap.objs.size f cdv)) →
   ∃t:TSd,QSs (sj CX0 P w K mg base N qual (am st) f cdv A outer s H E).nox (dh st) t/\∀ds M R,ds.length=n->S ds M R->t { nx:=fun _ M'=>R .non M',rt:=R } (iX N ds) M):ba P w K mg base CX0 (k+1) f fd ps (spD K n S):=by
 refine F.okD hn Sc fun cdv A outer s H E hr=>?_
 obtain⟨t,h1,h2⟩:=hbody cdv A outer s H E hr
 exact⟨t,Ap h1,h2⟩
end
end L2
namespace L2
open PySem PySem.Spec PyProof.Rows PySem.Builtin.Str
/-! ### split of ff texts -/
end L2
namespace L2
open PySem PySem.Spec PyProof.Rows
/-! ### the bits of the script's ints -/
def Few(n:Int):Prop:=K3.Int.intBits n<=2 ^ 20
end L2
namespace Att
open PySem PySem.W PySem.Calls PyProof.Rows
end Att
namespace L2
open PySem PySem.Spec PyProof.Rows
section
variable{X:Cx}{pos:Pos}
/-! ###*of wide ints -/
instance (n:Int):Decidable (Few n):=by unfold Few;exact inferInstance
def jM(i j:Int):Prop:=g9 i j∨(Few i/\Few j)
instance:∀i j,Decidable (jM i j):=fun i j=>Classical.propDecidable _
theorem jM.ok{i j:Int}(h:jM i j):IntMulOk i j:=by
 rcases h with h|⟨a,b⟩
 ·exact h.ok
 ·exact .of_bits a b
theorem AA:OpR X (P9 .Mult) (rI jM fun i j=>.int (i*j)):=opI fun _ _ _ _ _ _ _ hc q=>mul_int q hc.ok
theorem xK:bO X (P9 .Mult) (iOp fun i j=>if jM i j then some (.int (i*j))else none):=qR (fun _ _=>rfl) AA
/-! ### divmod,max -/
theorem zo{K:o0}{M:DH}{H:Hp}{a b:D}{xs:List V}(h:S0 (aL K M H) [a,b] xs):∃v w,xs=[v,w]/\aL K M H a v/\aL K M H b w:=by
 cases h with
 |cons r t =>
  cases t with
  |cons r2 t2=>cases t2;exact⟨_,_,rfl,r,r2⟩
def dmD:List D->Option D
 |[.int i,.int j]=>if mX i j then some (.tup [.int (i / j),.int (i % j)])else none
 |_=>none
theorem yF:bo X (.builtin "divmod") dmD:=bo.of rX fun H M xs ds dz Q hr rp e q=>by
 unfold dmD at e
 split at e
 ·rename_i i j
  by_cases hc:mX i j
  ·rw[if_pos hc]at e;cases e
   obtain⟨v,w,rfl,r1,r2⟩:=zo rp
   rw[dM r1,dM r2]
   refine⟨i,j,rfl,hc,fun p hp=>?_⟩
   exact jU hr hp (aq.cons (by simp[Rep]) (aq.cons (by simp[Rep]) aq.nil)) q
  ·rw[if_neg hc]at e;cases e
 ·cases e
def Er:List D->Option D
 |[.int i,.int j]=>some (.int (if j > i then j else i))
 |_=>none
theorem FJ(hc:X.calm=true):bo X (.builtin "max") Er:=bo.of (wJ hc) fun H M xs ds dz Q hr rp e q=>by
 unfold Er at e
 split at e
 ·rename_i i j
  cases e
  obtain⟨v,w,rfl,r1,r2⟩:=zo rp
  rw[dM r1,dM r2]
  exact⟨i,j,rfl,q _ H (Ext.refl _ _) hr (by simp[Rep])⟩
 ·cases e
/-! ### o[i],y=value -/
end
open AutoSeq1 (wpAny_loadPart')
section
variable{prog:L8}{w:P2}{A:O3}{E:s0->I0->Prop}{s:I0}
/-! ### enumerate(tuple) -/
theorem k6(l:J9) (its:Array s0) (n:Nat) (dct:Option J9) (sl:Array (Option s0)) :
  Meets (K3.«enumerate.__new__» ⟨[.type "enumerate",.ref l],[]⟩) (fun _ R s=>s.heap.get? l=some { cls:=.type "tuple",dict:=dct,data:=.seq its n,slots:=sl } /\
   R (.ok (.ret (.ref (s.heap.push { cls:=.type "tuple_iterator",data:=.fields #[.ref l,.int 0 0] }).objs.size)))
    { s with heap:=(s.heap.push { cls:=.type "tuple_iterator",data:=.fields #[.ref l,.int 0 0] }).push { cls:=.type "enumerate",data:=.fields #[.none,.bool false,.ref s.heap.objs.size,rawInt 0,.none,.none] } }) :=
 .of_wp fun prog w A R s h=>by
  obtain⟨hp,g,d,tk,os⟩:=s
  have hl:=h.1
  have hR:=h.2
  have hsb:=sub_enumerate
  have hT:L9.IsTuple (I0.heap ⟨hp,g,d,tk,os⟩) l its:=⟨_,hl,rfl,n,rfl⟩
  wp_walk using W6 hl
  refine wpAny_stack_any fun st=>J3 ?_
  split
  ·rename_i c _ _ _ _ _
   cases(c==Y2 "enumerate")<;>(wp_walk using W6 hl,wpAny_pyIter_tuple hT;exact⟨_,rfl,hR⟩)
  ·wp_walk using W6 hl,wpAny_pyIter_tuple hT
   exact⟨_,rfl,hR⟩
theorem kZ{l:J9}{its:Array s0}{Q:s0->I0->Prop}(hL:s.heap.IsTuple l its)
  (h:∀ h',IsEnum h' (s.heap.objs.size + 1) s.heap.objs.size 0 .none → h'.IsTupleIter s.heap.objs.size l 0 → h'.objs.size = s.heap.objs.size + 2 →
   (∀b o,s.heap.get? b=some o->h'.get? b=some o)->Q (.ref (s.heap.objs.size+1)) { s with heap:=h' }) :
  K5 (L3 prog w) A (call (.type "enumerate") [.ref l]) Q E s:=by
 obtain⟨⟨c,dct,dt,sl⟩,hl,hc,n,hd⟩:=hL
 obtain rfl:c=.type "tuple":=hc
 obtain rfl:dt=.seq its n:=hd
 refine callType_new F.called_enumerate (by decide) (F.typeCall_enumerate_1 _) (F.newCall_enumerate_1 _) (fun ob=>F.args_object_init_2 ob _) F.entry_enumerate_new (k6 l its n dct sl) ⟨hl,?_⟩
 have hz:(s.heap.push { cls:=.type "tuple_iterator",data:=.fields #[.ref l,.int 0 0] }).objs.size=s.heap.objs.size+1:=R0 ..
 show _/\_
 rw[hz]
 have he:IsEnum ((s.heap.push { cls:=.type "tuple_iterator",data:=.fields #[.ref l,.int 0 0] }).push { cls:=.type "enumerate",data:=.fields #[.none,.bool false,.ref s.heap.objs.size,rawInt 0,.none,.none] }) (s.heap.objs.size+1) s.heap.objs.size 0 .none:=by
  have q:=J6 (s.heap.push { cls:=.type "tuple_iterator",data:=.fields #[.ref l,.int 0 0] }) (o:={ cls:=.type "enumerate",data:=.fields #[.none,.bool false,.ref s.heap.objs.size,rawInt 0,.none,.none] }) rfl
  rwa [hz]at q
 exact⟨⟨_,he,rfl⟩,h _ he ⟨_,u8 _ (J6 _ rfl),rfl,rfl⟩ (by rw[R0,hz]) fun b o x=>u8 _ (u8 _ x)⟩
theorem gr{it t:J9}{i:Nat}{its}{x:s0}{Q:s0->I0->Prop}(hit:s.heap.IsTupleIter it t i) (ht:s.heap.IsTuple t its) (hx:its[i]?=some x)
  (hQ:∀h',h'.IsTupleIter it t (i+1)->S7 it s.heap h'->Q x { s with heap:=h' }):K5 (L3 prog w) A (T0 (.ref it)) Q E s:=by
 obtain⟨o,ho,hc,hd⟩:=id hit
 obtain⟨ol,hol,_,nl,hdl⟩:=ht
 unfold T0
 refine t3 (Q9 (name:=X6 "__next__") hit.typeIs S4 (V6 S4 hit.typeIs F.entry_tuple_iterator_next ?_ (F.args_tuple_iterator_next_1 _)))
 show K5 _ _ (field (.ref it) 0 >>= _) _ _ s
 refine t3 (U5 ho hd (x:=.ref t) rfl ?_)
 show K5 _ _ (if(O2 t==W8)=true then _ else _) _ _ s
 rw[if_neg (show ¬ ((O2 t==W8)=true)from N1)]
 show K5 _ _ (field (.ref it) 1 >>= _) _ _ s
 refine t3 (U5 ho hd (x:=.int i 0) rfl ?_)
 show K5 _ _ (seqItems? (.ref t) >>= _) _ _ s
 refine t3 (wpAny_seqItems hol hdl ?_)
 simp only[Int.toNat_natCast,hx]
 refine t3 (wpAny_setField ho hd (by simp) (J3 ⟨x,rfl,J3 (hQ _ ?_ (S7.update ..))⟩))
 exact⟨_,L9.get?_update_self _ ho (Obj.isFreed_of_fields (Obj.data_mapFields hd _)),(Obj.cls_mapFields ..).trans hc,by rw[Obj.data_mapFields hd];simp[rawInt]⟩
theorem gD{it t:J9}{i:Nat}{its}{Q:s0->I0->Prop}(hh:A.handled=none) (hit:s.heap.IsTupleIter it t i) (ht:s.heap.IsTuple t its) (hx:its[i]?=none)
  (hE:∀h' e,L9.ExtBut it s.heap h'->(∃o,h'.get? e=some o/\o.cls=.type "StopIteration")->E (.ref e) { s with heap:=h' }):K5 (L3 prog w) A (T0 (.ref it)) Q E s:=by
 obtain⟨o,ho,hc,hd⟩:=id hit
 obtain⟨ol,hol,_,nl,hdl⟩:=ht
 unfold T0
 refine t3 (Q9 (name:=X6 "__next__") hit.typeIs S4 (V6 S4 hit.typeIs F.entry_tuple_iterator_next ?_ (F.args_tuple_iterator_next_1 _)))
 show K5 _ _ (field (.ref it) 0 >>= _) _ _ s
 refine t3 (U5 ho hd (x:=.ref t) rfl ?_)
 show K5 _ _ (if(O2 t==W8)=true then _ else _) _ _ s
 rw[if_neg (show ¬ ((O2 t==W8)=true)from N1)]
 show K5 _ _ (field (.ref it) 1 >>= _) _ _ s
 refine t3 (U5 ho hd (x:=.int i 0) rfl ?_)
 show K5 _ _ (seqItems? (.ref t) >>= _) _ _ s
 refine t3 (wpAny_seqItems hol hdl ?_)
 simp only[Int.toNat_natCast,hx]
 refine t3 (wpAny_rule (t3 (wpAny_setField ho hd (by simp) ?_)))
 show K5 _ _ (newExc (.type "StopIteration") [] >>= _) _ _ _
 refine t3 ?_
 simp only[newExc,newTuple]
 refine t3 (N3 ?_ (by size_fits))
 refine t3 (m:=firstArgMember _ _) (wpAny_of_eq (a:=W8) (by first|rfl|(simp only[firstArgMember];rfl)) ?_)
 refine N3 ?_ (by size_fits)
 simp only[raiseNew]
 refine t3 (wpAny_handled ?_)
 first|rw[show A.in1.handled=none from hh]|rw[hh]
 refine t3 (J3 (wpAny_throw ?_))
 exact hE _ _ (((S7.update ..).extBut.push _).push _) ⟨_,J6 _ rfl,rfl⟩
theorem og{prog:L8}{w:P2}{A:O3}(hh:A.handled=none) (it l:J9) (hne:l≠it) (its:Array s0) :
  Draws prog w A it [it,l] its.size (fun i v=>its[i]?=some v) (fun i h=>h.IsTupleIter it l i/\h.IsTuple l its) where
 live:=fun _ _ st=>let⟨o,ho,_⟩:=st.1;⟨o,ho⟩
 frame:=fun _ _ _ st hk=>⟨let⟨o,ho,r⟩:=st.1;⟨o,hk it (by simp) o ho,r⟩,let⟨o,ho,r⟩:=st.2;⟨o,hk l (by simp) o ho,r⟩⟩
 item:=fun i s Q E hi st hQ=>gr st.1 st.2 (x:=its[i]) (by simp[hi]) fun h' hit' hs'=>hQ _ h' s.toks (by simp[hi]) ⟨hit',st.2.extBut hs'.extBut hne⟩ hs'
 done:=fun s Q E st hE=>gD hh st.1 st.2 (by simp) hE
end
section
variable{X:Cx}{ae:List (J9×Obj)}{σ:St}{H:Hp}{s:I0}{h':L9}
theorem Inv.turned2{t':Nat}{e it:J9}(I:Inv X ae σ H s) (k:∀b o,b≠e->b≠it->s.heap.get? b=some o->h'.get? b=some o) (f1:cJ X ae H e) (f2:cJ X ae H it):Inv X ae σ H { s with heap:=h',toks:=t' }:=by
 obtain⟨a0,a1,a2,a3,a4,a5⟩:=f1
 obtain⟨b0,b1,b2,b3,b4,b5⟩:=f2
 have nit:∀b u,H b=some u->b≠e/\b≠it:=fun b u q=>⟨fun z=>(by rw[z,a0]at q;cases q),fun z=>(by rw[z,b0]at q;cases q)⟩
 have kk:∀b o,b∉[e,it]->s.heap.get? b=some o->h'.get? b=some o:=fun b o hc q=>k b o (fun z=>hc (by simp[z])) (fun z=>hc (by simp[z])) q
 refine I.step (g':=s.gens) (d':=s.drawn) (ch:=[e,it]) (fun b hb=>?_) (fun b o _ _ hc q _=>kk b o hc q) (fun b o _ _ hc q _=>⟨o.slots,kk b o hc q⟩) (fun _ _ _ _ n=>n)
  (fun b o hc q=>⟨o,kk b o hc q⟩) (fun _ _ q=>q) (fun _ _ _ q=>q) (fun b ps q=>⟨#[],by rw[q];simp⟩) (fun m hm=>?_) (fun b u q=>?_) I.bare
 ·rcases O4.mp hb with z|z
  ·subst z;exact⟨a3,a1,a4,a5⟩
  ·have z:=O5.mp z
   subst z;exact⟨b3,b1,b4,b5⟩
 ·obtain⟨o,es,ep,ho,r⟩:=hm
  exact⟨o,es,ep,k _ o (W9 a1) (W9 b1) ho,r⟩
 ·refine(I.hok b u q).stay (fun c v hc q'=>?_) (fun _ q=>q) fun _ _ q=>q
  rcases hc with z|z
  ·rw[z]at q' ⊢;exact k _ _ (nit b u q).1 (nit b u q).2 q'
  ·exact k c v (nit c _ z).1 (nit c _ z).2 q'
end
def Ite(K:o0) (a:J9) (n:Nat):It :=
 ⟨fun i H=>(∃xs,SqT K H a xs/\xs.length=n)/\i<n,fun i H x H'=>∃T y,x=.ref T/\H T=none/\H'=upd H T (.tup [.int i,y])/\∀xs,SqT K H a xs->xs[i]?=some y,fun i H=>(∃xs,SqT K H a xs/\xs.length=n)/\n<=i⟩
theorem cJ.upd{X:Cx}{ae:List (J9×Obj)}{H:Hp}{b T:J9}{o:HO}(f:cJ X ae H b) (h:b≠T):cJ X ae (upd H T o) b:=by
 obtain⟨f0,r⟩:=f
 exact⟨by rw[aI h];exact f0,r⟩
theorem wc{P:L8}{w:P2}{K:o0}{elts:List K4}{x1:Nat}{pt:Pos}(a e it:J9) (n:Nat):gK P w K (.Tuple elts x1 pt) (Ite K a n) [e,it] e (fun i h=>(∃old,IsEnum h e it i old)/\h.IsTupleIter it a i/\e≠it/\i<=n) where
 mem:=by simp
 obj:=fun i h st b hb=>by
  rcases O4.mp hb with z|z
  ·subst z
   obtain⟨⟨old,q⟩,_⟩:=st
   exact⟨_,q,fun v z=>by cases z⟩
  ·have z:=O5.mp z
   subst z
   obtain⟨_,⟨o,q,c,d⟩,_⟩:=st
   exact⟨o,q,fun v z=>by rw[d]at z;cases z⟩
 keep:=fun i h h' st k=>by
  obtain⟨⟨old,q⟩,⟨o,q2,r⟩,ne,le⟩:=st
  exact⟨⟨old,k e (by simp) _ q⟩,⟨o,k it (by simp) o q2,r⟩,ne,le⟩
 item:=by
  intro X hP hw hK hc i ae s σ H E I hf st hg
  subst hP hw hK
  obtain⟨⟨xs,hq,hxl⟩,hin⟩:=hg
  have hx:xs[i]?=some (xs[i]'(by omega)):=by simp[hxl,hin]
  generalize xs[i]'(by omega)=x at hx
  obtain⟨⟨old,he⟩,hit,hne,hle⟩:=st
  obtain⟨its,rv,p,hz⟩:=I.tuple hq
  obtain⟨u,hu,ru⟩:=rv.get hx
  have hT:s.heap.IsTuple a its.toArray:=p
  have hal:a≠it:=fun z=>by
   obtain⟨o,q,c,_⟩:=hT
   obtain⟨o',q',c',_⟩:=hit
   rw[z,q']at q;cases q;rw[c']at c;exact absurd c (by decide)
  have hea:e≠a:=fun z=>by
   obtain⟨o,q,c,_⟩:=hT
   rw[<-z,he]at q;cases q;exact absurd (show Y2 "enumerate"=Y2 "tuple" from c) (by decide)
  have fe:=hf e (by simp)
  have fi:=hf it (by simp)
  have hlt:i<its.toArray.size:=by
   have h1:=(N0.mp hu).1
   simpa using h1
  have eT:e<s.heap.objs.size:=J7 he
  have iT:it<s.heap.objs.size:=by obtain⟨o,q,_⟩:=hit;exact J7 q
  refine wpAny_pyNext_enum_itemD (og (A:=X.A.in1) (I.ok.hd hc) it a hal its.toArray) he ⟨hit,hT⟩ hlt hne (by simp[hne,hea]) fun y h1 tk hy hout hst hTn hsz hk=>?_
  have ey:y=u:=by
   have h2:its[i]?=some y:=by simpa using hy
   rw[hu]at h2;cases h2;rfl
  subst ey
  refine⟨_,rfl,?_⟩
  have In:H s.heap.objs.size=none:=I.hok.fresh (J4 _)
  have I1:Inv X ae σ (upd H s.heap.objs.size (.tup [.int i,x])) { s with heap:=s.heap.push { cls:=.type "tuple",data:=.seq #[.int i tk,y] },toks:=tk+1 } :=
   I.laid (fun b o q=>u8 _ q) (J4 _) ⟨by simp only[N9,W3];rw[aa2];decide,[.int i tk,y],.cons ⟨_,rfl⟩ (.cons ru .nil),⟨_,J6 s.heap rfl,rfl,⟨0,rfl⟩,rfl⟩⟩
  have fe1:cJ X ae (upd H s.heap.objs.size (.tup [.int i,x])) e:=fe.upd (K0 eT)
  have fi1:cJ X ae (upd H s.heap.objs.size (.tup [.int i,x])) it:=fi.upd (K0 iT)
  have I2:Inv X ae σ (upd H s.heap.objs.size (.tup [.int i,x])) { s with heap:=h1,toks:=tk+1 }:=I1.turned2 (t':=tk+1) (fun b o hb1 hb2 q=>by
   by_cases hbs:b=s.heap.objs.size
   ·subst hbs
    rw[J6 s.heap rfl]at q
    cases q
    exact hTn
   ·refine hk b o hb1 hb2 ?_
    rcases L9.get?_push_cases q with z|z
    ·exact absurd z.1 hbs
    ·exact z) fe1 fi1
  refine wpAny_letOwnedTupleGo_enum hout fun h2 he2 hs2=>?_
  obtain⟨g0,g1,g2,g3,g4,g5⟩:=fe1
  have I3:=I2.turned (t':=tk+1) (h':=h2) (it:=e) (fun b o hb q=>(hs2.2 b hb).trans q) g0 g1 g3 g4 g5
  refine⟨.ref s.heap.objs.size,_,I3,rfl,⟨_,x,rfl,In,rfl,fun ys hys=>by rw[I.tuple_inj hys hq];exact hx⟩,⟨⟨y,by simpa using he2⟩,?_,hne,hin⟩,fun b hb=>?_⟩
  ·obtain⟨o,q,r⟩:=hst.1
   exact⟨o,(hs2.2 it (W9 hne)).trans q,r⟩
  ·rcases O4.mp hb with z|z
   ·subst z;exact g0
   ·rw[O5.mp z];exact fi1.1
 done:=by
  intro X hP hw hK hc i ae s σ H E I hf st hg
  subst hP hw hK
  obtain⟨⟨xs,hq,hxl⟩,hx⟩:=hg
  obtain⟨⟨old,he⟩,hit,hne,hle⟩:=st
  obtain⟨its,rv,p,hz⟩:=I.tuple hq
  have hT:s.heap.IsTuple a its.toArray:=p
  have hal:a≠it:=fun z=>by
   obtain⟨o,q,c,_⟩:=hT
   obtain⟨o',q',c',_⟩:=hit
   rw[z,q']at q;cases q;rw[c']at c;exact absurd c (by decide)
  obtain⟨f0,f1,f2,f3,f4,f5⟩:=hf it (by simp)
  have hl:=rv.length
  have hi:i=its.toArray.size:=by simp;omega
  rw[hi]at hit
  exact wpAny_pyNext_enum_endD (og (A:=X.A.in1) (I.ok.hd hc) it a hal its.toArray) he ⟨hit,hT⟩ fun h' eb=>⟨rfl,I.turned (t':=s.toks) (fun b o hb q=>eb b o hb q) f0 f1 f3 f4 f5⟩
 self:=fun _ _ _ _ _ st h=>by
  obtain⟨⟨old,he⟩,_⟩:=st
  exact wpAny_pyIter_enum he h
section
variable{X:Cx}{a:K4}{t:TAd}{pos:Pos}
def nP(n:Nat):List D->List D
 |[]=>[]
 |d::r=>.tup [.int n,d]::nP (n+1) r
theorem sk:∀(ds:List D) (n i:Nat),(nP n ds)[i]?=(ds[i]?).map fun d=>.tup [.int ((n+i:Nat):Int),d]
 |[],n,i=>by simp[nP]
 |d::r,n,0=>by simp[nP]
 |d::r,n,i+1=>by
  simp only[nP,List.getElem?_cons_succ]
  rw[sk r (n+1) i]
  have:n+1+i=n+(i+1):=by omega
  rw[this]
theorem sx:∀(ds:List D) (n:Nat),(nP n ds).length=ds.length
 |[],_=>rfl
 |d::r,n=>by simp[nP,sx r (n+1)]
def qv(ta:TAd):TId:=fun Δ M R=>ta Δ M fun ds M1=>∃es,ds=[.tup es]/\(es.length<=J0->R (nP 0 es) M1)
theorem mN:P3 "enumerate"=some (.type "enumerate"):=by kernel_rfl
theorem Ew{elts:List K4}{x1:Nat}{pt p:Pos}(hg:Gl X "enumerate") (hm:X.mg "enumerate"=none) (ha:PAd X [a] t) (hs:J5 [a] X.env=[(false,T7 a X.env)]:=by rfl):PId X (.Tuple elts x1 pt) (.Call (.Name "enumerate" p) [a] [] pos) (qv t):=by
 intro ae s σ H R I hh
 obtain⟨Δ,M,R',sr,hr,q,k⟩:=hh
 refine Call_ (gR I hg hm mN (R5 (thn (ha pos ae s σ H (fun vs H1=>∃es M1,aq X.K M1 H1 [.tup es] vs/\(es.length<=J0->R' (nP 0 es) M1)/\Ext M H M1 H1/\HR X.K M1 H1) I ⟨Δ,M,_,sr,hr,q,fun ds M1 vs H1 ⟨es,ed,q1⟩ e1 hr1 rv=>⟨es,M1,by rw[<-ed];exact rv,q1,e1,hr1⟩⟩) fun us s1 ⟨vs,H1,I1,r1,es,M1,rv,q1,e1,hr1⟩=>?_) hs rfl))
 obtain⟨v,rfl,rt⟩:=rv.one
 cases r1 with
 |cons r rr =>
  cases rr
  have lo:=aL.len (K:=X.K) I1 rt
  simp only[Rep]at rt
  obtain⟨ad,vs,rfl,ta,rl⟩:=rt
  cases r
  obtain⟨its,rvv,pt',hz⟩:=I1.tuple ta.sq
  have hl2:=rl.length
  refine kZ (show s1.heap.IsTuple ad its.toArray from pt') fun h' he hit hsz hk=>?_
  refine wpAny_pyIter_enum he ?_
  refine⟨s1.heap.objs.size+1,[s1.heap.objs.size+1,s1.heap.objs.size],_,_,H1,rfl,I1.kept (t':=s1.toks) hk,wc ad _ _ es.length,⟨⟨_,he⟩,hit,Nat.succ_ne_self _,U1 _⟩,fun b hb=>?_,?_⟩
  ·rcases O4.mp hb with z|z
   ·subst z;exact I1.fpOk (by omega) (I1.hok.fresh (by omega))
   ·rw[O5.mp z];exact I1.fpOk (J4 _) (I1.hok.fresh (J4 _))
  ·refine k _ M1 _ H1 (q1 lo) e1 hr1 fun M2 H2 e2 hr2 i=>⟨fun d hd=>?_,fun hl=>⟨⟨vs,(ta.ext e2).sq,by omega⟩,by rw[sx]at hl;exact hl⟩⟩
   rw[sk]at hd
   cases hdi:es[i]? with
   |none=>rw[hdi]at hd;cases hd
   |some d0 =>
    rw[hdi]at hd
    have hd':D.tup [.int ((0+i:Nat):Int),d0]=d:=by simpa using hd
    subst hd'
    have hi:i<es.length:=(N0.mp hdi).1
    obtain⟨v0,gv,r0⟩:=rl.get hdi
    refine⟨⟨⟨vs,(ta.ext e2).sq,by omega⟩,hi⟩,fun x H' ⟨T,y,ex,hT,eH,hy⟩=>?_⟩
    subst ex;subst eH
    have hh:=hy vs (ta.ext e2).sq
    rw[gv]at hh;cases hh
    refine⟨Ext.new hr2 hT,hr2.new hT,?_⟩
    simp only[Rep]
    refine⟨T,[.int i,v0],rfl,.inl ⟨.inl aC,hr2.fresh hT⟩,?_⟩
    exact aq.cons (by simp[Rep]) (aq.cons ((r0.ext e2).ext (Ext.new hr2 hT)) aq.nil)
theorem uz{elts:List K4}{x1:Nat}{pt p:Pos}(hg:Gl X "enumerate") (hm:X.mg "enumerate"=none) (ha:QAd X [a] t) (hs:J5 [a] X.env=[(false,T7 a X.env)]:=by rfl):QId X (.Tuple elts x1 pt) (.Call (.Name "enumerate" p) [a] [] pos) (qv t):=by
 simp only[QEd.eq,QAd.eq,QTd.eq,QWd.eq,QSd.eq,QSs.eq,QId.eq,QIf.eq,QOd.eq]at *
 exact Ew hg hm ha hs
end
section
variable{X:Cx}{pos:Pos}
/-! ### xs[lo:hi]=ys -/
/-! ### list(tuple) as a list of our own -/
theorem Ef{i j:Int}:dmD [.int i,.int j]=if mX i j then some (.tup [.int (i / j),.int (i % j)])else none:=rfl
theorem BZ{i j:Int}:Er [.int i,.int j]=some (.int (if j > i then j else i)):=rfl
theorem zV:qQ 10 60=True:=by simp[qQ]
theorem Fz{x:Int}(h0:-(10 ^ 60)<x) (h1:x<10 ^ 60):Few x:=by
 unfold Few
 rw[intBits_le_iff]
 have h2:x.natAbs<10 ^ 60:=by omega
 exact J8 h2 (M9 (by decide:10 ^ 60<=2 ^ 200) (Nat.pow_le_pow_right (by decide) (by decide)))
theorem G5{i j:Int}(h:Few i/\Few j):jM i j=True:=by simp[jM,h]
end
section
variable{X:Cx}{e:K4}{te ts:TEd}{pos:Pos}
/-! ### xs[::-1] of a list -/
end
/-! ### tables of deep data -/
section
variable{κ:Type} [DecidableEq κ]
def bp(kvs:List (κ×D)) (k:κ):Option D:=(kvs.find? fun kv=>decide (kv.1=k)).map (·.2)
def eP(kvs:List (κ×D)) (k:κ) (v:D):List (κ×D) :=
 if(kvs.any fun kv=>decide (kv.1=k))=true then kvs.map (fun kv=>if kv.1=k then(kv.1,v)else kv)else kvs++[(k,v)]
theorem yP{k:κ}:bp ([]:List (κ×D)) k=none:=rfl
theorem bQ{p:κ×D}{r:List (κ×D)}{k:κ}(e:p.1=k):bp (p::r) k=some p.2:=by simp[bp,R6,e]
theorem bL{p:κ×D}{r:List (κ×D)}{k:κ}(e:¬ p.1=k):bp (p::r) k=bp r k:=by simp[bp,R6,e]
theorem jw(k:κ):∀kvs:List (κ×D),(kvs.any fun kv=>decide (kv.1=k))=(bp kvs k).isSome
 |[]=>rfl
 |p::r=>by
  rw[Q7]
  by_cases e:p.1=k
  ·simp only[bQ e,decide_eq_true e,Bool.true_or,Option.isSome_some]
  ·rw[bL e,decide_eq_false e,Bool.false_or];exact jw k r
theorem qN(k j:κ) (y:D):∀kvs:List (κ×D),bp (kvs.map fun kv=>if kv.1=k then(kv.1,y)else kv) j=(bp kvs j).map fun x=>if j=k then y else x
 |[]=>rfl
 |p::r=>by
  have ih:=qN k j y r
  rw[N2]
  by_cases h:p.1=k
  ·rw[if_pos h]
   by_cases e:p.1=j
   ·rw[bQ (p:=(p.1,y)) e,bQ e,R8,if_pos (e.symm.trans h)]
   ·rw[bL (p:=(p.1,y)) e,bL e,ih]
  ·rw[if_neg h]
   by_cases e:p.1=j
   ·rw[bQ (p:=p) e,bQ e,R8,if_neg (fun z=>h (e.trans z))]
   ·rw[bL (p:=p) e,bL e,ih]
theorem oh(k j:κ) (y:D):∀kvs:List (κ×D),bp kvs k=none->bp (kvs++[(k,y)]) j=if j=k then some y else bp kvs j
 |[],_=>by
  by_cases e:k=j
  ·rw[if_pos e.symm];exact bQ (p:=(k,y)) e
  ·rw[if_neg (fun z=>e z.symm)];exact bL (p:=(k,y)) e
 |p::r,hn=>by
  rw[List.cons_append]
  have hk:¬ p.1=k:=fun z=>by rw[bQ z]at hn;cases hn
  rw[bL hk]at hn
  have ih:=oh k j y r hn
  by_cases e:p.1=j
  ·rw[bQ e,bQ e,if_neg (fun z=>hk (e.trans z))]
  ·rw[bL e,bL e,ih]
theorem my(kvs:List (κ×D)) (k j:κ) (y:D):bp (eP kvs k y) j=if j=k then some y else bp kvs j:=by
 unfold eP
 by_cases a:(kvs.any fun kv=>decide (kv.1=k))=true
 ·rw[if_pos a,qN]
  rw[jw]at a
  by_cases e:j=k
  ·obtain⟨x,hx⟩:=P6.mp a
   rw[if_pos e,e,hx,R8,if_pos rfl]
  ·rw[if_neg e]
   cases bp kvs j with
   |none=>rfl
   |some x=>rw[R8,if_neg e]
 ·rw[if_neg a]
  refine oh k j y kvs ?_
  rw[jw]at a
  cases q:bp kvs k with
  |none=>rfl
  |some x=>rw[q]at a;exact(a rfl).elim
theorem gG(kvs:List (κ×D)) (k:κ) (v:D):(eP kvs k v).length<=kvs.length+1:=by
 unfold eP
 split
 ·rw[V2];omega
 ·rw[N4,N9,W3];omega
variable{K:o0}{M:DH}{H:Hp}
theorem KR.val{kvs:List (κ×D)}{ks:List (κ×V)}(h:KR K M H kvs ks) (k:κ):(∀d,bp kvs k=some d->∃v,dZ ks k=some v/\Rep K M H d v)/\(dZ ks k).isSome=(bp kvs k).isSome:=by
 unfold KR at h
 induction h with
 |nil=>exact⟨fun d e=>(nomatch e),rfl⟩
 |@cons p q ps qs r t ih =>
  by_cases e:p.1=k
  ·rw[bQ e,jF (r.1.symm.trans e)]
   exact⟨fun d z=>(by cases z;exact⟨_,rfl,r.2⟩),rfl⟩
  ·rw[bL e,ja (fun z=>e (r.1.trans z))];exact ih
theorem KR.any{kvs:List (κ×D)}{ks:List (κ×V)}(h:KR K M H kvs ks) (k:κ):(ks.any fun kv=>decide (kv.1=k))=kvs.any fun kv=>decide (kv.1=k):=by
 unfold KR at h
 induction h with
 |nil=>rfl
 |cons r _ ih=>rw[Q7,Q7,ih,r.1]
theorem KR.length{kvs:List (κ×D)}{ks:List (κ×V)}(h:KR K M H kvs ks):kvs.length=ks.length:=aa0 h
theorem KR.put{kvs:List (κ×D)}{ks:List (κ×V)}(h:KR K M H kvs ks) (k:κ) {d:D}{v:V}(r:Rep K M H d v):KR K M H (eP kvs k d) (dO ks k v):=by
 unfold eP dO
 rw[h.any k]
 by_cases e:(kvs.any fun kv=>decide (kv.1=k))=true
 ·rw[if_pos e,if_pos e]
  clear e
  unfold KR at h ⊢
  induction h with
  |nil=>exact .nil
  |@cons p q ps qs r1 t ih =>
   rw[N2,N2]
   refine .cons ?_ ih
   by_cases e:p.1=k
   ·rw[if_pos e,if_pos (r1.1.symm.trans e)];exact⟨r1.1,r⟩
   ·rw[if_neg e,if_neg (fun z=>e (r1.1.trans z))];exact r1
 ·rw[if_neg e,if_neg e];exact S0.snoc h ⟨rfl,r⟩
end
def kD:Key->D
 |.inl i=>.int i
 |.inr x=>.str x
theorem ke{K:o0}{M:DH}{H:Hp}{k:Key}{v:V}(h:Rep K M H (kD k) v):v=kV k:=by
 cases k<;>simpa[kD,Rep,kV]using h
theorem fT{K:o0}{M:DH}{H:Hp}:∀{ks:List Key}{vs:List V},aq K M H (ks.map kD) vs->vs=ks.map kV
 |[],_,h=>by simpa[aq]using h
 |k::ks,_,h=>by
  simp only[N2,aq]at h
  obtain⟨v,ws,rfl,h1,h2⟩:=h
  rw[ke h1,fT h2];rfl
section
variable{X:Cx}{a b c e o i:K4}{es:List K4}{te to ti ta tb:TEd}{t:TAd}{pos:Pos}
/-! new dicts -/
def dDT:TEd:=fun _ M Q=>∀p,M p=none->Q (.ref p) (aw M p (.dT []))
theorem Il:PEd X (.Dict [] [] pos) dDT:=PE.conv yt fun σ H Q ⟨Δ,M,R,sr,hr,q,k⟩=>fun p hp =>
 k _ _ _ _ (q p (hr.fresh hp)) (Ext.own hp) (hr.put (Ext.own hp) ⟨[],aC,.nil⟩) (by simp only[Rep])
def tX(tk tv:TEd):TEd:=fun Δ M Q=>∀p,M p=none->tk Δ (aw M p (.dK [])) fun x M1=>tv Δ M1 fun y M2=>∃k,x=kD k/\M2 p=some (.dK [])/\Q (.ref p) (aw M2 p (.dK [(k,y)]))
theorem BM(ha:PEd X a ta) (hb:PEd X b tb):PEd X (.Dict [some a] [b] pos) (tX ta tb) :=
 PE.conv (AY (xu ha hb B8) rfl rfl (by simp) (by simp)) fun σ H Q ⟨Δ,M,R,sr,hr,q,k⟩=>fun p hp=>by
  have e0:Ext M H (aw M p (.dK [])) (upd H p (.dK [])):=Ext.own hp
  refine⟨Δ,_,_,sr.ext e0,hr.put e0 ⟨[],aC,.nil⟩,q p (hr.fresh hp),fun x M1 v H1 q1 e1 hr1 rv=>⟨Δ,M1,_,(sr.ext e0).ext e1,hr1,q1,fun y M2 u H2 ⟨ky,ex,em,q2⟩ e2 hr2 ru=>?_⟩⟩
  obtain⟨ks,h2,kr⟩:=hr2 p _ em
  cases kr
  subst ex
  refine⟨h2,[(ky,u)],?_,by simp,?_⟩
  ·rw[ke rv];rfl
  ·have em':iW [] [(ky,u)]=[(ky,u)]:=by simp[iW,dO]
   rw[em']
   have ew:Ext M2 H2 (aw M2 p (.dK [(ky,y)])) (upd H2 p (.dK [(ky,u)])):=Ext.write em
   exact k _ _ _ _ q2 ((e0.trans (e1.trans e2)).trans ew) (hr2.put ew ⟨_,aC,.cons ⟨rfl,ru.ext ew⟩ .nil⟩) (by simp only[Rep])
/-! d[k],k a scalar;d[x,y] -/
def yW(to:TEd) (t:TAd):TEd:=fun Δ M Q=>to Δ M fun x M1=>t Δ M1 fun ds M2=>∃a kvs ks d,x=.ref a/\M2 a=some (.dT kvs)/\ds=ks.map kD/\ds.length<=J0/\bp kvs ks=some d/\Q d M2
theorem Bv{x1}{p:Pos}(hu:X.A.units+1<X7) (ho:PEd X o to) (ht:PAd X es t) (hs:lH (.Tuple es x1 p)):PEd X (.Subscript o (.Tuple es x1 p) pos) (yW to t) :=
 PE.conv (p6 hu ho (iY ht) hs) fun σ H Q ⟨Δ,M,R,sr,hr,q,k⟩=>⟨Δ,M,_,sr,hr,q,fun x M1 v H1 q1 e1 hr1 rv=>⟨Δ,M1,_,sr.ext e1,hr1,q1,fun ds M2 us H2 ⟨a,kvs,ky,d,ex,em,ey,ez,ed,q2⟩ e2 hr2 ru=>by
  subst ex;subst ey
  simp only[Rep]at rv
  subst rv
  refine⟨by rw[<-ru.length];exact ez,fun p hp=>?_⟩
  obtain⟨ks,h2,kr⟩:=hr2 a _ em
  obtain⟨w,hw,rw_⟩:=(kr.val ky).1 d ed
  have hap:a≠p:=bW h2 hp
  refine⟨a,w,rfl,?_,k d M2 w _ q2 ((e1.trans e2).trans (Ext.new hr2 hp)) (hr2.new hp) (rw_.ext (Ext.new hr2 hp))⟩
  rw[<-hw]
  refine gz.t (by rw[aI hap];exact h2) ?_
  rw[aC,fT ru]⟩⟩
/-! k in d,(x,y)in d -/
def BN(neg:Bool) (ti to:TEd):TEd:=fun Δ M Q=>ti Δ M fun y M1=>to Δ M1 fun x M2=>∃a kvs k,x=.ref a/\M2 a=some (.dK kvs)/\y=kD k/\Q (.bl (xor neg (bp kvs k).isSome)) M2
def yu(neg:Bool) (ty td:TE):TE:=fun σ H Q=>ty σ H fun y H1=>td σ H1 fun x H2=>∃a o,x=.ref a/\gz H2 a y o/\Q (.bl (xor neg o.isSome)) H2
theorem sW{ty td:TE}{op:aa7}{neg:Bool}(hop:op=(if neg then .NotIn else .In)) (hu:X.A.units+1<X7) (hi:PE X i ty) (ho:PE X o td):PC X op i o (yu neg ty td):=by
 subst hop
 cases neg with
 |false =>
  intro ae s σ H Q I h
  exact Ft hu hi ho ae s σ H Q I (by simpa[yu,F1]using h)
 |true =>
  intro ae s σ H Q I h
  exact wL hu hi ho ae s σ H Q I (by simpa[yu,vJ]using h)
theorem xB{K:o0}{neg:Bool}:∀ σ H Q,up K (BN neg ti to) σ H Q->yu neg (up K ti) (up K to) σ H Q:=fun σ H Q ⟨Δ,M,R,sr,hr,q,k⟩=>⟨Δ,M,_,sr,hr,q,fun y M1 v H1 q1 e1 hr1 rv=>⟨Δ,M1,_,sr.ext e1,hr1,q1,fun x M2 u H2 ⟨a,kvs,ky,ex,em,ey,q2⟩ e2 hr2 ru=>by
  subst ex;subst ey
  simp only[Rep]at ru
  subst ru
  obtain⟨ks,h2,kr⟩:=hr2 a _ em
  refine⟨a,dZ ks ky,rfl,by rw[ke rv];exact gz.k h2,?_⟩
  rw[(kr.val ky).2]
  exact k _ M2 _ H2 q2 (e1.trans e2) hr2 (by simp only[Rep])⟩⟩
def v9(neg:Bool) (t:TAd) (to:TEd):TEd:=fun Δ M Q=>t Δ M fun ds M1=>ds.length<=J0/\to Δ M1 fun x M2=>∃a kvs ks,x=.ref a/\M2 a=some (.dT kvs)/\ds=ks.map kD/\Q (.bl (xor neg (bp kvs ks).isSome)) M2
theorem qY{K:o0}{neg:Bool}:∀ σ H Q,up K (v9 neg t to) σ H Q->yu neg (FP (upA K t)) (up K to) σ H Q:=fun σ H Q ⟨Δ,M,R,sr,hr,q,k⟩=>⟨Δ,M,_,sr,hr,q,fun ds M1 vs H1 ⟨z,q1⟩ e1 hr1 rv=>⟨by rw[<-rv.length];exact z,fun p hp=>⟨Δ,M1,_,(sr.ext e1).ext (Ext.new hr1 hp),hr1.new hp,q1,fun x M2 u H2 ⟨a,kvs,ky,ex,em,ey,q2⟩ e2 hr2 ru=>by
  subst ex;subst ey
  simp only[Rep]at ru
  subst ru
  obtain⟨ks,h2,kr⟩:=hr2 a _ em
  have eb:=(e2 p _ aC (hr1.fresh hp)).1
  rw[fT rv]at eb
  refine⟨a,dZ ks ky,rfl,gz.t h2 eb,?_⟩
  rw[(kr.val ky).2]
  exact k _ M2 _ H2 q2 ((e1.trans (Ext.new hr1 hp)).trans e2) hr2 (by simp only[Rep])⟩⟩⟩
theorem FL(neg:Bool) {x1}{p:Pos}{op:aa7}(hop:op=(if neg then .NotIn else .In)) (hu:X.A.units+1<X7) (ht:PAd X es t) (ho:PEd X o to) (hm:P0 op o=false):PEd X (.Compare (.Tuple es x1 p) [op] [o] pos) (v9 neg t to) :=
 PE.conv (Df (sW hop hu (iY ht) ho) hm) qY
theorem G9{K:o0}{te:TEd}{tv:TE}(h:∀ σ H Q,up K te σ H Q->tv σ H Q):∀ σ H Q,upT K (jv te) σ H Q->tB tv σ H Q:=fun σ H Q ⟨Δ,M,R,sr,hr,q,k⟩ =>
 h σ H _ ⟨Δ,M,_,sr,hr,q,fun d M1 v H1 ⟨b,e,q1⟩ e1 hr1 rv=>⟨b,by subst e;simpa only[Rep]using rv,k b M1 H1 q1 e1 hr1⟩⟩
theorem EV(neg:Bool) {op:aa7}(hop:op=(if neg then .NotIn else .In)) (hu:X.A.units+1<X7) (hi:PEd X i ti) (ho:PEd X o to) (hm:P0 op o=false):PTd X (.Compare i [op] [o] pos) (jv (BN neg ti to)) :=
 PT.conv (ym (sW hop hu hi ho) hm) (G9 xB)
theorem Fk(neg:Bool) {x1}{p:Pos}{op:aa7}(hop:op=(if neg then .NotIn else .In)) (hu:X.A.units+1<X7) (ht:PAd X es t) (ho:PEd X o to) (hm:P0 op o=false):PTd X (.Compare (.Tuple es x1 p) [op] [o] pos) (jv (v9 neg t to)) :=
 PT.conv (ym (sW hop hu (iY ht) ho) hm) (G9 qY)
/-! d[k]=v,d[x,y]=v -/
def qK(to ti te:TEd):TSd:=fun E Δ M=>te Δ M fun d M1=>to Δ M1 fun x M2=>ti Δ M2 fun y M3=>∃a kvs k,x=.ref a/\M3 a=some (.dK kvs)/\y=kD k/\kvs.length<J0/\E.nx Δ (aw M3 a (.dK (eP kvs k d)))
theorem EU{p:Pos}(hu:X.A.units+1<X7) (ho:PEd X o to) (hi:PEd X i ti) (he:PEd X e te) (hs:U7 e (some (.Subscript o i p)) pos.line X.env=W0 false:=by rfl):PSd X (.Assign [.Subscript o i p] e pos) (qK to ti te) :=
 PS.conv (pU hu ho hi he hs) fun D σ H ⟨Δ,M,E,sr,hr,q,k⟩=>⟨Δ,M,_,sr,hr,q,fun d M1 v H1 q1 e1 hr1 rv=>⟨Δ,M1,_,sr.ext e1,hr1,q1,fun x M2 u H2 q2 e2 hr2 ru=>⟨Δ,M2,_,(sr.ext e1).ext e2,hr2,q2,fun y M3 w H3 ⟨a,kvs,ky,ex,em,ey,hz,q3⟩ e3 hr3 rw_=>by
  subst ex;subst ey
  simp only[Rep]at ru
  subst ru
  obtain⟨ks,h3,kr⟩:=hr3 a _ em
  have ew:Ext M3 H3 (aw M3 a (.dK (eP kvs ky d))) (upd H3 a (.dK (dO ks ky v))):=Ext.write em
  refine⟨a,_,rfl,by rw[ke rw_];exact pP.k h3 (by rw[<-kr.length];exact hz),?_⟩
  exact k.nx Δ _ σ _ q3 (((e1.trans e2).trans e3).trans ew) (hr3.put ew ⟨_,aC,(kr.put ky ((rv.ext e2).ext e3)).ext ew⟩) ((((sr.ext e1).ext e2).ext e3).ext ew)⟩⟩⟩
def zw(to:TEd) (t:TAd) (te:TEd):TSd:=fun E Δ M=>te Δ M fun d M1=>to Δ M1 fun x M2=>t Δ M2 fun ds M3=>ds.length<=J0/\∃a kvs ks,x=.ref a/\M3 a=some (.dT kvs)/\ds=ks.map kD/\kvs.length<J0/\E.nx Δ (aw M3 a (.dT (eP kvs ks d)))
theorem Fc{x1}{p p2:Pos}(hu:X.A.units+1<X7) (ho:PEd X o to) (ht:PAd X es t) (he:PEd X e te) (hs:U7 e (some (.Subscript o (.Tuple es x1 p2) p)) pos.line X.env=W0 false:=by rfl):PSd X (.Assign [.Subscript o (.Tuple es x1 p2) p] e pos) (zw to t te) :=
 PS.conv (pU hu ho (iY ht) he hs) fun D σ H ⟨Δ,M,E,sr,hr,q,k⟩=>⟨Δ,M,_,sr,hr,q,fun d M1 v H1 q1 e1 hr1 rv=>⟨Δ,M1,_,sr.ext e1,hr1,q1,fun x M2 u H2 q2 e2 hr2 ru=>⟨Δ,M2,_,(sr.ext e1).ext e2,hr2,q2,fun ds M3 ws H3 ⟨hl,a,kvs,ky,ex,em,ey,hz,q3⟩ e3 hr3 rw_=>by
  subst ex;subst ey
  simp only[Rep]at ru
  subst ru
  refine⟨by rw[<-rw_.length];exact hl,fun p hp=>?_⟩
  obtain⟨ks,h3,kr⟩:=hr3 a _ em
  have hap:a≠p:=bW h3 hp
  have e4:Ext M3 H3 M3 (upd H3 p (.tup ws)):=Ext.new hr3 hp
  have hr4:=hr3.new (o:=.tup ws) hp
  have ew:Ext M3 (upd H3 p (.tup ws)) (aw M3 a (.dT (eP kvs ky d))) (upd (upd H3 p (.tup ws)) a (.dT (dO ks ky v))):=Ext.write em
  have h4:upd H3 p (.tup ws) a=some (.dT ks):=by rw[aI hap];exact h3
  refine⟨a,_,rfl,pP.t h4 (by rw[aC,fT rw_]) (by rw[<-kr.length];exact hz),?_⟩
  exact k.nx Δ _ σ _ q3 ((((e1.trans e2).trans e3).trans e4).trans ew) (hr4.put ew ⟨_,aC,((kr.ext e4).put ky (((rv.ext e2).ext e3).ext e4)).ext ew⟩) (((((sr.ext e1).ext e2).ext e3).ext e4).ext ew)⟩⟩⟩
/-! d.get((x,y),z) -/
def tI(to:TEd) (t:TAd) (te:TEd):TEd:=fun Δ M Q=>to Δ M fun x M1=>∃a kvs0,x=.ref a/\M1 a=some (.dT kvs0)/\t Δ M1 fun ds M2=>ds.length<=J0/\te Δ M2 fun z M3=>∃kvs ks,M3 a=some (.dT kvs)/\ds=ks.map kD/\Q ((bp kvs ks).getD z) M3
theorem B1{x1}{p aW aG:Pos}(hu:X.A.units+1<X7) (ho:PEd X o to) (ht:PAd X es t) (he:PEd X e te) (m:M2 X o "get" aW (.Tuple es x1 p) e aG):PEd X (.Call (.Attribute o "get" aW) [.Tuple es x1 p,e] [] aG) (tI to t te) :=
 PE.conv (mv hu ho (iY ht) he m) fun σ H Q ⟨Δ,M,R,sr,hr,q,k⟩=>⟨Δ,M,_,sr,hr,q,fun x M1 v H1 ⟨a,kvs0,ex,em,q1⟩ e1 hr1 rv=>by
  subst ex
  simp only[Rep]at rv
  subst rv
  obtain⟨ks0,h1,kr0⟩:=hr1 a _ em
  refine⟨a,rfl,.inr ⟨ks0,.inl h1⟩,Δ,M1,_,sr.ext e1,hr1,q1,fun ds M2 us H2 ⟨hl,q2⟩ e2 hr2 ru=>⟨by rw[<-ru.length];exact hl,fun p hp=>?_⟩⟩
  have e3:Ext M2 H2 M2 (upd H2 p (.tup us)):=Ext.new hr2 hp
  refine⟨Δ,M2,_,((sr.ext e1).ext e2).ext e3,hr2.new hp,q2,fun z M3 w H3 ⟨kvs,ky,em3,ey,q3⟩ e4 hr4 rw_=>?_⟩
  subst ey
  obtain⟨ks,h3,kr⟩:=hr4 a _ em3
  have eb:=(e4 p _ aC (hr2.fresh hp)).1
  rw[fT ru]at eb
  refine⟨dZ ks ky,gz.t h3 eb,?_⟩
  cases ed:bp kvs ky with
  |some d =>
   obtain⟨w',hw,rw'⟩:=(kr.val ky).1 d ed
   rw[hw];rw[ed]at q3
   exact k _ M3 _ H3 q3 (((e1.trans e2).trans e3).trans e4) hr4 rw'
  |none =>
   have:=(kr.val ky).2
   rw[ed]at this q3
   have hn:dZ ks ky=none:=by simpa using this
   rw[hn]
   exact k _ M3 _ H3 q3 (((e1.trans e2).trans e3).trans e4) hr4 rw_⟩
end
section
variable{X:Cx}{a b c e o:K4}{es:List K4}{te to:TEd}{t:TAd}{pos:Pos}{tg:K4}
/-! min,sum -/
def wf:List D->Option D
 |[.int i,.int j]=>some (.int (if j<i then j else i))
 |_=>none
theorem Cz(hc:X.calm=true):bo X (.builtin "min") wf:=bo.of (w6 hc) fun H M xs ds dz Q hr rp e q=>by
 unfold wf at e
 split at e
 ·rename_i i j
  cases e
  obtain⟨v,w,rfl,r1,r2⟩:=zo rp
  rw[dM r1,dM r2]
  exact⟨i,j,rfl,q _ H (Ext.refl _ _) hr (by simp[Rep])⟩
 ·cases e
def dY:List D->Option (List Int)
 |[]=>some []
 |.int i::ds=>(dY ds).map (i::·)
 |_=>none
theorem iV:∀{ns:List Int},dY (ns.map D.int)=some ns
 |[]=>rfl
 |n::ns=>by simp[dY,iV (ns:=ns)]
def B5:D->Option D
 |.lst ds=>(dY ds).map fun ns=>.int ns.sum
 |_=>none
theorem zq{ns:List Int}:B5 (.lst (ns.map D.int))=some (.int ns.sum):=by simp[B5,iV]
theorem jW{K:o0}{M:DH}{H:Hp}:∀{ds:List D}{ns:List Int}{vs:List V}{us:List s0},dY ds=some ns->aq K M H ds vs->aA vs us->∃xs:Array (Int×Tok),us.toArray=intItems xs/\xs.toList.map (·.1)=ns
 |[],_,_,_,e,h,r=>by
  simp only[dY,N5.injEq]at e;subst e
  simp only[aq]at h;subst h
  cases r
  exact⟨#[],by simp[intItems],rfl⟩
 |.int i::ds,ns,vs,us,e,h,r=>by
  simp only[dY]at e
  cases q:dY ds with
  |none=>rw[q]at e;cases e
  |some ms =>
   rw[q]at e;cases e
   simp only[aq]at h
   obtain⟨v,ws,rfl,h1,h2⟩:=h
   simp only[Rep]at h1;subst h1
   cases r with
   |@cons x u xs' us' r1 r2 =>
    obtain⟨t,rfl⟩:=r1
    obtain⟨ys,e1,e2⟩:=jW q h2 r2
    refine⟨(((i,t)::ys.toList)).toArray,?_,by simp[e2]⟩
    have:us'=(intItems ys).toList:=by rw[<-e1]
    rw[this]
    simp[intItems]
 |.non::_,_,_,_,e,_,_=>by cases e
 |.bl _::_,_,_,_,e,_,_=>by cases e
 |.str _::_,_,_,_,e,_,_=>by cases e
 |.tup _::_,_,_,_,e,_,_=>by cases e
 |.lst _::_,_,_,_,e,_,_=>by cases e
 |.scr _::_,_,_,_,e,_,_=>by cases e
 |.emp::_,_,_,_,e,_,_=>by cases e
 |.box _ _::_,_,_,_,e,_,_=>by cases e
 |.ref _::_,_,_,_,e,_,_=>by cases e
theorem CO(hc:X.calm=true):bo X (.builtin "sum") (jH B5):=by
 intro ae s σ H M xs us ds dz Q I hr rv rp e k
 obtain⟨d,rfl,e0⟩:=cy e
 clear e
 have e:=e0
 clear e0
 obtain⟨v,rfl,r⟩:=jo rp
 obtain⟨u,rfl,ru⟩:=aA.one rv
 cases d with
 |lst ds =>
  simp only[B5]at e
  cases q:dY ds with
  |none=>rw[q]at e;cases e
  |some ns =>
   rw[q]at e;cases e
   obtain⟨l,vs,rfl,sq,rl⟩:=r
   cases ru
   obtain⟨its,rv,pl,hz⟩:=I.list (SqL.of sq)
   obtain⟨ys,e1,e2⟩:=jW q rl rv
   refine sum_intListG (xs:=ys) (I.ok.hd hc) (by rw[<-e1];exact pl.isList) fun h' tk t' kk=>?_
   have I1:Inv X ae σ H { s with heap:=h',toks:=tk }:=I.kept (t':=tk) kk
   refine⟨.int _,H,I1,⟨_,rfl⟩,k _ H (Ext.refl _ _) hr ?_⟩
   have e3:preSum (numAt ys) ys.size=ns.sum:=by
    rw[preSum_eq,List.take_of_length_le (by simp),e2]
   rw[e3]
   simp[Rep]
 |_=>cases e
/-! xs.pop(),xs.extend(ys) -/
def Ej(to te:TEd):TEd:=fun Δ M Q=>to Δ M fun o M1=>∃a l,o=.ref a/\M1 a=some (.lst l)/\te Δ M1 fun d M2=>∃ds ys,d=.lst ys/\M2 a=some (.lst ds)/\ds.length+ys.length<=J0/\Q .non (aw M2 a (.lst (ds++ys)))
theorem F8{aW aG:Pos}(ho:PEd X o to) (he:PEd X e te) (bG:U2 o "extend" X.env (T7 o X.env)=T7 o X.env:=by rfl)
  (hse:J5 [e] X.env=(false,T7 e X.env)::J5 [] X.env:=by rfl)
  (dR:((T3 aG (J5 [e] X.env)).all (fun x => !x.1) && (ac5 aG (Y9 [] X.env)).all (fun x => x.1.isSome)
  &&decide ([e].length+([]:List X8).length+(if([]:List X8).isEmpty then 0 else 1)<30))=true:=by rfl)
  (bE:(aW.endLine==aG.line)=true:=by rfl) (bZ:(T3 aG (J5 [] X.env)).any (·.1)=false:=by rfl):PEd X (.Call (.Attribute o "extend" aW) [e] [] aG) (Ej to te) :=
 (qP PySem.F.plainAttrs_list PySem.F.slot_list_extend PySem.F.type_list_extend (show MtR X "list.extend" vy from vS) ho (dP he iU hse) bG dR bE hse bZ).conv fun σ H Q ⟨Δ,M,R,sr,hr,q,k⟩ => ⟨Δ,M,_,sr,hr,q,fun o M1 ov H1 ⟨a,l,eo,em,q1⟩ e1 hr1 ro => by
  subst eo
  simp only[Rep]at ro
  subst ro
  obtain⟨vs,hv,rl⟩:=hr1 a _ em
  refine⟨.inl ⟨rfl,vs,SqL.of hv⟩,Δ,M1,_,sr.ext e1,hr1,q1,fun d M2 v H2 ⟨ds,ys,ed,em2,hz,q2⟩ e2 hr2 rv=>?_⟩
  subst ed
  simp only[Rep]at rv
  obtain⟨b,zs,rfl,hb,rz⟩:=rv
  obtain⟨ws,hw,rl2⟩:=hr2 a _ em2
  refine⟨a,b,ws,zs,rfl,rfl,hw,hb.1,by rw[<-rl2.length,<-rz.length];exact hz,k _ _ _ _ q2 ((e1.trans e2).trans (Ext.write em2)) (hr2.write em2 (rl2.append rz)) (by simp[Rep])⟩⟩
/-! range(a,b,c),c a written step -/
def DC(lo c:Int) (n:Nat):It:=⟨fun i _=>i<n,fun i H x H'=>H'=H/\x=.int (lo+i*c),fun i _=>n<=i⟩
theorem rP{P:L8}{w:P2}{K:o0}{tg:K4}(it:J9) (lo c:Int) (n:Nat):gK P w K tg (DC lo c n) [it] it (fun i h=>ac1 h it (lo+(i:Nat)*c) ((n:Int)-(i:Nat)) c) where
 mem:=by simp
 obj:=fun i h st b hb=>by
  have e:b=it:=by simpa using hb
  subst e
  exact⟨_,st,fun v z=>by
   have z':Data.fields _=Data.cell v:=z
   cases z'⟩
 keep:=fun i h h' st k=>k it (by simp) _ st
 item:=by
  intro X hP hw hK hc i ae s σ H E I hf st hg
  subst hP hw hK
  obtain⟨f0,f1,f2,f3,f4,f5⟩:=hf it (by simp)
  have W:=Walks.range (prog:=X.prog) (w:=X.w) (I.ok.hd hc) it lo c n
  refine W.item i s _ _ hg st fun v h' tk hv st' kk=>?_
  obtain⟨t,rfl⟩:=hv
  have I1:Inv X ae σ H { s with heap:=h',toks:=tk }:=I.turned (fun b o hb e=>kk b o (by simpa using hb) e) f0 f1 f3 f4 f5
  exact⟨_,rfl,lT (s:={ s with heap:=h',toks:=tk }) (n:="range_iterator") st' rfl rfl (by decide) ⟨.int (lo+i*c),H,I1,⟨t,rfl⟩,⟨rfl,rfl⟩,st',fun b hb=>(hf b hb).1⟩⟩
 done:=by
  intro X hP hw hK hc i ae s σ H E I hf st hg
  subst hP hw hK
  obtain⟨f0,f1,f2,f3,f4,f5⟩:=hf it (by simp)
  exact wpAny_pyNext_range_end (I.ok.hd hc) st (by have:n<=i:=hg;omega) fun h' eb=>⟨rfl,I.turned (t':=s.toks) (fun b o hb e=>eb b o hb e) f0 f1 f3 f4 f5⟩
 self:=fun _ _ _ _ _ st h=>wpAny_pyIter_rangeiter st h
def szR(a b c:Int):Nat:=(P8 a b c).toNat
def Hd(ta:TA):TI:=fun σ H R=>ta σ H fun vs H1=>∃i j c:Int,vs=[.int i,.int j,.int c]/\c≠0/\(-(2 ^ 20)<=i/\i<2 ^ 20/\-(2 ^ 20)<=j/\j<2 ^ 20/\-(2 ^ 20)<=c/\c<2 ^ 20)/\K3.Range.small i j c=true/\R (DC i c (szR i j c)) H1
theorem Ar{a b c:Int}(hc:c≠0):0<=P8 a b c:=by
 unfold P8
 split
 ·split
  ·have:=Int.ediv_nonneg (a:=b-a-1) (b:=c) (by omega) (by omega);omega
  ·omega
 ·split
  ·have:=Int.ediv_nonneg (a:=a-b-1) (b:=-c) (by omega) (by omega);omega
  ·omega
theorem xi{ta:TA}{p:Pos}(hg:Gl X "range") (hm:X.mg "range"=none) (ha:PA X [a,b,c] ta) (hs:J5 [a,b,c] X.env=[(false,T7 a X.env),(false,T7 b X.env),(false,T7 c X.env)]:=by rfl)
  (hs2:J5 [b,c] X.env=[(false,T7 b X.env),(false,T7 c X.env)]:=by rfl):PI X tg (.Call (.Name "range" p) [a,b,c] [] pos) (Hd ta):=by
 intro ae s σ H R I h
 refine Call_ (gR I hg hm boot_range (R5 (thn (ha pos ae s σ H _ I h) fun us s1 ⟨vs,H1,I1,r1,q1⟩=>?_) (by rw[hs,hs2]) (by rw[hs2];rfl)))
 obtain⟨i,j,st,e,hc,⟨b1,b2,b3,b4,b5,b6⟩,hsm,q⟩:=q1
 subst e
 cases r1 with
 |cons r rr =>
  cases rr with
  |cons r' rr =>
   cases rr with
   |cons r'' rr =>
    cases rr
    obtain⟨t,rfl⟩:=r
    obtain⟨t',rfl⟩:=r'
    obtain⟨t'',rfl⟩:=r''
    refine call_range_3 hc ?_ (Or.inl (PyProof.noPylong_small (by omega)))
    refine wpAny_pyIter_range (IsRange.new ..) hsm ?_
    have I2:Inv X ae σ H1 { s1 with heap:=s1.heap.push { cls:=.type "range",data:=.fields #[.int i t,.int j t',.int st t''] },toks:=s1.toks }:=I1.kept fun b o e=>u8 _ e
    refine⟨(s1.heap.push { cls:=.type "range",data:=.fields #[.int i t,.int j t',.int st t''] }).objs.size,[(s1.heap.push { cls:=.type "range",data:=.fields #[.int i t,.int j t',.int st t''] }).objs.size],_,_,H1,rfl,
     I2.kept (t':=s1.toks) fun b o e=>u8 _ e,rP _ i st (szR i j st),?_,fun b hb=>?_,q⟩
    ·have e1:i+((0:Nat):Int)*st=i:=by simp
     have e2:((szR i j st:Nat):Int)-((0:Nat):Int)=P8 i j st:=by
      unfold szR
      have:=Ar (a:=i) (b:=j) hc
      omega
     show ac1 _ _ (i+((0:Nat):Int)*st) (((szR i j st:Nat):Int)-((0:Nat):Int)) st
     rw[e1,e2]
     exact J6 _ rfl
    ·have e:b=(s1.heap.push { cls:=.type "range",data:=.fields #[.int i t,.int j t',.int st t''] }).objs.size:=by simpa using hb
     subst e
     exact I2.fpOk (J4 _) (I2.hok.fresh (J4 _))
def lQ(lo c:Int) (n:Nat):List D:=(V7 n).map fun(k:Nat)=>.int (lo+(k:Int)*c)
theorem jD{lo c:Int}{n i:Nat}{d:D}(h:(lQ lo c n)[i]?=some d):i<n/\d=.int (lo+i*c):=by
 unfold lQ at h
 rw[O7]at h
 by_cases hi:i<n
 ·rw[List.getElem?_range hi]at h;cases h;exact⟨hi,rfl⟩
 ·rw[List.getElem?_eq_none (by simp;omega)]at h;cases h
theorem BH{K:o0}{lo c:Int}{n:Nat}{M1:DH}{H1:Hp}:ItD K (DC lo c n) (lQ lo c n) M1 H1:=fun M2 H2 e2 hr2 i=>⟨fun d hd=>by
  obtain⟨h1,rfl⟩:=jD hd
  refine⟨h1,fun x H' ⟨eH,y⟩=>?_⟩
  subst eH;subst y
  exact⟨Ext.refl _ _,hr2,by simp[Rep]⟩,fun hl=>by
  show n<=i
  simpa[lQ]using hl⟩
def sZ(ta:TAd):TId:=fun Δ M R=>ta Δ M fun ds M1=>∃i j c:Int,ds=[.int i,.int j,.int c]/\(c=2∨c=-1)/\(-(2 ^ 20)<=i/\i<2 ^ 20/\-(2 ^ 20)<=j/\j<2 ^ 20)/\R (lQ i c (szR i j c)) M1
theorem vR{a b c:Int}(hc:c=2∨c=-1) (ha:-(2 ^ 20)<=a) (ha':a<2 ^ 20) (hb:-(2 ^ 20)<=b) (hb':b<2 ^ 20):K3.Range.small a b c=true:=by
 unfold K3.Range.small P8
 rcases hc with rfl|rfl
 ·simp only[K3.Range.rangeFitsLong,L6,Bool.or_eq_true,decide_eq_true_eq,beq_iff_eq,show(2:Int) > 0 by decide,if_true]
  split<;>omega
 ·simp only[K3.Range.rangeFitsLong,L6,Bool.or_eq_true,decide_eq_true_eq,beq_iff_eq,show ¬ (-1:Int) > 0 by decide,if_false,show(- (-1:Int))=1 from rfl,Int.ediv_one]
  split<;>omega
theorem aq.three{K:o0}{M:DH}{H:Hp}{d e f:D}{vs:List V}(h:aq K M H [d,e,f] vs):∃v w z,vs=[v,w,z]/\Rep K M H d v/\Rep K M H e w/\Rep K M H f z:=by
 simp only[aq]at h
 obtain⟨v,us,rfl,h1,w,ws,rfl,h2,z,zs,rfl,h3,rfl⟩:=h
 exact⟨v,w,z,rfl,h1,h2,h3⟩
theorem Dr{ta:TAd}{p:Pos}(hg:Gl X "range") (hm:X.mg "range"=none) (ha:PAd X [a,b,c] ta) (hs:J5 [a,b,c] X.env=[(false,T7 a X.env),(false,T7 b X.env),(false,T7 c X.env)]:=by rfl)
  (hs2:J5 [b,c] X.env=[(false,T7 b X.env),(false,T7 c X.env)]:=by rfl):PId X tg (.Call (.Name "range" p) [a,b,c] [] pos) (sZ ta) :=
 (xi hg hm ha hs hs2).conv fun σ H R ⟨Δ,M,R',sr,hr,q,k⟩ => ⟨Δ,M,_,sr,hr,q,fun ds M1 vs H1 ⟨i,j,st,ed,h1,h2,q1⟩ e1 hr1 rv => by
  subst ed
  obtain⟨v,w,z,ev,rv1,rv2,rv3⟩:=rv.three
  have ev1:v=.int i:=by simpa only[Rep]using rv1
  have ev2:w=.int j:=by simpa only[Rep]using rv2
  have ev3:z=.int st:=by simpa only[Rep]using rv3
  subst ev1;subst ev2;subst ev3;subst ev
  exact⟨i,j,st,rfl,by omega,⟨h2.1,h2.2.1,h2.2.2.1,h2.2.2.2,by omega,by omega⟩,vR h1 h2.1 h2.2.1 h2.2.2.1 h2.2.2.2,k _ M1 _ H1 q1 e1 hr1 BH⟩⟩
end
/-! ### a aa1 whose own names are cells (another one within reads them) -/
theorem fY{x:Str}{c:J9}:∀{names:List (Str×K8)}{n:Nat}{acc:List (Str×J9)},(Q0 n names acc).lookup x=some c->acc.lookup x=some c∨((x,Q8)∈names/\n<=c)
 |[],_,_,h=>.inl h
 |(y,k)::r,n,acc,h=>by
  unfold Q0 at h
  split at h
  ·rename_i hk
   rcases fY h with z|z
   ·rw[K7]at z
    cases q:x==y with
    |true =>
     rw[q]at z
     have e1:n=c:=K9 z
     have e2:x=y:=by simpa using q
     have e3:k=.cell:=by simpa using hk
     subst e1;subst e2;subst e3
     exact .inr ⟨N8,J4 _⟩
    |false=>rw[q]at z;exact .inl z
   ·exact .inr ⟨L5 _ z.1,X4 z.2⟩
  ·rcases fY h with z|z
   ·exact .inl z
   ·exact .inr ⟨L5 _ z.1,z.2⟩
theorem tR:∀{names:List (Str×K8)}{n:Nat}{acc:List (Str×J9)},(∀x y c,acc.lookup x=some c->acc.lookup y=some c->x=y)->(∀x c,acc.lookup x=some c->c<n) ->
  ∀x y c,(Q0 n names acc).lookup x=some c->(Q0 n names acc).lookup y=some c->x=y
 |[],_,_,hi,_=>hi
 |(z,k)::r,n,acc,hi,hl=>by
  unfold Q0
  split
  ·refine tR (fun x y c hx hy=>?_) (fun x c hx=>?_)
   ·rw[K7]at hx hy
    cases q1:x==z with
    |true =>
     rw[q1]at hx
     have e1:n=c:=K9 hx
     subst e1
     cases q2:y==z with
     |true=>exact(beq_iff_eq.mp q1).trans (beq_iff_eq.mp q2).symm
     |false=>rw[q2]at hy;exact absurd (hl y _ hy) (P7 _)
    |false =>
     rw[q1]at hx
     cases q2:y==z with
     |true =>
      rw[q2]at hy
      have e1:n=c:=K9 hy
      subst e1
      exact absurd (hl x _ hx) (P7 _)
     |false=>rw[q2]at hy;exact hi x y c hx hy
   ·rw[K7]at hx
    cases q1:x==z with
    |true=>rw[q1]at hx;have e1:n=c:=K9 hx;exact e1▸P1 _
    |false=>rw[q1]at hx;exact N7 (hl x c hx)
  ·exact tR hi hl
theorem pA{x:Str}{c:J9}:∀{names:List (Str×K8)}{h:L9}{acc:List (Str×J9)},(Q0 h.objs.size names acc).lookup x=some c->acc.lookup x=some c∨(pushCells h names).IsCell c none
 |[],_,_,e=>.inl e
 |(y,k)::r,h,acc,e=>by
  unfold Q0 at e
  unfold pushCells
  split at e
  ·rename_i hk
   rw[if_pos hk]
   have e':(Q0 (h.push { cls:=.type "cell",data:=.cell none }).objs.size r ((y,h.objs.size)::acc)).lookup x=some c:=by rw[R0];exact e
   rcases pA e' with z|z
   ·rw[K7]at z
    cases q:x==y with
    |true =>
     rw[q]at z
     have e1:h.objs.size=c:=K9 z
     subst e1
     exact .inr ⟨_,pushCells_keeps _ _ _ _ (J6 _ rfl),rfl⟩
    |false=>rw[q]at z;exact .inl z
   ·exact .inr z
  ·rename_i hk
   rw[if_neg hk]
   exact pA e
theorem pj{M:Model}{A:O3}{E:s0->I0->Prop}{s:I0}{scope:U9}{globals:J9}{cl:List (Str×J9)}{qual:Str}{outer:Env}{builtins:J9}{Q:Env->I0->Prop}
  (hQ:∀ h',(∀ b o,s.heap.get? b = some o → h'.get? b = some o) → h'.Ns s.heap.objs.size (fun _ => none) →
   (∀x c,(Q0 (s.heap.objs.size+1) scope.names cl).lookup x=some c->cl.lookup x=some c∨h'.IsCell c none) ->
   Q (newEnv scope s.heap.objs.size globals (Q0 (s.heap.objs.size+1) scope.names cl) qual none .none (some outer) builtins) { s with heap:=h' }) :
  K5 M A (Z6 scope globals cl [] qual none .none (some outer) builtins) Q E s:=by
 simp only[Z6,Option.isSome_some,if_true]
 refine t3 (wpAny_alloc ?_)
 refine t3 (wpAny_layCells _ (fun name kind cells=>by cases hkc:kind==Q8<;>simp[hkc]) _ _ _ _ ?_)
 have hsz:({ s with heap:=s.heap.push { cls:=.type "dict",data:=.dict #[] } }:I0).heap.objs.size=s.heap.objs.size+1:=R0 ..
 rw[hsz]
 refine t3 ?_
 rw[List.forIn_nil]
 refine J3 (J3 ?_)
 refine hQ _ (fun b o e=>pushCells_keeps _ _ b o (u8 _ e)) ((L9.Ns.new s.heap (.type "dict")).keeps (pushCells_keeps _ _)) fun x c e=>?_
 refine pA (h:=s.heap.push { cls:=.type "dict",data:=.dict #[] }) ?_
 rw[R0];exact e
def cxC(X:Cx) (scope:U9) (cl:List (Str×J9)) (N:List Str) (C:J9) (s:I0) (H:Hp) (ex:List J9):Cx :=
 { ay X scope (Q0 (C+1) scope.names cl) N C s H ex with fn:=fun x=>scope.names.lookup x==some .cell }
theorem eI{env:Env}{x:Str}:∀{names:List (Str×K8)},(names.map fun(n,k)=>if(k==M7&&env.scope.kind==.function&&env.kindOf n==some .cell)then(n,Q8)else(n,k)).lookup x =
  (names.lookup x).map fun k=>if(k==M7&&env.scope.kind==.function&&env.kindOf x==some .cell)=true then Q8 else k
 |[]=>rfl
 |(n,k0)::r=>by
  have ih:=@eI env x r
  show S9 x ((if(k0==M7&&env.scope.kind==.function&&env.kindOf n==some .cell)=true then(n,Q8)else(n,k0))::_)=_
  cases hx:x==n with
  |true =>
   have e:x=n:=by simpa using hx
   subst e
   by_cases hq:(k0==M7&&env.scope.kind==.function&&env.kindOf x==some .cell)=true
   ·rw[if_pos hq];simp only[K7,hx,R8,hq,if_true]
   ·rw[if_neg hq];simp only[K7,hx,R8,hq,if_false,O8]
  |false =>
   by_cases hq:(k0==M7&&env.scope.kind==.function&&env.kindOf n==some .cell)=true
   ·rw[if_pos hq];simp only[K7,hx];exact ih
   ·rw[if_neg hq];simp only[K7,hx];exact ih
structure b7(X:Cx) (scope:U9) (cl:List (Str×J9)) (ms:List Bool) (ah:List Str):Prop where
 kind:scope.kind=.function
 names:∀y∈scope.names,y.2=.local->scope.names.lookup y.1=some .local
 cellN:∀y∈scope.names,y.2=.cell->scope.names.lookup y.1=some .cell
 clos:closureFor scope X.env=W0 cl
 sub:∀x c,cl.lookup x=some c->X.env.cells.lookup x=some c
 fre:∀x c,cl.lookup x=some c->scope.names.lookup x=some .free
 has:∀x,scope.names.lookup x=some .free->∃c,cl.lookup x=some c
 fr:∀x,scope.names.lookup x=some .free->X.env.scope.names.lookup x=some .cell∨X.env.scope.names.lookup x=some .free
 mask:∀(i:Nat) (x:Str),ms[i]?=some true->X.N[i]?=some x->scope.names.lookup x=some .free
 mlen:ms.length<=X.N.length
theorem AM{X:Cx}{scope:U9}{cl:List (Str×J9)}{ms:List Bool}{ah:List Str}(S:b7 X scope cl ms ah) {n:Nat}{x:Str}{c:J9}(hf:scope.names.lookup x=some .free) (hc:cl.lookup x=some c):(Q0 n scope.names cl).lookup x=some c:=by
 have h:=O9 (x:=x) scope.names n cl (.inr (by rw[hc];rfl))
 obtain⟨c',e⟩:=P6.mp h
 rcases fY e with z|z
 ·rw[hc]at z;cases z;exact e
 ·have:=S.cellN _ z.1 rfl
  rw[hf]at this;cases this
section
variable{X:Cx}{ae:List (J9×Obj)}{σ:St}{H H2:Hp}{s s2:I0}{scope:U9}{cl:List (Str×J9)}{ms:List Bool}{ah:List Str}
theorem qk(I:Inv X ae σ H s) (S:b7 X scope cl ms ah) {fp:List J9}(hfp:∀b∈fp,cJ X ae H b) (hlt:∀b∈fp,b<s.heap.objs.size) {C:J9}(hC:s.heap.objs.size<=C) :
  (cxC X scope cl (X.N++ah) C s H fp).Ok where
 mod:=I.ok.mod
 kind:=S.kind
 glob:=I.ok.glob
 blt:=I.ok.blt
 above:=hC
 inj:=tR (fun x y c h1 h2=>I.ok.inj x y c (S.sub x c h1) (S.sub y c h2)) fun x c h=>by
  obtain⟨v,o,ho,_⟩:=I.cell x c (S.sub x c h)
  exact N7 (J8 (J7 ho) hC)
 has:=fun x hx=>by
  have hx':(aa6 scope X.env).names.lookup x=some .cell∨(aa6 scope X.env).names.lookup x=some .free:=hx
  have e:(aa6 scope X.env).names.lookup x=_:=eI (env:=X.env) (x:=x) (names:=scope.names)
  rw[e]at hx'
  refine P6.mp (O9 _ _ _ ?_)
  cases q:scope.names.lookup x with
  |none=>rw[q]at hx';simp at hx'
  |some k =>
   rw[q]at hx'
   cases k with
   |cell=>exact .inl rfl
   |free=>obtain⟨c,hc⟩:=S.has x q;exact .inr (by rw[hc];rfl)
   |_=>simp at hx'
 cab:=fun x c h e=>by
  have hq:scope.names.lookup x=some .cell:=by simpa[cxC]using h
  rcases fY e with z|z
  ·rw[S.fre x c z]at hq;cases hq
  ·exact M9 hC (X4 z.2)
 hd:=I.ok.hd
 frames:=I.ok.frames
 stk:=.inl rfl
 exf:=fun b hb=>⟨K0 (J8 (hlt b hb) hC),fun x c e=>by
  rcases fY e with z|z
  ·exact(hfp b hb).2.2.2.2.1 x c (S.sub x c z)
  ·exact V8 (J8 (J8 (hlt b hb) hC) (X4 z.2))⟩
 bs:=I.bs
 bsz:=M9 I.ok.bsz I.sz
 noex:=fun b o e hb=>by
  rcases(hfp b hb).2.2.2.1 with z|z
  ·exact I.ok.noex b o e z
  ·exact absurd (J8 (J7 e) (M9 I.ok.bsz z)) (P7 _)
 exfs:=fun b hb z=>by
  rcases O4.mp (I.stkSub b z)with e|e
  ·exact(hfp b hb).2.1 e
  ·exact(hfp b hb).2.2.1 e
 funs:=I.stack
 frf:=I.stkFree
theorem za(I:Inv X ae σ H s) (S:b7 X scope cl ms ah) {fp:List J9}(hfp:∀b∈fp,cJ X ae H b) (hlt:∀b∈fp,b<s.heap.objs.size) {C:J9}(hC:s.heap.objs.size<=C)
  (os:s2.os=s.os) (bare:Z3 s2.gens) (keep:∀b o,s.heap.get? b=some o->s2.heap.get? b=some o) {m:Str->Option s0} (hn:s2.heap.Ns C m)
  (hce:∀x c,(Q0 (C+1) scope.names cl).lookup x=some c->cl.lookup x=some c∨s2.heap.IsCell c none) :
  Inv (cxC X scope cl (X.N++ah) C s H fp) [] (dm ms ah.length σ) H s2 where
 ok:=qk I S hfp hlt hC
 os:=os
 bare:=bare
 base:=Un.kept keep
 loc:=⟨m,hn,fun i x v h1 h2 h3=>by
  obtain⟨hi,hm,hv⟩:=oB h2
  have hiN:i<X.N.length:=by rw[<-I.len];exact hi
  have hx:X.N[i]?=some x:=by
   have h1':(X.N++ah)[i]?=some x:=h1
   rwa [N6 hiN]at h1'
  have hf:=S.mask i x hm hx
  obtain⟨m0,hn0,hl⟩:=I.loc
  obtain⟨u,r,l⟩:=hl i x v hx hv (by rcases S.fr x hf with z|z<;>simp[Vis,z])
  refine⟨u,r,.inr ⟨?_,?_⟩⟩
  ·exact fL (env:=X.env) hf
  ·obtain⟨c,hc⟩:=S.has x hf
   have hc':=S.sub x c hc
   rcases l with⟨k,_⟩|⟨_,c',e,z⟩
   ·rcases S.fr x hf with z|z<;>(have k':X.env.scope.names.lookup x=some .local:=k;rw[z]at k';cases k')
   ·rw[hc']at e;cases e
    obtain⟨o,ho,hd⟩:=z
    exact⟨c,AM S hf hc,o,keep _ _ ho,hd⟩⟩
 cell:=fun x c e=>by
  rcases hce x c e with z|z
  ·obtain⟨v,o,ho,hd⟩:=I.cell x c (S.sub x c z)
   exact⟨v,o,keep _ _ ho,hd⟩
  ·exact⟨none,z⟩
 free:=I.hok.fresh hC
 freeC:=fun x c e=>by
  rcases fY e with z|z
  ·exact I.freeC x c (S.sub x c z)
  ·exact I.hok.fresh (M9 hC (X4 z.2))
 pin:=fun p hp=>absurd (show p∈([]:List (J9×Obj))from hp) (by simp)
 hok:=I.hok.kept keep
 len:=by
  unfold dm
  rw[N4,bM,List.length_replicate,I.len]
  show _=(X.N++ah).length
  rw[N4]
end
section
variable{X:Cx}{ae:List (J9×Obj)}{σ σ':St}{H2 H':Hp}{s2 s':I0}{scope:U9}{cl:List (Str×J9)}{ms:List Bool}{ah:List Str}{tg iter elt:K4}{ifs:List K4}{g:TG}{tc:TT}{te:TE}{pos:Pos}
theorem ur(S:b7 X scope cl ms ah) (bt:X.calm=true)
  (hg:∀C s H ex,PG (cxC X scope cl (X.N++ah) C s H ex) tg g) (hif:∀C s H ex,PIf (cxC X scope cl (X.N++ah) C s H ex) ifs tc) (he:∀C s H ex,PE (cxC X scope cl (X.N++ah) C s H ex) elt te)
  (I2:Inv X ae σ H2 s2) {it:J9} {fp:List J9} {tn:Nat->L9->Prop} {J:It} (T:gK X.prog X.w X.K tg J fp it tn) (st2:tn 0 s2.heap) (f2:∀b∈fp,cJ X ae H2 b)
  {W:Nat->Nat->List V->St->Hp->Prop} {Z:List V->Hp->Prop} {m0:Nat} (w0:W 0 m0 [] (dm ms ah.length σ) H2) (turn:lP J g tc te W Z)
  {RR:s0->J9->Result->I0->Prop} {E:s0->I0->Prop}
  (hRR:∀ (s':I0) (ys:List V) (its:List s0) (n:Nat) (σ':St) (H':Hp),Inv (cxC X scope cl (X.N ++ ah) (s2.heap.objs.size + 1) s2 H2 fp) [(s2.heap.objs.size,bS its n)] σ' H' s' → aA ys its → ys.length ≤ J0 → Z ys H' →
   RR (.ref s2.heap.objs.size) (s2.heap.objs.size+1) (.ok .next) s') :
  K5 (L3 X.prog X.w) X.A (newList []) (fun acc s₃=>K5 (L3 X.prog X.w) X.A (Z6 scope X.env.globals cl [] X.env.qual none .none (some X.env)) (fun cenv s₄ =>
   Z4 (L3 X.prog X.w) X.A (.compStart (.ListComp elt [⟨tg,iter,ifs,0⟩] scope pos) 0 (.ref it) acc { cenv with scope:=aa6 scope X.env }) (RR acc cenv.locals) s₄) E s₃) E s2:=by
 refine N3 (pj fun h₁ kp₁ hns₁ hce₁=>?_)
 dsimp only at hns₁ kp₁ hce₁ ⊢
 have hsz:(s2.heap.push { cls:=.type "list",dict:=none,data:=.seq ([]:List s0).toArray }).objs.size=s2.heap.objs.size+1:=by rw[R0]
 rw[hsz]at hns₁ hce₁ ⊢
 have hlt:∀b∈fp,b<s2.heap.objs.size:=fun b hb=>by
  obtain⟨o,e,_⟩:=T.obj _ _ st2 b hb
  exact J7 e
 have old:∀b o,s2.heap.get? b=some o->h₁.get? b=some o:=fun b o e=>kp₁ b o (u8 _ e)
 have hacc:h₁.get? s2.heap.objs.size=some (bS [] 0):=kp₁ _ _ (J6 _ rfl)
 have hDn:H2 s2.heap.objs.size=none:=I2.hok.fresh (J4 _)
 have hDfs:∀b,s2.heap.objs.size<=b->b∉(cxC X scope cl (X.N++ah) (s2.heap.objs.size+1) s2 H2 fp).fs:=fun b hb z=>by
  rcases O4.mp (I2.stkSub b z)with e|e
  ·subst e;exact absurd (J8 I2.lt hb) (P7 _)
  ·exact I2.nofs hb e
 have loop:∀s₃:I0,s₃={ s2 with heap:=h₁ } ->
   Z4 (L3 X.prog X.w) X.A (.compLoop (.ListComp elt [⟨tg,iter,ifs,0⟩] scope pos) 0 (.ref it) (.ref s2.heap.objs.size) (ac9 scope (Q0 (s2.heap.objs.size+1+1) scope.names cl) (s2.heap.objs.size+1) X.env)) (RR (.ref s2.heap.objs.size) (s2.heap.objs.size+1)) s₃:=by
  rintro s₃ rfl
  have I3:Inv (cxC X scope cl (X.N++ah) (s2.heap.objs.size+1) s2 H2 fp) [] (dm ms ah.length σ) H2 { s2 with heap:=h₁ } :=
   za I2 S f2 hlt (Y7 _) rfl I2.bare old hns₁ hce₁
  have fpc:∀{H:Hp} {n:Nat} {its:List s0},(∀b∈fp,H b=none)->∀b∈fp,cJ (cxC X scope cl (X.N++ah) (s2.heap.objs.size+1) s2 H2 fp) [(s2.heap.objs.size,bS its n)] H b:=fun hn b hb =>
   ⟨hn b hb,K0 (N7 (hlt b hb)),(qk I2 S f2 hlt (Y7 _)).exfs b hb,.inl hb,fun x c e=>(qk I2 S f2 hlt (Y7 _)).exf b hb |>.2 x c e,fun p hp=>by
    have:p=(s2.heap.objs.size,_):=O5.mp (show p∈[(s2.heap.objs.size,_)]from hp)
    subst this
    exact V8 (hlt b hb)⟩
  refine du (env:=ac9 scope (Q0 (s2.heap.objs.size+1+1) scope.names cl) (s2.heap.objs.size+1) X.env)
   (fun n s'=>∃i ys its nn σ' H',Inv (cxC X scope cl (X.N++ah) (s2.heap.objs.size+1) s2 H2 fp) [(s2.heap.objs.size,bS its nn)] σ' H' s'/\aA ys its/\tn i s'.heap/\(∀b∈fp,H' b=none)/\W i n ys σ' H') ?_ m0
   ⟨0,[],[],0,_,H2,I3.pins_of fun p hp=>?_,.nil,T.keep _ _ _ st2 fun b _ o e=>old b o e,fun b hb=>(f2 b hb).1,w0⟩
  ·rintro n s' ⟨i,ys,its,nn,σ',H',I4,rv,st4,fr4,w4⟩
   obtain⟨hz,h⟩:=turn i n ys σ' H' w4
   rcases h with⟨stop,hZ⟩|⟨go,step⟩
   ·refine thn (T.done (cxC X scope cl (X.N++ah) (s2.heap.objs.size+1) s2 H2 fp) rfl rfl rfl bt i _ s' _ H' (fun _ _=>False) I4 (fpc fr4) st4 stop) fun r s4 ⟨hr,I5⟩=>?_
    subst hr
    exact hRR s4 ys its nn σ' H' I5 rv hz hZ
   ·refine thn (T.item (cxC X scope cl (X.N++ah) (s2.heap.objs.size+1) s2 H2 fp) rfl rfl rfl bt i _ s' _ H' (fun _ _=>False) I4 (fpc fr4) st4 go) fun r s5 ⟨u,hr,h5⟩=>?_
    subst hr
    refine thn h5 fun _ s6 ⟨x,H6,I6,r6,y6,st6,fr6⟩=>?_
    have I6':=I6.pinned (fpc fr6) (T.obj _ _ st6)
    refine thn (hg _ _ _ _ _ s6 _ H6 x u _ I6' r6 (step x H6 y6)) fun _ s7 ⟨σ7,H7,I7,q7⟩=>?_
    refine thn (hif _ _ _ _ _ s7 σ7 H7 _ I7 q7) fun ok s8 ⟨H8,I8,q8⟩=>?_
    have keepfp:∀{σ9:St} {H9:Hp} {s9:I0},Inv (cxC X scope cl (X.N++ah) (s2.heap.objs.size+1) s2 H2 fp) ([(s2.heap.objs.size,bS its nn)]++fX fp s6.heap) σ9 H9 s9->tn (i+1) s9.heap/\∀b∈fp,H9 b=none:=fun {σ9 H9 s9} I9 =>
     ⟨T.keep _ _ _ st6 fun b hb o e=>(I9.pin (b,o) (K1 _ (K1 _ (cv hb e)))).1,fun b hb=>by
      obtain⟨o,e,d⟩:=T.obj _ _ st6 b hb
      exact(I9.pin (b,o) (K1 _ (K1 _ (cv hb e)))).2.1⟩
    cases ok with
    |false =>
     obtain⟨m',hm,w8⟩:=q8
     obtain⟨a8,b8⟩:=keepfp I8
     exact⟨m',hm,i+1,ys,its,nn,σ7,H8,I8.unpinned,rv,a8,b8,w8⟩
    |true =>
     refine thn (he _ _ _ _ _ s8 σ7 H8 _ I8 q8) fun v s9 ⟨y,H9,I9,r9,q9⟩=>?_
     obtain⟨m',hm,w9⟩:=q9
     obtain⟨a9,b9⟩:=keepfp I9
     have pacc:=I9.pin (s2.heap.objs.size,bS its nn) (K1 _ (V3 _ N8))
     have hzi:its.toArray.size<=J0:=by rw[J1,<-rv.length];exact hz
     refine PySem.wpAny_list_append_plain (hsz:=hzi) ⟨nn,pacc.1⟩ fun h' hl' hs'=>?_
     obtain⟨n',hl'⟩:=hl'
     have hne:∀x c,(cxC X scope cl (X.N++ah) (s2.heap.objs.size+1) s2 H2 fp).env.cells.lookup x=some c->c≠s2.heap.objs.size:=fun x c e=>by
      rcases fY e with z|z
      ·obtain⟨v,o,ho,_⟩:=I2.cell x c (S.sub x c z)
       exact K0 (J7 ho)
      ·exact V8 (J8 (N7 (P1 _)) z.2)
     have I10:Inv (cxC X scope cl (X.N++ah) (s2.heap.objs.size+1) s2 H2 fp) [] σ7 H9 { s9 with heap:=h' } :=
      Inv.turned (t':=s9.toks) (it:=s2.heap.objs.size) (I9.pins_of fun p hp=>absurd hp (by simp)) (fun b o hb e=>(hs'.2 b hb).trans e) pacc.2.1 pacc.2.2.1 (.inr (J4 _)) hne (fun p hp=>absurd (show p∈([]:List (J9×Obj))from hp) (by simp))
     refine⟨m',hm,i+1,ys++[y],its++[v],n',σ7,H9,I10.pins_of fun p hp=>?_,rv.append (.cons r9 .nil),T.keep _ _ _ a9 fun b hb o e=>(hs'.2 b (K0 (hlt b hb))).trans e,b9,w9⟩
     have e:p=(s2.heap.objs.size,bS (its++[v]) n'):=O5.mp hp
     subst e
     refine⟨?_,pacc.2.1,pacc.2.2.1,pacc.2.2.2.1,fun v z=>by cases z⟩
     rw[hl']
     simp[bS]
  ·have e:p=(s2.heap.objs.size,bS [] 0):=O5.mp hp
   subst e
   exact⟨hacc,hDn,K0 (P1 _),hDfs _ (J4 _),fun v z=>by cases z⟩
 exact codeAny_compStart_list (loop _ rfl) (T.self _ 0 _ _ _ (T.keep _ _ _ st2 fun b _ o e=>old b o e) (loop _ rfl))
theorem t7(I2:Inv X ae σ H2 s2) {fp:List J9}(f2:∀b∈fp,cJ X ae H2 b) {its:List s0}{n:Nat}{ys:List V}
  (I':Inv (cxC X scope cl (X.N++ah) (s2.heap.objs.size+1) s2 H2 fp) [(s2.heap.objs.size,bS its n)] σ' H' s') (rv:aA ys its) (hz:ys.length<=J0) {h':L9} (hs:S7 (s2.heap.objs.size+1) s'.heap h') :
  Inv X ae σ (upd H' s2.heap.objs.size (.lst ys)) { s' with heap:=h' }/\H' s2.heap.objs.size=none:=by
 have pacc:=I'.pin (s2.heap.objs.size,bS its n) (K1 _ N8)
 have hC:H' (s2.heap.objs.size+1)=none:=I'.free
 have hD:H' s2.heap.objs.size=none:=pacc.2.1
 have up:∀b o,b≠s2.heap.objs.size+1->s'.heap.get? b=some o->h'.get? b=some o:=fun b o hb e=>(hs.2 b hb).trans e
 have nD:∀b u,H' b=some u->b≠s2.heap.objs.size:=fun b u e z=>by rw[z,hD]at e;cases e
 have nC:∀b u,H' b=some u->b≠s2.heap.objs.size+1:=fun b u e z=>by rw[z,hC]at e;cases e
 have hacc:h'.get? s2.heap.objs.size=some (bS its n):=up _ _ (K0 (P1 _)) pacc.1
 have hok:HOk X.prog X.w (upd H' s2.heap.objs.size (.lst ys)) h':=fun b u e=>by
  by_cases hb:b=s2.heap.objs.size
  ·subst hb
   rw[aC]at e;cases e
   exact⟨hz,its,n,rv,hacc⟩
  ·rw[aI hb]at e
   refine(I'.hok b u e).stay (fun c v hc q=>up c v ?_ q) (fun c q=>by rw[aI (nD c _ q)];exact q) fun c xs q=>by rw[aI (nD c _ q)];exact q
   rcases hc with rfl|hc
   ·exact nC _ _ e
   ·exact nC _ _ hc
 have un:Un (frs X.stack) fp H2 (upd H' s2.heap.objs.size (.lst ys)) s2.heap h':=by
  have U:=I'.base
  have ltD:∀b o,s2.heap.get? b=some o->b≠s2.heap.objs.size:=fun b o e=>K0 (J7 e)
  have ltC:∀b o,s2.heap.get? b=some o->b≠s2.heap.objs.size+1:=fun b o e=>K0 (N7 (J7 e))
  refine⟨fun b o e nb hb hx=>up b o (ltC b o e) (U.keep b o e nb hb hx),fun b o e nb hb hx=>?_,fun b o e nb hx=>by rw[aI (ltD b o e)];exact U.free b o e nb hx,fun b o e hx=>?_,
   fun b xs e=>by have q:=U.tups b xs e;rw[aI (nD b _ q)];exact q,fun b o u e=>by have q:=U.frzs b o u e;rw[aI (nD b _ q)];exact q,fun b ps e=>?_⟩
  ·obtain⟨sl,q⟩:=U.slot b o e nb hb hx
   exact⟨sl,up b _ (ltC b o e) q⟩
  ·obtain⟨o',q⟩:=U.there b o e hx
   exact⟨o',up b _ (ltC b o e) q⟩
  ·obtain⟨more,q⟩:=U.tbls b ps e
   exact⟨more,by rw[aI (nD b _ q)];exact q⟩
 exact⟨I2.call' (s':={ s' with heap:=h' }) (ch:=fp) I'.os un hok I'.bare fun b hb=>⟨(f2 b hb).2.2.2.1,(f2 b hb).2.1,(f2 b hb).2.2.2.2.1,(f2 b hb).2.2.2.2.2⟩,hD⟩
theorem Fl(S:b7 X scope cl ms ah) (bt:X.calm=true) {wi:TI}(hi:PI X tg iter wi)
  (hg:∀C s H ex,PG (cxC X scope cl (X.N++ah) C s H ex) tg g) (hif:∀C s H ex,PIf (cxC X scope cl (X.N++ah) C s H ex) ifs tc) (he:∀C s H ex,PE (cxC X scope cl (X.N++ah) C s H ex) elt te)
  (hs:∀x,O0 iter X.env x=W0 x:=by intro _;rfl):PE X (.ListComp elt [⟨tg,iter,ifs,0⟩] scope pos) (tLc ms ah.length wi g tc te):=by
 intro ae s σ H Q I h
 rw[eval_ListComp]
 refine wpAny_comprehension_free (use:=none) rfl hs S.clos S.kind S.names (thn (hi ae s σ H _ I h) fun v s1 h1=>thn h1 fun itv s2 h2=>?_)
 obtain⟨it,fp,tn,J,H2,e,I2,T,st2,f2,W,Z,⟨m0,w0⟩,turn,q⟩:=h2
 subst e
 refine ur S bt hg hif he I2 T st2 f2 w0 turn (RR:=fun acc C=>compPost (L3 X.prog X.w) X.A X.xe none (EP X ae σ Q) acc C) ?_
 intro s' ys its n σ' H' I' rv hz hZ
 obtain⟨m,hm,_⟩:=I'.loc
 refine⟨m,hm,fun h' hs'=>?_⟩
 obtain⟨I3,hD⟩:=t7 I2 f2 I' rv hz hs'
 exact⟨.ref s2.heap.objs.size,_,I3,rfl,q ys H' _ hZ hD⟩
end
section
variable{X:Cx}{tg iter elt:K4}{pos:Pos}{scope:U9}{cl:List (Str×J9)}{ms:List Bool}{ah:List Str}{ifs:List K4}
def Fv(X:Cx) (scope:U9) (cl:List (Str×J9)) (ah:List Str) (tg:K4) (g:GD):Prop:=∃gv:TG,(∀C s H ex,PG (cxC X scope cl (X.N++ah) C s H ex) tg gv)/\∀(d:D) (v:V) (σ:St) (Δ Δ':DE) (M:DH) (H:Hp) (Q:St->Hp->Prop),SR X.K M H σ Δ->HR X.K M H->Rep X.K M H d v->g d Δ=some Δ'->(∀ σ',SR X.K M H σ' Δ'->Q σ' H)->gv v σ H Q
theorem GY{wi:TId}{g:GD}{tc:TTd}{te:TEd}(S:b7 X scope cl ms ah) (bt:X.calm=true) (hi:PId X tg iter wi) (hg:Fv X scope cl ah tg g)
  (hif:b7 X scope cl ms ah->∀C s H ex,nJ (cxC X scope cl (X.N++ah) C s H ex) ifs tc) (he:b7 X scope cl ms ah->∀C s H ex,PEd (cxC X scope cl (X.N++ah) C s H ex) elt te)
  (hs:∀x,O0 iter X.env x=W0 x:=by intro _;rfl):PEd X (.ListComp elt [⟨tg,iter,ifs,0⟩] scope pos) (dLc ms ah.length wi g tc te):=by
 obtain⟨gv,pg,kg⟩:=hg
 exact(Fl (tc:=upT X.K tc) (te:=up X.K te) S bt hi pg (hif S) (he S) hs).conv (oX kg)
/-! the looks at the text -/
def lS(scope fs:U9):U9:={ scope with names:=scope.names.map fun(n,k)=>if(k==.free&&fs.kind==.function&&fs.names.lookup n==some .cell)then(n,.cell)else(n,k) }
theorem vZ{env:Env}:aa6 scope env=lS scope env.scope:=rfl
def gC(fs:U9) (N:List Str) (scope:U9) (ms:List Bool):Bool :=
 scope.kind==.function&&scope.names.all (fun y=>y.2 != .cell || scope.names.lookup y.1==some .cell)&&scope.names.all (fun y=>y.2 != .local || scope.names.lookup y.1==some .local) &&
 scope.names.all (fun y=>y.2 != .free || fs.names.lookup y.1==some .cell)&&(ms.zip N).all (fun y=>!y.1 || scope.names.lookup y.2==some .free)&&decide (ms.length<=N.length)&&scope.names.all (fun y=>y.2 != .free || scope.names.lookup y.1==some .free)
theorem zz{cells:List (Str×J9)}{names:List (Str×K8)}{x:Str}{c:J9}(h:(bX names cells).lookup x=some c):(x,M7)∈names:=by
 have hm:=L4 h
 unfold bX at hm
 rw[List.mem_reverse,V0]at hm
 obtain⟨y,hy,e⟩:=hm
 split at e
 ·rename_i hk
  cases q:cells.lookup y.1 with
  |none=>rw[q]at e;cases e
  |some c' =>
   rw[q]at e
   have e1:y.1=x:=(Prod.mk.inj (K9 e)).1
   have e2:y.2=.free:=by simpa using hk
   obtain⟨a,b⟩:=y
   simp only at e1 e2
   subst e1;subst e2
   exact hy
 ·cases e
theorem uj(cs:∀x,(x,M7)∈scope.names->(X.env.cells.lookup x).isSome=true) (c:gC X.env.scope X.N scope ms=true):b7 X scope (bX scope.names X.env.cells) ms ah:=by
 unfold gC at c
 simp only[L6,S6,decide_eq_true_eq]at c
 obtain⟨⟨⟨⟨⟨⟨c1,c2⟩,c3⟩,c4⟩,c5⟩,c6⟩,c7⟩:=c
 have fr:∀x,(x,M7)∈scope.names->X.env.scope.names.lookup x=some .cell:=fun x hx=>by
  have:=c4 _ hx
  simpa using this
 refine⟨by simpa using c1,fun y hy e=>?_,fun y hy e=>?_,pO fun y hy e=>?_,fun x c h=>mG h,fun x c h=>?_,fun x h=>lF h (cs x (L4 h)),fun x h=>.inl (fr x (L4 h)),fun i x h1 h2=>?_,c6⟩
 ·have:=c3 y hy
  simpa[e]using this
 ·have:=c2 y hy
  simpa[e]using this
 ·obtain⟨a,b⟩:=y
  cases e
  exact cs a hy
 ·have:=c7 _ (zz h)
  simpa using this
 ·have:=c5 (true,x) (by
   rw[List.mem_iff_getElem?]
   exact⟨i,by rw[List.getElem?_zip_eq_some];exact⟨h1,h2⟩⟩)
  simpa using this
theorem sG{n0:Nat}(hX:X.env.cells=Q0 n0 X.env.scope.names []) (c:gC X.env.scope X.N scope ms=true):b7 X scope (bX scope.names X.env.cells) ms ah:=by
 refine uj (fun x hx=>?_) c
 unfold gC at c
 simp only[L6,S6]at c
 have:=c.1.1.1.2 _ hx
 rw[hX]
 exact O9 _ _ _ (.inl (by simpa using this))
theorem wt{C:J9}{s:I0}{H:Hp}{ex:List J9}{N:List Str}(S:b7 X scope cl ms ah) {x:Str}(h:(aa6 scope X.env).names.lookup x=some .cell):((cxC X scope cl N C s H ex).env.cells.lookup x).isSome=true:=by
 have e:(aa6 scope X.env).names.lookup x=_:=eI (env:=X.env) (x:=x) (names:=scope.names)
 rw[e]at h
 refine O9 _ _ _ ?_
 cases q:scope.names.lookup x with
 |none=>rw[q]at h;simp at h
 |some k =>
  rw[q]at h
  cases k with
  |cell=>exact .inl rfl
  |free=>obtain⟨c,hc⟩:=S.has x q;exact .inr (by rw[hc];rfl)
  |_=>simp at h
theorem vO{C:J9}{s:I0}{H:Hp}{ex:List J9}{N:List Str}{scope2:U9}{ms2:List Bool}{extra2:List Str}(S:b7 X scope cl ms ah) (c:aZ (lS scope X.env.scope) N scope2 ms2=true) :
  cI (cxC X scope cl N C s H ex) scope2 (bX scope2.names (cxC X scope cl N C s H ex).env.cells) ms2 extra2:=by
 unfold aZ at c
 simp only[L6,S6,decide_eq_true_eq]at c
 obtain⟨⟨⟨⟨⟨c1,c2⟩,c3⟩,c4⟩,c5⟩,c6⟩:=c
 have fr:∀x,(x,M7)∈scope2.names->(aa6 scope X.env).names.lookup x=some .cell:=fun x hx=>by
  have:=c4 _ hx
  rw[vZ]
  simpa using this
 have cs:∀x,(x,M7)∈scope2.names->((cxC X scope cl N C s H ex).env.cells.lookup x).isSome=true:=fun x hx=>wt S (fr x hx)
 refine⟨by simpa using c1,fun y hy e=>?_,fun y hy e=>?_,pO fun y hy e=>?_,fun x c h=>mG h,fun x h=>lF h (cs x (L4 h)),fun x h=>.inl (fr x (L4 h)),fun i x h1 h2=>?_,c6⟩
 ·have:=c2 y hy
  rw[e]at this
  simp at this
 ·have:=c3 y hy
  simpa[e]using this
 ·obtain⟨a,b⟩:=y
  cases e
  exact cs a hy
 ·have:=c5 (true,x) (by
   rw[List.mem_iff_getElem?]
   exact⟨i,by rw[List.getElem?_zip_eq_some];exact⟨h1,h2⟩⟩)
  simpa using this
end
/-! ### for k in d: d (keys ints and texts) stays as it is from there on -/
def Gn(a:J9) (o:Obj) (ks:List (Key×V)):It :=
 ⟨fun i H=>H a=some (.frz o (.dK ks))/\i<ks.length,fun i H x H'=>H'=H/\∃k v,ks[i]?=some (k,v)/\x=kV k,fun i H=>H a=some (.frz o (.dK ks))/\ks.length<=i⟩
theorem qa{P:L8}{w:P2}{k:Key}{v:s0}(h:(aO P w).is k v=true):aD (kV k) v:=by
 rcases bC (show nq k v=true from h)with⟨i,t,rfl,rfl⟩|⟨x,t,rfl,rfl⟩
 ·exact⟨t,rfl⟩
 ·exact⟨t,rfl⟩
section
variable{X:Cx}{ae:List (J9×Obj)}{σ:St}{H:Hp}{s:I0}{a:J9}{o:Obj}{ks:List (Key×V)}
theorem Inv.freeze(I:Inv X ae σ H s) (e:H a=some (.dK ks)):∃o,s.heap.get? a=some o/\Inv X ae σ (upd H a (.frz o (.dK ks))) s:=by
 obtain⟨o,he⟩:∃o,s.heap.get? a=some o:=by
  obtain⟨_,_,_,_,o,_,_,q,_⟩:=qI I.hok e
  exact⟨o,q⟩
 refine⟨o,he,?_⟩
 have:=I.write (x:=a) (e:=a) (o:=.frz o (.dK ks)) (h':=s.heap) (t':=s.toks) (by rw[e];exact V9) (.inl rfl) (fun b u _ q=>q) ⟨o,he⟩ ⟨he,qI I.hok e⟩
 exact this
theorem vp{ep:Nat}{es:Array ad5}(I:Inv X ae σ H s) (e:H a=some (.frz o (.dK ks))) (hd:o.data=.dict es ep):∃vs,KV ks vs/\s.heap.DictAt (aO X.prog X.w) a vs ep/\(a==T1)=false:=by
 obtain⟨q,hz,hs,vs,rel,o',es',ep',q',c,d',r⟩:=I.hok a _ e
 rw[q]at q';cases q'
 rw[hd]at d'
 cases d'
 exact⟨vs,rel,⟨o,es,q,c,hd,r⟩,hs⟩
theorem wF{P:L8}{w:P2}{K:o0}{tg:K4}(it:J9) {ep:Nat}{es:Array ad5}(hd:o.data=.dict es ep):gK P w K tg (Gn a o ks) [it] it (fun i h=>h.IsKeyIter it a i ks.length ep) where
 mem:=by simp
 obj:=fun i h st b hb=>by
  have e:b=it:=by simpa using hb
  subst e
  obtain⟨o,e,c,d⟩:=st
  exact⟨o,e,fun v z=>by rw[d]at z;cases z⟩
 keep:=fun i h h' st k=>st.at fun o e=>k it (by simp) o e
 item:=by
  intro X hP hw hK hc i ae s σ H E I hf st hg
  subst hP hw hK
  obtain⟨e,hi⟩:=hg
  obtain⟨vs,rel,da,hs⟩:=vp I e hd
  obtain⟨f0,f1,f2,f3,f4,f5⟩:=hf it (by simp)
  have hl:ks.length=vs.length:=rel.length
  obtain⟨⟨k,x⟩,hx⟩:∃p,vs[i]?=some p:=⟨vs[i],by simp[show i<vs.length by omega]⟩
  rw[hl]at st
  refine wpAny_pyNext_dict_item st da hx fun key h' hkey hit' hs'=>?_
  have I1:Inv X ae σ H { s with heap:=h' }:=I.turned (t':=s.toks) (fun b o hb e=>hs'.extBut b o hb e) f0 f1 f3 f4 f5
  obtain⟨k',v',hk'⟩:∃k' v',ks[i]?=some (k',v'):=⟨ks[i].1,ks[i].2,by simp[hi]⟩
  have ek:k'=k:=by
   have q:=rel.keys
   have q1:=congrArg (fun l=>l[i]?) q
   simp only[O7,hk',hx,R8]at q1
   exact K9 q1
  subst ek
  obtain⟨ob,e1,c1,d1⟩:=id hit'
  rw[<-hl]at hit'
  exact⟨key,rfl,lT (s:={ s with heap:=h' }) e1 c1 d1 (by decide) ⟨kV k',H,I1,qa hkey,⟨rfl,k',v',hk',rfl⟩,hit',fun b hb=>(hf b hb).1⟩⟩
 done:=by
  intro X hP hw hK hc i ae s σ H E I hf st hg
  subst hP hw hK
  obtain⟨e,hi⟩:=hg
  obtain⟨vs,rel,da,hs⟩:=vp I e hd
  obtain⟨f0,f1,f2,f3,f4,f5⟩:=hf it (by simp)
  have hl:ks.length=vs.length:=rel.length
  rw[hl]at st
  exact wpAny_pyNext_dict_end (I.ok.hd hc) st da (by simp;omega) fun h' eb=>⟨rfl,I.turned (t':=s.toks) (fun b o hb e=>eb b o hb e) f0 f1 f3 f4 f5⟩
 self:=fun _ _ _ _ _ st h=>wpAny_pyIter_keyiter st h
end
section
variable{X:Cx}{tg l:K4}{tl:TE}{te:TEd}
def iDk(tl:TE):TI:=fun σ H R=>tl σ H fun x H1=>∃a ks,x=.ref a/\H1 a=some (.dK ks)/\∀o,R (Gn a o ks) (upd H1 a (.frz o (.dK ks)))
theorem Hn(hl:PE X l tl):PI X tg l (iDk tl):=by
 intro ae s σ H R I h
 refine thn (hl ae s σ H _ I h) fun v s1 ⟨x,H1,I1,r1,q1⟩=>?_
 obtain⟨a,ks,e,ea,q⟩:=q1
 subst e
 cases r1
 obtain⟨o,ho,I2⟩:=I1.freeze ea
 obtain⟨_,hs,vs,rel,o',es,ep,q',c,hd,r⟩:=qI I1.hok ea
 rw[ho]at q';cases q'
 have da:s1.heap.DictAt (aO X.prog X.w) a vs ep:=⟨o,es,ho,c,hd,r⟩
 refine wpAny_pyIter_dict hs da ?_
 have bj:vs.length=ks.length:=rel.length.symm
 refine⟨s1.heap.objs.size,[s1.heap.objs.size],_,_,_,rfl,I2.kept (t':=s1.toks) fun b o e=>u8 _ e,wF _ hd,?_,fun b hb=>?_,q o⟩
 ·rw[bj]
  exact⟨_,J6 _ rfl,rfl,rfl⟩
 ·have e:b=s1.heap.objs.size:=by simpa using hb
  subst e
  exact I2.fpOk (J4 _) (I2.hok.fresh (J4 _))
def E8(te:TEd):TId:=fun Δ M R=>te Δ M fun d M1=>∃a kvs,d=.ref a/\M1 a=some (.dK kvs)/\R (kvs.map fun p=>kD p.1) (fK M1 a)
theorem KR.keys{K:o0}{M:DH}{H:Hp}{κ:Type}{kvs:List (κ×D)}{ks:List (κ×V)}(h:KR K M H kvs ks):kvs.map (·.1)=ks.map (·.1):=by
 unfold KR at h
 induction h with
 |nil=>rfl
 |cons r _ ih=>rw[N2,N2,ih,r.1]
theorem fN{K:o0}{M:DH}{H:Hp}{k:Key}:Rep K M H (kD k) (kV k):=by cases k<;>simp[kD,kV,Rep]
theorem HP(he:PEd X l te):PId X tg l (E8 te):=fun ae s σ H R I h =>
 PI.conv (Hn he) (fun σ H R ⟨Δ,M,R',sr,hr,q,k⟩=>⟨Δ,M,_,sr,hr,q,fun d M1 v H1 ⟨a,kvs,ed,em,q1⟩ e1 hr1 rv=>by
  subst ed
  simp only[Rep]at rv
  subst rv
  obtain⟨ks,h1,kr⟩:=hr1 a _ em
  refine⟨a,ks,rfl,h1,fun o=>?_⟩
  have e2:Ext M1 H1 (fK M1 a) (upd H1 a (.frz o (.dK ks))):=fun b u z n=>by
   have hb:b≠a:=fun w=>by rw[w,em]at n;cases n
   rw[aI hb,lD hb];exact⟨z,n⟩
  have hr2:HR X.K (fK M1 a) (upd H1 a (.frz o (.dK ks))):=fun b u z=>by
   have hb:b≠a:=fun w=>by rw[w,df]at z;cases z
   rw[lD hb]at z
   exact(hr1 b u z).keep e2 (aI hb)
  refine k _ _ _ _ q1 (e1.trans e2) hr2 ?_
  ·intro M2 H2 e3 hr3 i
   have ea:=(e3 a _ aC df).1
   refine⟨fun d hd=>?_,fun hl=>⟨ea,?_⟩⟩
   ·rw[O7]at hd
    cases q:kvs[i]? with
    |none=>rw[q]at hd;cases hd
    |some p =>
     rw[q]at hd;cases hd
     have hi:i<kvs.length:=(N0.mp q).1
     refine⟨⟨ea,by rw[<-kr.length];exact hi⟩,fun x H' ⟨eH,k',v',hk,ex⟩=>?_⟩
     subst eH;subst ex
     have q1:=congrArg (fun l=>l[i]?) kr.keys
     simp only[O7,q,hk,R8]at q1
     have q2:p.fst=k':=K9 q1
     refine⟨Ext.refl _ _,hr3,?_⟩
     show Rep X.K M2 _ (kD p.fst) (kV k')
     rw[q2];exact fN
   ·rw[<-kr.length];simpa using hl⟩) ae s σ H R I h
end
/-! ### x={k: v for ..},the keys tuples of ints and texts -/
end L2
namespace L2
open PySem PySem.W PyProof.Rows
/-! ### the sort of fewer than 64 things,as a tree of questions: what it comes to -/
section
variable{α β:Type}
variable{O:KeyOrd}{key:Nat->O.α}{n:Nat}
def kp(O:KeyOrd) (key:Nat->O.α) (p:Array Nat) (i:Nat):O.α:=key (p.getD i 0)
def IJ(n:Nat) (p:Array Nat):Prop:=p.toList.Perm (List.range n)
def IH(O:KeyOrd) (key:Nat->O.α) (p:Array Nat) (k:Nat):Prop:=∀i j,i<=j->j<k->O.kle (kp O key p i) (kp O key p j)
def jB(O:KeyOrd) (key:Nat->O.α) (p:Array Nat) (k:Nat):Prop:=∀i j,i<=j->j<k->O.kle (kp O key p j) (kp O key p i)
end
end L2
namespace L2
open PySem PySem.W PySem.Calls PyProof.Rows
/-! ### sorted,of a list of fewer than 64 things whose questions leave the state as it is -/
/-! ### sorted,of pairs of ints -/
end L2
namespace L2
open PySem PySem.Spec PyProof.Rows
theorem Cc{X:Cx}{pos:Pos}:QEd X (.Dict [] [] pos) dDT:=by
 simp only[QEd.eq,QAd.eq,QTd.eq,QWd.eq,QSd.eq,QSs.eq,QId.eq,QIf.eq,QOd.eq]at *
 exact Il 
theorem uR{X:Cx}{a:Expr}{b:Expr}{ta:TEd}{tb:TEd}{pos:Pos}(ha:QEd X a ta) (hb:QEd X b tb):QEd X (.Dict [some a] [b] pos) (tX ta tb):=by
 simp only[QEd.eq,QAd.eq,QTd.eq,QWd.eq,QSd.eq,QSs.eq,QId.eq,QIf.eq,QOd.eq]at *
 exact BM (ha:=ha) (hb:=hb)
theorem va{X:Cx}{o:Expr}{es:List Expr}{to:TEd}{t:TAd}{pos:Pos}{x1}{p:Pos}(hu:X.A.units+1<cLine) (ho:QEd X o to) (ht:QAd X es t) (hs:lH (.Tuple es x1 p)):QEd X (.Subscript o (.Tuple es x1 p) pos) (yW to t):=by
 simp only[QEd.eq,QAd.eq,QTd.eq,QWd.eq,QSd.eq,QSs.eq,QId.eq,QIf.eq,QOd.eq]at *
 exact Bv (hu:=hu) (ho:=ho) (ht:=ht) (hs:=hs)
theorem CJ{X:Cx}{o:Expr}{es:List Expr}{to:TEd}{t:TAd}{pos:Pos}(neg:Bool) {x1}{p:Pos}{op:CmpOp}(hop:op=(if neg then .NotIn else .In)) (hu:X.A.units+1<cLine) (ht:QAd X es t) (ho:QEd X o to) (hm:behindInMarks op o=false):QEd X (.Compare (.Tuple es x1 p) [op] [o] pos) (v9 neg t to):=by
 simp only[QEd.eq,QAd.eq,QTd.eq,QWd.eq,QSd.eq,QSs.eq,QId.eq,QIf.eq,QOd.eq]at *
 exact FL (neg:=neg) (hop:=hop) (hu:=hu) (ht:=ht) (ho:=ho) (hm:=hm)
theorem E2{X:Cx}{o:Expr}{i:Expr}{to:TEd}{ti:TEd}{pos:Pos}(neg:Bool) {op:CmpOp}(hop:op=(if neg then .NotIn else .In)) (hu:X.A.units+1<cLine) (hi:QEd X i ti) (ho:QEd X o to) (hm:behindInMarks op o=false):QTd X (.Compare i [op] [o] pos) (jv (BN neg ti to)):=by
 simp only[QEd.eq,QAd.eq,QTd.eq,QWd.eq,QSd.eq,QSs.eq,QId.eq,QIf.eq,QOd.eq]at *
 exact EV (neg:=neg) (hop:=hop) (hu:=hu) (hi:=hi) (ho:=ho) (hm:=hm)
theorem sR{X:Cx}{o:Expr}{es:List Expr}{to:TEd}{t:TAd}{pos:Pos}(neg:Bool) {x1}{p:Pos}{op:CmpOp}(hop:op=(if neg then .NotIn else .In)) (hu:X.A.units+1<cLine) (ht:QAd X es t) (ho:QEd X o to) (hm:behindInMarks op o=false):QTd X (.Compare (.Tuple es x1 p) [op] [o] pos) (jv (v9 neg t to)):=by
 simp only[QEd.eq,QAd.eq,QTd.eq,QWd.eq,QSd.eq,QSs.eq,QId.eq,QIf.eq,QOd.eq]at *
 exact Fk (neg:=neg) (hop:=hop) (hu:=hu) (ht:=ht) (ho:=ho) (hm:=hm)
theorem tZ{X:Cx}{e:Expr}{o:Expr}{i:Expr}{te:TEd}{to:TEd}{ti:TEd}{pos:Pos}{p:Pos}(hu:X.A.units+1<cLine) (ho:QEd X o to) (hi:QEd X i ti) (he:QEd X e te) (hs:swapsWith e (some (.Subscript o i p)) pos.line X.env=pure false:=by rfl):QSd X (.Assign [.Subscript o i p] e pos) (qK to ti te):=by
 simp only[QEd.eq,QAd.eq,QTd.eq,QWd.eq,QSd.eq,QSs.eq,QId.eq,QIf.eq,QOd.eq]at *
 exact EU (hu:=hu) (ho:=ho) (hi:=hi) (he:=he) (hs:=hs)
theorem sQ{X:Cx}{e:Expr}{o:Expr}{es:List Expr}{te:TEd}{to:TEd}{t:TAd}{pos:Pos}{x1}{p p2:Pos}(hu:X.A.units+1<cLine) (ho:QEd X o to) (ht:QAd X es t) (he:QEd X e te) (hs:swapsWith e (some (.Subscript o (.Tuple es x1 p2) p)) pos.line X.env=pure false:=by rfl):QSd X (.Assign [.Subscript o (.Tuple es x1 p2) p] e pos) (zw to t te):=by
 simp only[QEd.eq,QAd.eq,QTd.eq,QWd.eq,QSd.eq,QSs.eq,QId.eq,QIf.eq,QOd.eq]at *
 exact Fc (hu:=hu) (ho:=ho) (ht:=ht) (he:=he) (hs:=hs)
theorem AQ{X:Cx}{e:Expr}{o:Expr}{es:List Expr}{te:TEd}{to:TEd}{t:TAd}{x1}{p aW aG:Pos}(hu:X.A.units+1<cLine) (ho:QEd X o to) (ht:QAd X es t) (he:QEd X e te) (m:M2 X o "get" aW (.Tuple es x1 p) e aG):QEd X (.Call (.Attribute o "get" aW) [.Tuple es x1 p,e] [] aG) (tI to t te):=by
 simp only[QEd.eq,QAd.eq,QTd.eq,QWd.eq,QSd.eq,QSs.eq,QId.eq,QIf.eq,QOd.eq]at *
 exact B1 (hu:=hu) (ho:=ho) (ht:=ht) (he:=he) (m:=m)
theorem GJ{X:Cx}{e:Expr}{o:Expr}{te:TEd}{to:TEd}{aW aG:Pos}(ho:QEd X o to) (he:QEd X e te) (bG:attributeBase o "extend" X.env (eval o X.env)=eval o X.env:=by rfl)
  (hse:starEach [e] X.env=(false,eval e X.env)::starEach [] X.env:=by rfl)
  (dR:((backTo aG (starEach [e] X.env)).all (fun x => !x.1) && (backToKw aG (keywordEach [] X.env)).all (fun x => x.1.isSome)
  &&decide ([e].length+([]:List Keyword).length+(if([]:List Keyword).isEmpty then 0 else 1)<30))=true:=by rfl)
  (bE:(aW.endLine==aG.line)=true:=by rfl) (bZ:(backTo aG (starEach [] X.env)).any (·.1)=false:=by rfl):QEd X (.Call (.Attribute o "extend" aW) [e] [] aG) (Ej to te):=by
 simp only[QEd.eq,QAd.eq,QTd.eq,QWd.eq,QSd.eq,QSs.eq,QId.eq,QIf.eq,QOd.eq]at *
 exact F8 (ho:=ho) (he:=he) (bG:=bG) (hse:=hse) (dR:=dR) (bE:=bE) (bZ:=bZ)
theorem pZ{X:Cx}{a:Expr}{b:Expr}{c:Expr}{pos:Pos}{tg:Expr}{ta:TAd}{p:Pos}(hg:Gl X "range") (hm:X.mg "range"=none) (ha:QAd X [a,b,c] ta) (hs:starEach [a,b,c] X.env=[(false,eval a X.env),(false,eval b X.env),(false,eval c X.env)]:=by rfl)
  (hs2:starEach [b,c] X.env=[(false,eval b X.env),(false,eval c X.env)]:=by rfl):QId X tg (.Call (.Name "range" p) [a,b,c] [] pos) (sZ ta):=by
 simp only[QEd.eq,QAd.eq,QTd.eq,QWd.eq,QSd.eq,QSs.eq,QId.eq,QIf.eq,QOd.eq]at *
 exact Dr (hg:=hg) (hm:=hm) (ha:=ha) (hs:=hs) (hs2:=hs2)
theorem Gw{X:Cx}{tg:Expr}{iter:Expr}{elt:Expr}{pos:Pos}{scope:Scope}{cl:List (Str×Addr)}{ms:List Bool}{ah:List Str}{ifs:List Expr}{wi:TId}{g:GD}{tc:TTd}{te:TEd}(S:b7 X scope cl ms ah) (bt:X.calm=true) (hi:QId X tg iter wi) (hg:Fv X scope cl ah tg g)
  (hif:b7 X scope cl ms ah->∀C s H ex,QIf (cxC X scope cl (X.N++ah) C s H ex) ifs tc) (he:b7 X scope cl ms ah->∀C s H ex,QEd (cxC X scope cl (X.N++ah) C s H ex) elt te)
  (hs:∀x,foldedSetIterable iter X.env x=pure x:=by intro _;rfl):QEd X (.ListComp elt [⟨tg,iter,ifs,0⟩] scope pos) (dLc ms ah.length wi g tc te):=by
 simp only[QEd.eq,QAd.eq,QTd.eq,QWd.eq,QSd.eq,QSs.eq,QId.eq,QIf.eq,QOd.eq]at *
 exact GY (S:=S) (bt:=bt) (hi:=hi) (hg:=hg) (hif:=hif) (he:=he) (hs:=hs)
theorem Gj{X:Cx}{tg:Expr}{l:Expr}{te:TEd}(he:QEd X l te):QId X tg l (E8 te):=by
 simp only[QEd.eq,QAd.eq,QTd.eq,QWd.eq,QSd.eq,QSs.eq,QId.eq,QIf.eq,QOd.eq]at *
 exact HP (he:=he)
theorem cA.units1{k:Nat}{A:Around}(r:cA k A):A.units+1<cLine:=by have:=r.un;omega
theorem GP{i:Int}{P:Key->Prop}:(∃k,D.int i=kD k/\P k)↔P (.inl i) :=
 ⟨fun⟨k,e,h⟩=>match k,e with|.inl _,rfl=>h,fun h=>⟨_,rfl,h⟩⟩
theorem Hz{x:Str}{P:Key->Prop}:(∃k,D.str x=kD k/\P k)↔P (.inr x) :=
 ⟨fun⟨k,e,h⟩=>match k,e with|.inr _,rfl=>h,fun h=>⟨_,rfl,h⟩⟩
theorem Dn:∀{a b:Key},kD a=kD b->a=b
 |.inl _,.inl _,h=>by cases h;rfl
 |.inr _,.inr _,h=>by cases h;rfl
 |.inl _,.inr _,h=>by cases h
 |.inr _,.inl _,h=>by cases h
theorem vj:∀{a b:List Key},a.map kD=b.map kD->a=b
 |[],[],_=>rfl
 |[],_::_,h=>by cases h
 |_::_,[],h=>by cases h
 |x::xs,y::ys,h=>by
  simp only[List.map_cons,List.cons.injEq]at h
  rw[Dn h.1,vj h.2]
theorem Cq{a b:Key}{P:List Key->Prop}:(∃ks:List Key,[kD a,kD b]=ks.map kD/\P ks)↔P [a,b] :=
 ⟨fun⟨ks,e,h⟩=>by rw[vj (a:=[a,b]) (b:=ks) (by simpa using e)];exact h,fun h=>⟨_,rfl,h⟩⟩
theorem DM{i j:Int}{P:List Key->Prop}:(∃ks:List Key,[D.int i,D.int j]=ks.map kD/\P ks)↔P [.inl i,.inl j]:=Cq (a:=.inl i) (b:=.inl j)
theorem Fj{i j:Str}{P:List Key->Prop}:(∃ks:List Key,[D.str i,D.str j]=ks.map kD/\P ks)↔P [.inr i,.inr j]:=Cq (a:=.inr i) (b:=.inr j)
theorem B6{i j:Int}:wf [.int i,.int j]=some (.int (if j<i then j else i)):=rfl
/-! ### a dict of ours that stands still while an expression is worked out,and is ours again behind it -/
/-! ### [e for k in d],d a dict of ours that e reads and that stays ours -/
/-! ### comprehensions of two clauses -/
theorem thF{α:Type}{t:Sem α}{Q Q':α->Shared->Prop}{M:Model}{A:Around}{E:Value->Shared->Prop}{s:Shared}(hE:E=fun _ _=>False) (h:wpAny M A t Q E s) (hQ:∀a s,Q a s->Q' a s):wpAny M A t Q' (fun _ _=>False) s:=wpAny_mono h hQ fun e s x=>by rw[hE]at x;exact x
/-! ### comprehensions of two clauses,in deep data -/
/-! ### the rest of a block,kept shut -/
@[irreducible] def BI(t:TSd):TSd:=t
theorem vk{t:TSd}:BI t=t:=by unfold BI;rfl
theorem aY{t:TSd}{E:iG}{Δ:DE}{M:DH}(h:t E Δ M):BI t E Δ M:=by rw[vk];exact h
theorem cg{X:Cx}{st:List Stmt}{t:TSd}(h:QSs X st t):QSs X st (BI t):=by rw[vk];exact h
/-! ### the head with the whole heap of the top -/
theorem zR{K:Params->PySem.W.Frag}{as:List Addr}{n t:Nat}{q:Program}{loose:List Str}{XP:(Str->Option Value)->Heap->Prop}{r:PySem.W.RowW}{d:DefRec}{kwd:List (Str×Expr)}{run:Value->List Value->Sem Value}(hk:∀P,as=(K P).map (·.1))
  (h:PySem.W.WalkO q loose XP (fun w h=>(K w.params).In h) r d kwd run):PySem.W.WalkX q loose XP (PySem.W.X.obsZ as) (PySem.W.X.valZ K n t) r d kwd run:=by
 intro w s₀ s₁ mg mb G y a o pm cd doc dV kV ho hd hcd hD hmg hg args vals as' L hpre hlay hrd hwl hlo
 refine h w s₀ s₁ mg mb G (fun b u hu=>L.keeps b u ?_) a o pm cd doc dV kV ho hd hcd hD hmg hg args vals as' hpre hlay hrd hwl hlo
 have y1:as.map s₀.heap.get?=(K w.params).map fun p=>some p.2:=congrArg (·.1) y
 rw[hk w.params,List.map_map]at y1
 have key:∀(l:PySem.W.Frag),(l.map fun p=>s₀.heap.get? p.1)=l.map (fun p=>some p.2)->List.lookup b l=some u->s₀.heap.get? b=some u:=by
  intro l
  induction l with
  |nil=>intro _ z;cases z
  |cons p l ih =>
   intro e z
   rw[List.map_cons,List.map_cons,List.cons.injEq]at e
   rw[List.lookup_cons]at z
   by_cases c:b=p.1
   ·subst c
    rw[beq_self_eq_true]at z
    cases z
    exact e.1
   ·rw[beq_eq_false_iff_ne.mpr c]at z
    exact ih e.2 z
 exact key _ y1 hu
end L2
namespace L2
open PySem PySem.W PySem.Calls PyProof.Rows
/-! ### sorted of a list or a tuple: ints,pairs of ints -/
end L2
namespace L2
open PySem PySem.Spec PyProof.Rows
/-! ### list(range(n)) -/
/-! ### a<b<c<d -/
section
variable{X:Cx}
/-! ### x is True -/
end
/-! ### d.items(),the keys tuples -/
theorem ng{prog:Program}{w:World}{A:Around}{E:Value->Shared->Prop}{s:Shared}{it d:Addr}{i ep:Nat}{es:Array DictEntry}{od:Obj}{ok ov:Value}{Q:Option Value->Shared->Prop}
  (hit:IsItemIter s.heap it d i es.size ep ok ov) (hod:s.heap.get? d=some od) (hdd:od.data=.dict es ep) (hlt:i<es.size)
  (hQ:∀ h':Heap,IsItemIterOut h' it d (i + 1) es.size ep es[i].key es[i].val s.heap.objs.size → h'.get? s.heap.objs.size = some { cls:=Value.type "tuple",data:=Data.seq #[es[i].key,es[i].val] } → h'.objs.size = s.heap.objs.size + 1 →
   (∀b o,b≠it->s.heap.get? b=some o->h'.get? b=some o)->Q (some (Value.ref s.heap.objs.size)) { s with heap:=h' }):wpAny (model prog w) A (pyNext (Value.ref it)) Q E s:=by
 obtain⟨hp,g,dr,tk,os⟩:=s
 dsimp only at hit hod hQ
 have hT:Shared.TypeIs { heap:=hp,gens:=g,drawn:=dr,toks:=tk,os:=os } (Value.ref it) "dict_itemiterator":=⟨_,hit,rfl⟩
 refine wpAny_bind (wpAny_attempt (wpAny_callSpecial?_slot hT F.slot_dict_itemiterator_next (wpAny_call_entry F.slot_dict_itemiterator_next hT F.entry_dict_itemiterator_next ?_)))
 refine wpAny_bind (wpAny_pure (wpAny_bind (wpAny_bind (wpAny_bind (wpAny_typeNameOfWhole_itemiter hT (wpAny_pure (wpAny_bind (wpAny_fieldsOf hit rfl ?_))))))))
 have hown:Builtin.Dict_items.ownsTuple "dict_itemiterator"=true:=by decide
 simp only[hown,if_true,List.drop_succ_cons,List.drop_zero,List.take_succ_cons,List.take_zero]
 refine wpAny_ite_false (Eq.refl (decide ((Value.ref d==Value.none)=true))) ?_
 refine wpAny_bind (wpAny_pure (wpAny_bind (wpAny_dictEntries hod hdd ?_)))
 refine wpAny_ite_false (by simp) ?_
 refine wpAny_bind (wpAny_pure (wpAny_bind (wpAny_dictEpoch hod hdd ?_)))
 refine wpAny_ite_false (by simp) (wpAny_pure ?_)
 have e1:(if((i:Nat):Int)<0 then none else es[((i:Nat):Int).toNat]?)=some es[i]:=by
  rw[if_neg (by omega),Int.toNat_natCast,Array.getElem?_eq_getElem hlt]
 simp only[e1]
 refine wpAny_bind (wpAny_bind (wpAny_typeNameOfWhole_itemiter hT (wpAny_pure (wpAny_bind (wpAny_isOneOf_itemiter hT ?_)))))
 refine wpAny_bind ?_
 refine wpAny_setField_rec (k:=3) (x:=Value.int ((i:Int)+1) 0) hit (by simp) fun h₁ he₁ hs₁=>?_
 have he₁:IsItemIter h₁ it d (i+1) es.size ep ok ov:=by
  show h₁.get? it=_
  rw[he₁];simp
 have hT₁:Shared.TypeIs { heap:=h₁,gens:=g,drawn:=dr,toks:=tk,os:=os } (Value.ref it) "dict_itemiterator":=⟨_,he₁,rfl⟩
 refine wpAny_bind (wpAny_holding ?_)
 refine wpAny_bind (wpAny_isOneOf_itemiter hT₁ ?_)
 refine wpAny_bind (wpAny_isOneOf_itemiter hT₁ ?_)
 refine wpAny_bind (wpAny_newTuple ?_)
 dsimp only
 have hz₁:h₁.objs.size=hp.objs.size:=hs₁.1
 have kp₁:∀b o,b≠it->hp.get? b=some o->h₁.get? b=some o:=fun b o hb e=>hs₁.extBut b o hb e
 have he₂:IsItemIter (h₁.push { cls:=Value.type "tuple",data:=Data.seq #[es[i].key,es[i].val] }) it d (i+1) es.size ep ok ov:=Heap.get?_push_of_some _ he₁
 have ht₂:(h₁.push { cls:=Value.type "tuple",data:=Data.seq #[es[i].key,es[i].val] }).get? h₁.objs.size=some { cls:=Value.type "tuple",data:=Data.seq #[es[i].key,es[i].val] }:=Heap.get?_push_size _ rfl
 have kp₂:∀b o,b≠it->hp.get? b=some o->(h₁.push { cls:=Value.type "tuple",data:=Data.seq #[es[i].key,es[i].val] }).get? b=some o:=fun b o hb e=>Heap.get?_push_of_some _ (kp₁ b o hb e)
 have hz₂:(h₁.push { cls:=Value.type "tuple",data:=Data.seq #[es[i].key,es[i].val] }).objs.size=hp.objs.size+1:=by rw[Heap.size_push,hz₁]
 rw[hz₁]at ht₂ ⊢
 generalize h₁.push { cls:=Value.type "tuple",data:=Data.seq #[es[i].key,es[i].val] }=h₂ at *
 have hne:hp.objs.size≠it:=fun z=>by
  have h0:it<hp.objs.size:=Heap.lt_size hit
  rw[z]at h0
  exact Nat.lt_irrefl _ h0
 refine wpAny_bind ?_
 refine wpAny_bind (wpAny_field he₂ rfl rfl (wpAny_pure ?_))
 refine wpAny_ite_true (Eq.refl (decide (true=true))) ?_
 refine wpAny_bind (wpAny_field he₂ rfl rfl (wpAny_bind (wpAny_field he₂ rfl rfl ?_)))
 refine wpAny_bind (wpAny_setField_rec he₂ (by simp) fun h₃ he₃ hs₃=>?_)
 refine wpAny_bind (wpAny_setField_rec he₃ (by simp) fun h₄ he₄ hs₄=>?_)
 refine wpAny_bind (wpAny_setField_rec he₄ (by simp) fun h₅ he₅ hs₅=>?_)
 refine wpAny_bind (wpAny_setField_rec he₅ (by simp) fun h₆ he₆ hs₆=>?_)
 refine wpAny_bind (wpAny_letGo (wpAny_pure (wpAny_pure ⟨_,rfl,wpAny_pure ?_⟩)))
 refine hQ h₆ ?_ ?_ ?_ fun b o hb e=>?_
 ·show h₆.get? it=_
  rw[he₆];simp
 ·exact hs₆.extBut _ _ hne (hs₅.extBut _ _ hne (hs₄.extBut _ _ hne (hs₃.extBut _ _ hne ht₂)))
 ·have e1:=hs₃.1;have e2:=hs₄.1;have e3:=hs₅.1;have e4:=hs₆.1
  dsimp only at e1 e2 e3 e4
  omega
 ·exact hs₆.extBut _ _ hb (hs₅.extBut _ _ hb (hs₄.extBut _ _ hb (hs₃.extBut _ _ hb (kp₂ b o hb e))))
theorem ic{prog:Program}{w:World}{A:Around}{E:Value->Shared->Prop}{s:Shared}{it d:Addr}{i ep:Nat}{es:Array DictEntry}{od:Obj}{ok ov:Value}{Q:Option Value->Shared->Prop}
  (hA:A.handled=none) (hit:IsItemIter s.heap it d i es.size ep ok ov) (hod:s.heap.get? d=some od) (hdd:od.data=.dict es ep) (hlt:es.size<=i)
  (hQ:∀h':Heap,Heap.ExtBut it s.heap h'->Q none { s with heap:=h' }):wpAny (model prog w) A (pyNext (Value.ref it)) Q E s:=by
 obtain⟨hp,g,dr,tk,os⟩:=s
 dsimp only at hit hod hQ
 have hT:Shared.TypeIs { heap:=hp,gens:=g,drawn:=dr,toks:=tk,os:=os } (Value.ref it) "dict_itemiterator":=⟨_,hit,rfl⟩
 refine wpAny_bind (wpAny_attempt (wpAny_callSpecial?_slot hT F.slot_dict_itemiterator_next (wpAny_call_entry F.slot_dict_itemiterator_next hT F.entry_dict_itemiterator_next ?_)))
 refine wpAny_bind (wpAny_pure (wpAny_bind (wpAny_bind (wpAny_bind (wpAny_typeNameOfWhole_itemiter hT (wpAny_pure (wpAny_bind (wpAny_fieldsOf hit rfl ?_))))))))
 have hown:Builtin.Dict_items.ownsTuple "dict_itemiterator"=true:=by decide
 simp only[hown,if_true,List.drop_succ_cons,List.drop_zero,List.take_succ_cons,List.take_zero]
 refine wpAny_ite_false (Eq.refl (decide ((Value.ref d==Value.none)=true))) ?_
 refine wpAny_bind (wpAny_pure (wpAny_bind (wpAny_dictEntries hod hdd ?_)))
 refine wpAny_ite_false (by simp) ?_
 refine wpAny_bind (wpAny_pure (wpAny_bind (wpAny_dictEpoch hod hdd ?_)))
 refine wpAny_ite_false (by simp) (wpAny_pure ?_)
 have e1:(if((i:Nat):Int)<0 then none else es[((i:Nat):Int).toNat]?)=none:=by
  rw[if_neg (by omega),Int.toNat_natCast,Array.getElem?_eq_none hlt]
 simp only[e1]
 refine wpAny_bind (wpAny_bind (wpAny_typeNameOfWhole_itemiter hT (wpAny_pure ?_)))
 refine wpAny_bind (wpAny_setField hit rfl (by simp[hown]) ?_)
 dsimp only
 have kp:Heap.ExtBut it hp (hp.update it (Obj.mapFields fun x=>x.setIfInBounds (if Builtin.Dict_items.ownsTuple "dict_itemiterator"=true then 2 else 0) Value.none)):=(Heap.SameBut.update hp it _).extBut
 generalize hp.update it (Obj.mapFields fun x=>x.setIfInBounds (if Builtin.Dict_items.ownsTuple "dict_itemiterator"=true then 2 else 0) Value.none)=h1 at kp
 refine wpAny_bind ?_
 unfold newExc
 refine wpAny_bind (wpAny_newObj_type ?_ (show(#[]:Array Value).size<=_ by simp))
 refine wpAny_bind (wpAny_of_eq (Eq.refl (firstArgMember (Value.type "StopIteration") [])) ?_)
 refine wpAny_newObj_type ?_ (sizeOk_excFields _ _ _ _ _ _ _ _)
 refine wpAny_raiseNew_none hA ?_
 refine wpAny_bind (wpAny_isInstance (T:="StopIteration") (b:=true) ⟨_,Heap.get?_push_size _ rfl,rfl⟩ rfl ?_)
 refine wpAny_ite_true (Eq.refl (decide (true=true))) (wpAny_pure ?_)
 exact hQ _ ((kp.push _).push _)
theorem mM{prog:Program}{w:World}{A:Around}{E:Value->Shared->Prop}{s:Shared}{d:Addr}{od:Obj}{es:Array DictEntry}{ep:Nat}{Q:Value->Shared->Prop}
  (hs:(d==sysModules)=false) (hod:s.heap.get? d=some od) (hx:od.ExactDict) (hdd:od.data=.dict es ep) 
  (hQ:Q (.ref s.heap.objs.size) { s with heap:=s.heap.push { cls:=.type "dict_items",data:=.fields #[.ref d] } }):wpAny (model prog w) A (call (.builtin "dict.items") [.ref d]) Q E s:=by
 have hT:s.TypeIs (.ref d) "dict":=⟨_,hod,hx.1⟩
 refine wpAny_call_entry F.slot_dict_items hT F.entry_dict_items ?_ (F.args_dict_items_1 _)
 refine wpAny_bind ?_
 show wpAny _ _ (Bind.bind _ _) _ _ _
 refine wpAny_bind (wpAny_notOrdered_dict hT ?_)
 refine wpAny_pure ?_
 show wpAny _ _ (do Builtin.Dict.showsAll d;let __do_lift <-newFields "dict_items" [Value.ref d];ret __do_lift) _ _ _
 refine wpAny_bind (wpAny_ite_false (by simp[hs]) (wpAny_pure ?_))
 exact wpAny_bind (wpAny_newObj_type (wpAny_pure ⟨_,rfl,hQ⟩) (show(#[Value.ref d]:Array Value).size<=_ by simp))
theorem mF{prog:Program}{w:World}{A:Around}{E:Value->Shared->Prop}{s:Shared}{v d:Addr}{od:Obj}{es:Array DictEntry}{ep:Nat}{Q:Value->Shared->Prop}
  (hv:s.heap.IsItemsView v d) (hod:s.heap.get? d=some od) (hdd:od.data=.dict es ep)
  (hQ:∀h',IsItemIter h' s.heap.objs.size d 0 es.size ep .none .none->(∀b o,s.heap.get? b=some o->h'.get? b=some o)->Q (.ref s.heap.objs.size) { s with heap:=h' }):wpAny (model prog w) A (pyIter (.ref v)) Q E s:=by
 obtain⟨ov,hov,hcv,hdv⟩:=id hv
 refine wpAny_pyIter_slot hv.typeIs F.slot_dict_items_iter (wpAny_call_entry F.slot_dict_items_iter hv.typeIs F.entry_dict_items_iter ?_ (F.args_dict_items_iter_1 _))
 refine wpAny_bind (wpAny_pure (wpAny_bind ?_))
 show wpAny _ _ (Bind.bind _ _) _ _ _
 refine wpAny_bind (wpAny_field hov hdv rfl (wpAny_pure (wpAny_bind ?_)))
 show wpAny _ _ (Bind.bind _ _) _ _ _
 refine wpAny_bind (wpAny_dictEntries hod hdd (wpAny_bind (wpAny_dictEpoch hod hdd ?_)))
 have hown:Builtin.Dict_items.ownsTuple "dict_itemiterator"=true:=by decide
 simp only[hown,if_true]
 refine wpAny_newObj_type (wpAny_pure ⟨_,rfl,"dict_itemiterator",_,⟨_,Heap.get?_push_size _ rfl,rfl⟩,F.slot_dict_itemiterator_next.lookup,?_⟩) (show Array.size _<=_ by simp[Builtin.Dict_items.ownedTupleFields];exact Nat.le_of_lt (wD (by decide)))
 exact hQ _ (Heap.get?_push_size _ rfl) fun b o e=>Heap.get?_push_of_some _ e
def FF(a:Addr) (o:Obj) (ks:List (List Key×V)):It :=
 ⟨fun i H=>H a=some (.frz o (.dT ks))/\i<ks.length,fun i H x H'=>∃T q k v,x=.ref T/\H T=none/\ks[i]?=some (k,v)/\H q=some (.tup (k.map kV))/\H'=upd H T (.tup [.ref q,v]),fun i H=>H a=some (.frz o (.dT ks))/\ks.length<=i⟩
section
variable{X:Cx}{ae:List (Addr×Obj)}{σ:St}{H:Hp}{s:Shared}{a:Addr}{o:Obj}{ks:List (List Key×V)}
theorem Inv.freezeT(I:Inv X ae σ H s) (e:H a=some (.dT ks)):∃o,s.heap.get? a=some o/\Inv X ae σ (upd H a (.frz o (.dT ks))) s:=by
 have q:=I.hok a _ e
 obtain⟨_,_,_,_,o,_,_,he,_⟩:=id q
 refine⟨o,he,?_⟩
 have ne:∀{b},H b≠some (.dT ks)->b≠a:=fun {b} z w=>z (by rw[w];exact e)
 have:=I.write (x:=a) (e:=a) (o:=.frz o (.dT ks)) (h':=s.heap) (t':=s.toks) (by rw[e];exact True.intro) (.inl rfl) (fun b u _ q=>q) ⟨o,he⟩ ⟨he,q.stay (fun c v _ r=>r) (fun c r=>by rw[aI (ne (by rw[r];intro z;cases z))];exact r) fun c xs r=>by rw[aI (ne (by rw[r];intro z;cases z))];exact r⟩
 exact this
theorem rC{ep:Nat}{es:Array DictEntry}(I:Inv X ae σ H s) (e:H a=some (.frz o (.dT ks))) (hd:o.data=.dict es ep):s.heap.get? a=some o/\∃xs:List (List Key×Addr×Value),Paired (fun(p:List Key×V) (q:List Key×Addr×Value)=>p.1=q.1/\H q.2.1=some (.tup (p.1.map kV))/\aD p.2 q.2.2) ks xs/\es.toList=xs.map (entryOfKey (tupleKind (aO X.prog X.w))):=by
 obtain⟨q,hz,hs,xs,rel,o',es',ep',q',c,d',r,_⟩:=I.hok a _ e
 rw[q]at q';cases q'
 rw[hd]at d'
 cases d'
 exact⟨q,xs,rel,r⟩
theorem dU{α β:Type}{F:α->β->Prop}:∀{l₁:List α}{l₂:List β},Paired F l₁ l₂->∀(i:Nat) (x:α),l₁[i]?=some x->∃y,l₂[i]?=some y/\F x y
 |_,_,.cons r _,0,x,h=>by cases h;exact⟨_,rfl,r⟩
 |_,_,.cons _ t,i+1,x,h=>dU t i x h
theorem mL:entryFor table "dict_itemiterator.__iter__"=some Builtin.«dict_keyiterator.__iter__»:=by kernel_rfl
theorem nQ{prog:Program}{w:World}{A:Around}{E:Value->Shared->Prop}{s:Shared}{it d:Addr}{i n ep:Nat}{ok ov:Value}{Q:Value->Shared->Prop}(q:IsItemIter s.heap it d i n ep ok ov) (h:Q (.ref it) s):wpAny (model prog w) A (pyIter (.ref it)) Q E s :=
 wpAny_pyIter_slot (T:="dict_itemiterator") ⟨_,q,rfl⟩ PySem.F.slot_dict_itemiterator_iter (wpAny_call_entry PySem.F.slot_dict_itemiterator_iter ⟨_,q,rfl⟩ mL (show wpAny _ _ (pure _) _ _ _ from wpAny_pure ⟨_,rfl,"dict_itemiterator",_,⟨_,q,rfl⟩,PySem.F.slot_dict_itemiterator_next.lookup,h⟩) (PySem.F.args_dict_itemiterator_iter_1 _))
theorem tf{P:Program}{w:World}{K:PySem.W.Frag}{elts:List Expr}{x1:Nat}{pt:Pos}(it:Addr) {ep:Nat}{es:Array DictEntry}(hd:o.data=.dict es ep) (hl:es.size=ks.length):gK P w K (.Tuple elts x1 pt) (FF a o ks) [it] it (fun i h=>∃ok ov,IsItemIter h it a i es.size ep ok ov) where
 mem:=by simp
 obj:=fun i h st b hb=>by
  have e:b=it:=by simpa using hb
  subst e
  obtain⟨ok,ov,q⟩:=st
  exact⟨_,q,fun v z=>by cases z⟩
 keep:=fun i h h' ⟨ok,ov,q⟩ k=>⟨ok,ov,k it (by simp) _ q⟩
 item:=by
  intro X hP hw hK hc i ae s σ H E I hf st hg
  subst hP hw hK
  obtain⟨e,hi⟩:=hg
  obtain⟨hget,xs,rel,hes⟩:=rC I e hd
  obtain⟨ok,ov,hit⟩:=st
  obtain⟨⟨k,v⟩,hkv⟩:∃p,ks[i]?=some p:=⟨ks[i],by simp[hi]⟩
  obtain⟨⟨k',q,u⟩,hx,rk,hq,ru⟩:=dU rel i _ hkv
  have hlt:i<es.size:=by omega
  have hei:es[i]=entryOfKey (tupleKind (aO X.prog X.w)) (k',q,u):=by
   have h1:es.toList[i]?=some es[i]:=by simp[hlt]
   rw[hes,List.getElem?_map,hx]at h1
   exact(Option.some.inj h1).symm
  have hek:es[i].key=.ref q:=by rw[hei];rfl
  have hev:es[i].val=u:=by rw[hei];rfl
  refine ng hit hget hd hlt fun h1 hout hT hsz keep=>⟨_,rfl,?_⟩
  rw[hek,hev]at hout hT
  have fe:=hf it (by simp)
  have In:H s.heap.objs.size=none:=I.hok.fresh (Nat.le_refl _)
  have eT:it<s.heap.objs.size:=Heap.lt_size hit
  have I1:Inv X ae σ (upd H s.heap.objs.size (.tup [.ref q,v])) { s with heap:=s.heap.push { cls:=.type "tuple",data:=.seq #[.ref q,u] } } :=
   I.laid (t':=s.toks) (fun b o q=>Heap.get?_push_of_some _ q) (Nat.le_refl _) ⟨by simp only[List.length_cons,List.length_nil];rw[sizeLine_eq];decide,[.ref q,u],.cons rfl (.cons ru .nil),⟨_,Heap.get?_push_size s.heap rfl,rfl,⟨0,rfl⟩,rfl⟩⟩
  have fe1:cJ X ae (upd H s.heap.objs.size (.tup [.ref q,v])) it:=fe.upd (Nat.ne_of_lt eT)
  obtain⟨g0,g1,g2,g3,g4,g5⟩:=fe1
  have I2:=I1.turned (t':=s.toks) (h':=h1) (it:=it) (fun b o hb q=>by
   rcases Heap.get?_push_cases q with z|z
   ·rw[z.1,z.2];exact hT
   ·exact keep b o hb z) g0 g1 g3 g4 g5
  refine wpAny_letOwnedTupleGo_items hout fun h2 he2 hs2=>?_
  have I3:=I2.turned (t':=s.toks) (h':=h2) (it:=it) (fun b o hb q=>(hs2.2 b hb).trans q) g0 g1 g3 g4 g5
  refine⟨.ref s.heap.objs.size,_,I3,rfl,⟨_,q,k,v,rfl,In,hkv,hq,rfl⟩,⟨_,_,he2⟩,fun b hb=>?_⟩
  rw[show b=it by simpa using hb];exact g0
 done:=by
  intro X hP hw hK hc i ae s σ H E I hf st hg
  subst hP hw hK
  obtain⟨e,hi⟩:=hg
  obtain⟨hget,xs,rel,hes⟩:=rC I e hd
  obtain⟨ok,ov,hit⟩:=st
  obtain⟨f0,f1,f2,f3,f4,f5⟩:=hf it (by simp)
  exact ic (I.ok.hd hc) hit hget hd (by omega) fun h' eb=>⟨rfl,I.turned (t':=s.toks) (fun b o hb q=>eb b o hb q) f0 f1 f3 f4 f5⟩
 self:=fun A i s Q E ⟨ok,ov,q⟩ h=>nQ q h
end
section
variable{X:Cx}{l:Expr}{tl:TE}{te:TEd}{elts:List Expr}{x1:Nat}{pt aW aG:Pos}
theorem qu{K:PySem.W.Frag}{M:DH}{H:Hp}:∀ks:List Key,aq K M H (ks.map kD) (ks.map kV)
 |[]=>aq.nil
 |k::ks=>aq.cons fN (qu ks)
end
section
variable{X:Cx}
/-! ### x in xs,the things of any depth -/
def inF(x y:D):Option D:=match y with
 |.lst ds=>if dLe x 59=true/\cx ds 59=true then some (.bl (ds.any fun d=>eqD d x))else none
 |_=>none
theorem GO{x:D}{ds:List D}:inF x (.lst ds)=if dLe x 59=true/\cx ds 59=true then some (.bl (ds.any fun d=>eqD d x))else none:=rfl
open Classical in
end
section
variable{X:Cx}{a b e:Expr}{ta tb te:TEd}{pos:Pos}
def yn(ta tb:TEd):TEd:=fun Δ M Q=>ta Δ M fun x M1=>tb Δ M1 fun y M2=>∃xs n,rdM M2 x=.lst xs/\y=.int n/\-(2 ^ 63)<=n/\n<2 ^ 63/\xs.length*n.toNat<=sizeLine/\∀p,M2 p=none->Q (.ref p) (aw M2 p (.lst (List.replicate n.toNat xs).flatten))
theorem Ez(ha:PEd X a ta) (hb:PEd X b tb):PEd X (.BinOp a .Mult b pos) (yn ta tb) :=
 (Cw zl ha hb).conv fun σ H Q ⟨Δ,M,R,sr,hr,q,k⟩ => ⟨Δ,M,_,sr,hr,q,fun x M1 v H1 q1 e1 hr1 rv => ⟨Δ,M1,_,sr.ext e1,hr1,q1,fun y M2 u H2 ⟨xs,n,ex,ey,h0,h1,hz,q2⟩ e2 hr2 ru => by
  have r1:=(rv.ext e2).rd hr2
  rw[ex]at r1
  subst ey
  simp only[Rep]at ru
  obtain⟨l1,vs,rfl,hl,l1r⟩:=r1
  exact⟨l1,n,vs,rfl,ru,hl,h0,h1,by rw[<-l1r.length];exact hz,fun p hp=>k _ _ _ _ (q2 p (hr2.fresh hp)) ((e1.trans e2).trans (Ext.own hp)) (hr2.own hp (l1r.rep n.toNat)) (by simp only[Rep])⟩⟩⟩
theorem Ex(ha:QEd X a ta) (hb:QEd X b tb):QEd X (.BinOp a .Mult b pos) (yn ta tb):=by
 simp only[QEd.eq]at *
 exact Ez ha hb
/-! ### xs.index(x),the things of any depth -/
def tE(ds:List D) (x:D):Option Nat:=if dLe x 59=true/\cx ds 59=true/\ds.length<2 ^ 62 then ds.findIdx? (fun d=>eqD d x)else none
theorem yX{ds:List D}{x:D}{j:Nat}(h:tE ds x=some j):dLe x 59=true/\cx ds 59=true/\ds.length<2 ^ 62/\∃hj:j<ds.length,eqD ds[j] x=true/\∀m (hm:m<ds.length),m<j->eqD ds[m] x=false:=by
 unfold tE at h
 by_cases hc:dLe x 59=true/\cx ds 59=true/\ds.length<2 ^ 62
 ·rw[if_pos hc]at h
  obtain⟨hj,h1,h2⟩:=List.findIdx?_eq_some_iff_getElem.mp h
  exact⟨hc.1,hc.2.1,hc.2.2,hj,h1,fun m hm hl=>by have:=h2 m hl;simpa using this⟩
 ·rw[if_neg hc]at h;cases h
section
open PySem.SeqAt PySem.MeetsSeq AutoSeq1
theorem so(l:Addr) (xs:Array Value) (n:Nat) (od:Option Addr) (os:Array (Option Value)) (y:Value) (hit:Nat->Bool) (top:Int) (j:Nat) (lj:j<xs.size) (ltop:(j:Int)<top) (yes:hit j=true) :
  ∀(k i:Nat),j-i=k->i<=j->(∀m,i<=m->m<j->hit m=false)->Meets (Builtin.«list.index.loop» ⟨[.ref l,y,rawInt i,rawInt top],[]⟩)
   (fun B R t=>t.heap.get? l=some { cls:=.type "list",dict:=od,data:=.seq xs n,slots:=os }/\(∀m (h:m<xs.size),EqAt B.in1 t xs[m] y (hit m))/\R (.ok (.ret (.int j t.toks))) { t with toks:=t.toks+1 })
 |0,i,ek,hi,no,prog,w,B,R,t,q=>by
  obtain⟨th,tg,td,tt,to⟩:=t
  obtain⟨ql,qe,qr⟩:=q
  obtain rfl:i=j:=by omega
  wp_walk using wpAny_loadPart' ql
  rw[show(if(i:Int)<top then xs[((i:Nat):Int).toNat]? else none)=some xs[i]by simp[ltop,lj]]
  refine wpAny_bind (qe i lj prog w _ _ ?_)
  rw[yes]
  wp_walk
  exact qr
 |k+1,i,ek,hi,no,prog,w,B,R,t,q=>by
  obtain⟨th,tg,td,tt,to⟩:=t
  obtain⟨ql,qe,qr⟩:=q
  have li:i<xs.size:=by omega
  have lt:(i:Int)<top:=by omega
  wp_walk using wpAny_loadPart' ql
  rw[show(if(i:Int)<top then xs[((i:Nat):Int).toNat]? else none)=some xs[i]by simp[lt,li]]
  refine wpAny_bind (qe i li prog w _ _ ?_)
  rw[no i (Nat.le_refl _) (by omega)]
  wp_walk
  rw[show((i:Int)+1)=((i+1:Nat):Int)by omega]
  refine⟨plainId_quiet plain_index_loop _,codeAny_builtin entry_index_loop ?_⟩
  rw[Around.under_plainId plain_index_loop _]
  exact so l xs n od os y hit top j lj ltop yes k (i+1) (by omega) (by omega) (fun m a b=>no m (by omega) b) prog w B R _ ⟨ql,qe,qr⟩
theorem xD(l:Addr) (xs:Array Value) (n:Nat) (od:Option Addr) (os:Array (Option Value)) (y:Value) (hit:Nat->Bool) (j:Nat) (lj:j<xs.size) (ls:(j:Int)<2 ^ 63-1) (yes:hit j=true) (no:∀m,m<j->hit m=false) :
  Meets (Builtin.«list.index» ⟨[.ref l,y],[]⟩)
   (fun B R t=>t.heap.get? l=some { cls:=.type "list",dict:=od,data:=.seq xs n,slots:=os }/\(∀m (h:m<xs.size),EqAt B.in1 t xs[m] y (hit m))/\R (.ok (.ret (.int j t.toks))) { t with toks:=t.toks+1 }):=by
 intro prog w B R t q
 obtain⟨th,tg,td,tt,to⟩:=t
 obtain⟨ql,qe,qr⟩:=q
 wp_walk using wpAny_loadPart' ql
 rw[show((fun i:Int=>if i<0 then max 0 (i+(xs.size:Int))else i) ((none:Option Int).getD 0))=((0:Nat):Int)by simp,show((fun i:Int=>if i<0 then max 0 (i+(xs.size:Int))else i) ((none:Option Int).getD (2 ^ 63-1)))=2 ^ 63-1 by simp]
 refine⟨plainId_quiet plain_index_loop _,codeAny_builtin entry_index_loop ?_⟩
 rw[Around.under_plainId plain_index_loop _]
 exact so l xs n od os y hit (2 ^ 63-1) j lj ls yes _ 0 rfl (Nat.zero_le _) (fun m _ b=>no m b) prog w B R _ ⟨ql,qe,qr⟩
end
end
section
variable{X:Cx}{o e:Expr}{to te:TEd}{aW aG:Pos}
def rR(ds:List D) (d:D) (m:Nat):Bool:=match ds[m]? with|some x=>eqD x d|none=>false
theorem AD{ae:List (Addr×Obj)}{σ:St}{H:Hp}{s:Shared}{M:DH}{ds:List D}{d:D}{vs:List V}{its:List Value}{y:V}{u:Value}(I:Inv X ae σ H s) (hu:X.A.units+64<cLine) (rl:aq X.K M H ds vs) (r:aA vs its) (r1:aL X.K M H d y) (ry:aD y u) (h1:dLe d 59=true) (h2:cx ds 59=true) :
  ∀m (h:m<its.toArray.size),PySem.SeqAt.EqAt X.A.in1 s its.toArray[m] u (rR ds d m):=fun m h=>by
 have hl:ds.length=its.length:=rl.length.trans r.length
 have h':m<its.length:=by simpa using h
 have h3:m<ds.length:=by omega
 obtain⟨v1,g1,p1⟩:=rl.get (i:=m) (d:=ds[m]) (by simp[h3])
 obtain⟨u1,k1,m1⟩:=r.get g1
 have e1:its.toArray[m]=u1:=by simpa[List.getElem?_eq_getElem h']using k1
 rw[e1,show rR ds d m=eqD ds[m] d by simp[rR,h3]]
 exact(pT I 59 (by show X.A.units+1+59<cLine;omega) (fE h2 (i:=m) (by simp[h3])) h1 p1.r r1 m1 ry).1
theorem xV{ds:List D}{x:D}{j:Nat}(h:tE ds x=some j):dLe x 59=true/\cx ds 59=true/\(j:Int)<2 ^ 63-1/\j<ds.length/\rR ds x j=true/\∀m,m<j->rR ds x m=false:=by
 obtain⟨h1,h2,h3,lj,yes,no⟩:=yX h
 refine⟨h1,h2,by omega,lj,by simp[rR,lj,yes],fun m hm=>?_⟩
 have hm':m<ds.length:=by omega
 simp[rR,hm',no m hm' hm]
theorem Bg(hu:X.A.units+64<cLine):MtR X "list.index" (fun x xs H Q=>∃M ds d y j,xs=[y]/\aL X.K M H (.lst ds) x/\aL X.K M H d y/\tE ds d=some j/\Q (.int j) H):=by
 intro ae s σ H x xs v us Q I rx rv h
 obtain⟨M,ds,d,y,j,rfl,r2,r1,hj,q⟩:=h
 obtain⟨u,rfl,ry⟩:=aA.one rv
 obtain⟨l,vs,rfl,sq,rl⟩:=r2
 cases rx
 obtain⟨its,r,pl,hz⟩:=I.list (SqL.of sq)
 obtain⟨h1,h2,h3,lj,yes,no⟩:=xV hj
 have hl:ds.length=its.length:=rl.length.trans r.length
 obtain⟨⟨c,dd,dt,sl⟩,n,ho,hc,hdd,hdt⟩:=pl
 obtain rfl:c=.type "list":=hc
 obtain rfl:dt=.seq its.toArray n:=hdt
 exact call_meets F.slot_list_index ⟨_,ho,rfl⟩ F.entry_list_index (F.args_list_index_2 _ _) (xD l its.toArray n dd sl u (rR ds d) j (by simp;omega) h3 yes no) ⟨ho,AD I hu rl r r1 ry h1 h2,⟨.int _,H,I.tok _,⟨_,rfl⟩,q⟩⟩
def CQ(to te:TEd):TEd:=fun Δ M Q=>to Δ M fun o M1=>(∃ds,rdM M1 o=.lst ds)/\te Δ M1 fun x M2=>∃ds j,rdM M2 o=.lst ds/\tE ds (rdM M2 x)=some j/\Q (.int j) M2
theorem EC(hu:X.A.units+64<cLine) (ho:QEd X o to) (he:QEd X e te) (bG:attributeBase o "index" X.env (eval o X.env)=eval o X.env:=by rfl)
  (hse:starEach [e] X.env=(false,eval e X.env)::starEach [] X.env:=by rfl)
  (dR:((backTo aG (starEach [e] X.env)).all (fun x => !x.1) && (backToKw aG (keywordEach [] X.env)).all (fun x => x.1.isSome)
  &&decide ([e].length+([]:List Keyword).length+(if([]:List Keyword).isEmpty then 0 else 1)<30))=true:=by rfl)
  (bE:(aW.endLine==aG.line)=true:=by rfl) (bZ:(backTo aG (starEach [] X.env)).any (·.1)=false:=by rfl):QEd X (.Call (.Attribute o "index" aW) [e] [] aG) (CQ to te):=by
 rw[QEd.eq]at *
 refine(qP PySem.F.plainAttrs_list PySem.F.slot_list_index PySem.F.type_list_index (Bg hu) ho (dP he iU hse) bG dR bE hse bZ).conv fun σ H Q hh=>?_
 obtain⟨Δ,M,R,sr,hr,q,k⟩:=hh
 refine⟨Δ,M,_,sr,hr,q,fun o M1 ov H1 ⟨⟨ds0,e0⟩,q1⟩ e1 hr1 ro=>?_⟩
 have r0:=ro.rd hr1
 rw[e0]at r0
 obtain⟨l0,vs0,rfl,hl0,_⟩:=r0
 refine⟨.inl ⟨rfl,vs0,SqL.of hl0⟩,Δ,M1,_,sr.ext e1,hr1,q1,fun d M2 v H2 ⟨ds,j,ed,hj,q2⟩ e2 hr2 rv=>?_⟩
 have r2:=(ro.ext e2).rd hr2
 rw[ed]at r2
 exact⟨M2,ds,_,v,j,rfl,r2,rv.rd hr2,hj,k _ M2 _ H2 q2 (e1.trans e2) hr2 (by simp[Rep])⟩
end
/-! ### zip of two rows,each a list or a tuple -/
def itN:Bool->String
 |true=>"tuple_iterator"
 |false=>"list_iterator"
def sqN:Bool->String
 |true=>"tuple"
 |false=>"list"
def dS(b:Bool) (h:Heap) (i l:Addr) (k:Nat):Prop:=∃o,h.get? i=some o/\o.cls=.type (itN b)/\o.data=.fields #[.ref l,.int k 0]
def eO(b:Bool) (h:Heap) (l:Addr) (xs:Array Value):Prop:=∃o,h.get? l=some o/\o.cls=.type (sqN b)/\∃n,o.data=.seq xs n
section
variable{prog:Program}{w:World}{A:Around}{E:Value->Shared->Prop}{s:Shared}{b c:Bool}
theorem dS.go{h h':Heap}{i l:Addr}{k:Nat}(x:dS b h i l k) (f:∀o,h.get? i=some o->h'.get? i=some o):dS b h' i l k:=let⟨o,e,r⟩:=x;⟨o,f o e,r⟩
theorem eO.go{h h':Heap}{l:Addr}{xs:Array Value}(x:eO b h l xs) (f:∀o,h.get? l=some o->h'.get? l=some o):eO b h' l xs:=let⟨o,e,r⟩:=x;⟨o,f o e,r⟩
theorem i3{it l:Addr}{i:Nat}{xs:Array Value}{x:Value}{Q:Value->Shared->Prop}(p:dS b s.heap it l i) (q:eO b s.heap l xs) (hx:xs[i]?=some x)
  (k:∀h',dS b h' it l (i+1)->Heap.SameBut it s.heap h'->Q x { s with heap:=h' }):wpAny (model prog w) A (Builtin.SmallTypes.nextOf (.ref it)) Q E s:=by
 cases b with
 |true=>exact gr (show s.heap.IsTupleIter it l i from p) (show s.heap.IsTuple l xs from q) hx k
 |false=>exact wpAny_nextOf_list_item (show s.heap.IsListIter it l i from p) (show s.heap.IsList l xs from q) hx k
theorem oM{it l:Addr}{i:Nat}{xs:Array Value}{Q:Value->Shared->Prop}(hh:A.handled=none) (p:dS b s.heap it l i) (q:eO b s.heap l xs) (hx:xs[i]?=none)
  (k:∀h' e,Heap.ExtBut it s.heap h'->(∃o,h'.get? e=some o/\o.cls=.type "StopIteration")->E (.ref e) { s with heap:=h' }):wpAny (model prog w) A (Builtin.SmallTypes.nextOf (.ref it)) Q E s:=by
 cases b with
 |true=>exact gD hh (show s.heap.IsTupleIter it l i from p) (show s.heap.IsTuple l xs from q) hx k
 |false=>exact wpAny_nextOf_list_end hh (show s.heap.IsListIter it l i from p) (show s.heap.IsList l xs from q) hx k
theorem xm{z T U i j l m:Addr}{k:Nat}{xs ys:Array Value}{x y u v:Value}{Q:Value->Shared->Prop}(D:ZipApart z T U i j l m)
  (hz:IsZip s.heap z T U .none) (hT:IsPair s.heap T (.ref i) (.ref j)) (hU:IsPair s.heap U u v) (hi:dS b s.heap i l k) (hj:dS c s.heap j m k) (hl:eO b s.heap l xs) (hm:eO c s.heap m ys) (hx:xs[k]?=some x) (hy:ys[k]?=some y)
  (q:∀ h',IsZip h' z T U (rawInt s.heap.objs.size) → IsPair h' U x y → dS b h' i l (k + 1) → dS c h' j m (k + 1) → IsPair h' s.heap.objs.size x y → h'.objs.size = s.heap.objs.size + 1 →
   (∀d o,d≠z->d≠U->d≠i->d≠j->s.heap.get? d=some o->h'.get? d=some o)->Q (.ref s.heap.objs.size) { s with heap:=h' }) :
  wpAny (model prog w) A (Builtin.«zip.__next__» ⟨[.ref z],[]⟩) (fun fin s'=>∃v,fin=.done (.ret v)/\Q v s') E s:=by
 show wpAny _ _ (field (.ref z) 2 >>= _) _ _ _
 refine wpAny_bind (wpAny_field hz rfl (x:=.bool false) rfl ?_)
 show wpAny _ _ (field (.ref z) 3 >>= _) _ _ _
 refine wpAny_bind (wpAny_field hz rfl (x:=.ref T) rfl (wpAny_bind (wpAny_seqItems hT rfl ?_)))
 show wpAny _ _ (Builtin.SmallTypes.ownedTupleIsFree (.ref z) >>= _) _ _ _
 refine wpAny_bind ?_
 unfold Builtin.SmallTypes.ownedTupleIsFree
 refine wpAny_bind (wpAny_field hz rfl (x:=.none) rfl (wpAny_pure ?_))
 simp only[if_true]
 refine wpAny_bind (wpAny_rule (wpAny_bind (wpAny_field hz rfl (x:=.ref U) rfl ?_)))
 refine wpAny_bind (wpAny_setField_rec hz (by simp) fun g1 z1 s1=>?_)
 replace z1:IsZip g1 z T U .ellipsis:=z1
 refine wpAny_bind ?_
 simp only[List.zipIdx_cons,List.zipIdx_nil,List.forIn_cons,List.forIn_nil]
 refine wpAny_bind (wpAny_bind (wpAny_onRaise ?_))
 show wpAny _ _ (Builtin.SmallTypes.nextOf (.ref i) >>= _) _ _ _
 refine wpAny_bind (i3 (hi.go fun o e=>s1.extBut _ _ D.i1z e) (hl.go fun o e=>s1.extBut _ _ D.l1z e) hx fun g2 i2 s2=>wpAny_pure ?_)
 have u2:IsPair g2 U u v:=s2.extBut _ _ D.TOi1 (s1.extBut _ _ D.TOz hU)
 refine wpAny_bind (wpAny_seqItems u2 rfl (wpAny_bind (wpAny_updateSeq_pair u2 fun g3 u3 s3=>?_)))
 replace u3:IsPair g3 U x v:=u3
 refine wpAny_bind (wpAny_letGo (wpAny_pure (wpAny_bind (wpAny_bind (wpAny_onRaise ?_)))))
 show wpAny _ _ (Builtin.SmallTypes.nextOf (.ref j) >>= _) _ _ _
 refine wpAny_bind (i3 (hj.go fun o e=>s3.extBut _ _ D.TOi2.symm (s2.extBut _ _ D.i12.symm (s1.extBut _ _ D.i2z e))) (hm.go fun o e=>s3.extBut _ _ D.l2TO (s2.extBut _ _ D.l2i1 (s1.extBut _ _ D.l2z e))) hy fun g4 j4 s4=>wpAny_pure ?_)
 have u4:IsPair g4 U x v:=s4.extBut _ _ D.TOi2 u3
 refine wpAny_bind (wpAny_seqItems u4 rfl (wpAny_bind (wpAny_updateSeq_pair u4 fun g5 u5 s5=>?_)))
 replace u5:IsPair g5 U x y:=u5
 refine wpAny_bind (wpAny_letGo (wpAny_pure (wpAny_pure (wpAny_bind (wpAny_seqItems u5 rfl (wpAny_bind (wpAny_newTuple ?_)))))))
 have sz:g5.objs.size=s.heap.objs.size:=by rw[s5.1,s4.1,s3.1,s2.1,s1.1]
 have z5:IsZip g5 z T U .ellipsis:=s5.extBut _ _ D.TOz.symm (s4.extBut _ _ D.i2z.symm (s3.extBut _ _ D.TOz.symm (s2.extBut _ _ D.i1z.symm z1)))
 have kp:∀d o,d≠z->d≠U->d≠i->d≠j->s.heap.get? d=some o->g5.get? d=some o:=fun d o a1 a2 a3 a4 e =>
  s5.extBut _ _ a2 (s4.extBut _ _ a4 (s3.extBut _ _ a2 (s2.extBut _ _ a3 (s1.extBut _ _ a1 e))))
 have i5:dS b g5 i l (k+1):=i2.go fun o e=>s5.extBut _ _ D.TOi1.symm (s4.extBut _ _ D.i12 (s3.extBut _ _ D.TOi1.symm e))
 have j5:dS c g5 j m (k+1):=j4.go fun o e=>s5.extBut _ _ D.TOi2.symm e
 have lz:z<g5.objs.size:=Heap.lt_size z5
 show wpAny _ _ (Builtin.SmallTypes.ownedTupleHandOut (.ref z) (.ref g5.objs.size) >>= _) _ _ _
 refine wpAny_bind ?_
 unfold Builtin.SmallTypes.ownedTupleHandOut
 have z6:IsZip (g5.push { cls:=.type "tuple",data:=.seq #[x,y] }) z T U .ellipsis:=Heap.get?_push_of_some _ z5
 refine wpAny_bind (wpAny_setField_rec z6 (by simp) fun g7 z7 s7=>?_)
 replace z7:IsZip g7 z T U (rawInt g5.objs.size):=z7
 refine wpAny_setField_rec z7 (by simp) fun g8 z8 s8=>?_
 replace z8:IsZip g8 z T U (rawInt g5.objs.size):=z8
 have up:∀d o,d≠z->g5.get? d=some o->g8.get? d=some o:=fun d o a1 e=>s8.extBut _ _ a1 (s7.extBut _ _ a1 (Heap.get?_push_of_some _ e))
 have t8:IsPair g8 g5.objs.size x y:=s8.extBut _ _ (Nat.ne_of_gt lz) (s7.extBut _ _ (Nat.ne_of_gt lz) (Heap.get?_push_size _ rfl))
 have n8:g8.objs.size=g5.objs.size+1:=by rw[s8.1,s7.1,Heap.size_push]
 rw[sz]at z8 t8 n8
 refine wpAny_pure ⟨_,rfl,?_⟩
 show Q (.ref g5.objs.size) _
 rw[sz]
 exact q g8 z8 (up _ _ D.TOz u5) (i5.go fun o e=>up _ o D.i1z e) (j5.go fun o e=>up _ o D.i2z e) t8 n8 fun d o a1 a2 a3 a4 e=>up d o a1 (kp d o a1 a2 a3 a4 e)
theorem yq{z T U i j l m:Addr}{k:Nat}{xs ys:Array Value}{u v:Value}{Q:PySem.Fin->Shared->Prop}(hh:A.handled=none) (D:ZipApart z T U i j l m)
  (hz:IsZip s.heap z T U .none) (hT:IsPair s.heap T (.ref i) (.ref j)) (hU:IsPair s.heap U u v) (hi:dS b s.heap i l k) (hj:dS c s.heap j m k) (hl:eO b s.heap l xs) (hm:eO c s.heap m ys) (no:xs[k]?=none∨ys[k]?=none)
  (q:∀h' e,(∀d o,d≠z->d≠U->d≠i->d≠j->s.heap.get? d=some o->h'.get? d=some o)->(∃o,h'.get? e=some o/\o.cls=.type "StopIteration")->E (.ref e) { s with heap:=h' }) :
  wpAny (model prog w) A (Builtin.«zip.__next__» ⟨[.ref z],[]⟩) Q E s:=by
 show wpAny _ _ (field (.ref z) 2 >>= _) _ _ _
 refine wpAny_bind (wpAny_field hz rfl (x:=.bool false) rfl ?_)
 show wpAny _ _ (field (.ref z) 3 >>= _) _ _ _
 refine wpAny_bind (wpAny_field hz rfl (x:=.ref T) rfl (wpAny_bind (wpAny_seqItems hT rfl ?_)))
 show wpAny _ _ (Builtin.SmallTypes.ownedTupleIsFree (.ref z) >>= _) _ _ _
 refine wpAny_bind ?_
 unfold Builtin.SmallTypes.ownedTupleIsFree
 refine wpAny_bind (wpAny_field hz rfl (x:=.none) rfl (wpAny_pure ?_))
 simp only[if_true]
 refine wpAny_bind (wpAny_rule (wpAny_bind (wpAny_field hz rfl (x:=.ref U) rfl ?_)))
 refine wpAny_bind (wpAny_setField_rec hz (by simp) fun g1 z1 s1=>?_)
 replace z1:IsZip g1 z T U .ellipsis:=z1
 refine wpAny_bind ?_
 simp only[List.zipIdx_cons,List.zipIdx_nil,List.forIn_cons,List.forIn_nil]
 refine wpAny_bind (wpAny_bind (wpAny_onRaise ?_))
 show wpAny _ _ (Builtin.SmallTypes.nextOf (.ref i) >>= _) _ _ _
 cases hx:xs[k]? with
 |none =>
  refine wpAny_bind (oM hh (hi.go fun o e=>s1.extBut _ _ D.i1z e) (hl.go fun o e=>s1.extBut _ _ D.l1z e) hx fun g2 e s2 he=>?_)
  obtain⟨oe,e1,e2⟩:=he
  have z2:IsZip g2 z T U .ellipsis:=s2 _ _ D.i1z.symm z1
  have ne:e≠z:=fun p=>by subst p;rw[z2]at e1;cases e1;simp at e2
  exact wpAny_setField_rec z2 (by simp) fun g3 _ s3=>q g3 e (fun d o a1 _ a3 _ p=>s3.extBut _ _ a1 (s2 _ _ a3 (s1.extBut _ _ a1 p))) ⟨oe,s3.extBut _ _ ne e1,e2⟩
 |some x =>
  have hy:ys[k]?=none:=no.resolve_left (by rw[hx];exact nofun)
  refine wpAny_bind (i3 (hi.go fun o e=>s1.extBut _ _ D.i1z e) (hl.go fun o e=>s1.extBut _ _ D.l1z e) hx fun g2 i2 s2=>wpAny_pure ?_)
  have u2:IsPair g2 U u v:=s2.extBut _ _ D.TOi1 (s1.extBut _ _ D.TOz hU)
  refine wpAny_bind (wpAny_seqItems u2 rfl (wpAny_bind (wpAny_updateSeq_pair u2 fun g3 u3 s3=>?_)))
  refine wpAny_bind (wpAny_letGo (wpAny_pure (wpAny_bind (wpAny_bind (wpAny_onRaise ?_)))))
  show wpAny _ _ (Builtin.SmallTypes.nextOf (.ref j) >>= _) _ _ _
  refine wpAny_bind (oM hh (hj.go fun o e=>s3.extBut _ _ D.TOi2.symm (s2.extBut _ _ D.i12.symm (s1.extBut _ _ D.i2z e))) (hm.go fun o e=>s3.extBut _ _ D.l2TO (s2.extBut _ _ D.l2i1 (s1.extBut _ _ D.l2z e))) hy fun g4 e s4 he=>?_)
  obtain⟨oe,e1,e2⟩:=he
  have z4:IsZip g4 z T U .ellipsis:=s4 _ _ D.i2z.symm (s3.extBut _ _ D.TOz.symm (s2.extBut _ _ D.i1z.symm z1))
  have ne:e≠z:=fun p=>by subst p;rw[z4]at e1;cases e1;simp at e2
  exact wpAny_setField_rec z4 (by simp) fun g5 _ s5=>q g5 e (fun d o a1 a2 a3 a4 p=>s5.extBut _ _ a1 (s4 _ _ a4 (s3.extBut _ _ a2 (s2.extBut _ _ a3 (s1.extBut _ _ a1 p))))) ⟨oe,s5.extBut _ _ ne e1,e2⟩
theorem pC{z T U i j l m:Addr}{k:Nat}{xs ys:Array Value}{x y u v:Value}{Q:Option Value->Shared->Prop}(D:ZipApart z T U i j l m)
  (hz:IsZip s.heap z T U .none) (hT:IsPair s.heap T (.ref i) (.ref j)) (hU:IsPair s.heap U u v) (hi:dS b s.heap i l k) (hj:dS c s.heap j m k) (hl:eO b s.heap l xs) (hm:eO c s.heap m ys) (hx:xs[k]?=some x) (hy:ys[k]?=some y)
  (q:∀ h',IsZip h' z T U (rawInt s.heap.objs.size) → IsPair h' U x y → dS b h' i l (k + 1) → dS c h' j m (k + 1) → IsPair h' s.heap.objs.size x y → h'.objs.size = s.heap.objs.size + 1 →
   (∀d o,d≠z->d≠U->d≠i->d≠j->s.heap.get? d=some o->h'.get? d=some o)->Q (some (.ref s.heap.objs.size)) { s with heap:=h' }) :
  wpAny (model prog w) A (pyNext (.ref z)) Q E s:=by
 have ty:s.TypeIs (.ref z) "zip":=⟨_,hz,rfl⟩
 unfold pyNext
 exact wpAny_bind (wpAny_attempt (wpAny_callSpecial?_slot (name:=Str.ofString "__next__") ty F.slot_zip_next (wpAny_call_entry F.slot_zip_next ty F.entry_zip_next
  (xm D hz hT hU hi hj hl hm hx hy fun h' a1 a2 a3 a4 a5 a6 a7=>wpAny_pure (q h' a1 a2 a3 a4 a5 a6 a7)) (F.args_zip_next_1 _))))
theorem qX{z T U i j l m:Addr}{k:Nat}{xs ys:Array Value}{u v:Value}{Q:Option Value->Shared->Prop}(hh:A.handled=none) (D:ZipApart z T U i j l m)
  (hz:IsZip s.heap z T U .none) (hT:IsPair s.heap T (.ref i) (.ref j)) (hU:IsPair s.heap U u v) (hi:dS b s.heap i l k) (hj:dS c s.heap j m k) (hl:eO b s.heap l xs) (hm:eO c s.heap m ys) (no:xs[k]?=none∨ys[k]?=none)
  (q:∀h',(∀d o,d≠z->d≠U->d≠i->d≠j->s.heap.get? d=some o->h'.get? d=some o)->Q none { s with heap:=h' }):wpAny (model prog w) A (pyNext (.ref z)) Q E s:=by
 have ty:s.TypeIs (.ref z) "zip":=⟨_,hz,rfl⟩
 unfold pyNext
 refine wpAny_bind (wpAny_attempt (wpAny_callSpecial?_slot (name:=Str.ofString "__next__") ty F.slot_zip_next (wpAny_call_entry F.slot_zip_next ty F.entry_zip_next (yq hh D hz hT hU hi hj hl hm no fun h' e kp he=>?_) (F.args_zip_next_1 _))))
 obtain⟨o,e1,e2⟩:=he
 exact wpAny_bind (wpAny_isInstance (T:="StopIteration") (b:=true) ⟨o,e1,e2⟩ isSubtype_stop (wpAny_pure (q _ kp)))
end
abbrev itO(b:Bool) (l:Addr):Obj:={ cls:=.type (itN b),data:=.fields #[.ref l,.int 0 0] }
abbrev zp1(h:Heap) (b:Bool) (l:Addr):Heap:=h.push (itO b l)
abbrev zp2(h:Heap) (b c:Bool) (l m:Addr):Heap:=(zp1 h b l).push (itO c m)
abbrev zp3(h:Heap) (b c:Bool) (l m:Addr):Heap:=(zp2 h b c l m).push { cls:=.type "tuple",data:=.seq #[.ref h.objs.size,.ref (zp1 h b l).objs.size] }
abbrev zp4(h:Heap) (b c:Bool) (l m:Addr):Heap:=(zp3 h b c l m).push { cls:=.type "tuple",data:=.seq #[.none,.none] }
abbrev zp5(h:Heap) (b c:Bool) (l m:Addr):Heap:=(zp4 h b c l m).push { cls:=.type "zip",data:=.fields #[.none,.bool false,.bool false,.ref (zp2 h b c l m).objs.size,.ref (zp3 h b c l m).objs.size] }
set_option maxHeartbeats 4000000 in
theorem sU(b c:Bool) (l m:Addr) (xs ys:Array Value) :
  Meets (Builtin.«zip.__new__» ⟨[.type "zip",.ref l,.ref m],[]⟩) (fun _ R s=>eO b s.heap l xs/\eO c s.heap m ys/\R (.ok (.ret (.ref (zp4 s.heap b c l m).objs.size))) { s with heap:=zp5 s.heap b c l m }) :=
 .of_wp fun prog w A R s h=>by
  obtain⟨hp,g,d,tk,os⟩:=s
  obtain⟨h1,h2,hR⟩:=h
  have hsub:=sub_zip
  cases b with
  |true =>
   have p1:Heap.IsTuple (Shared.heap ⟨hp,g,d,tk,os⟩) l xs:=h1
   cases c with
   |true =>
    have p2:Heap.IsTuple (Shared.heap ⟨hp.push { cls:=.type "tuple_iterator",data:=.fields #[.ref l,.int 0 0] },g,d,tk,os⟩) m ys:=eO.go (b:=true) h2 fun o e=>Heap.get?_push_of_some _ e
    wp_walk using wpAny_pyIter_tuple p1,wpAny_pyIter_tuple p2
    exact⟨_,rfl,hR⟩
   |false =>
    have p2:Heap.IsList (Shared.heap ⟨hp.push { cls:=.type "tuple_iterator",data:=.fields #[.ref l,.int 0 0] },g,d,tk,os⟩) m ys:=eO.go (b:=false) h2 fun o e=>Heap.get?_push_of_some _ e
    wp_walk using wpAny_pyIter_tuple p1,wpAny_pyIter_list p2
    exact⟨_,rfl,hR⟩
  |false =>
   have p1:Heap.IsList (Shared.heap ⟨hp,g,d,tk,os⟩) l xs:=h1
   cases c with
   |true =>
    have p2:Heap.IsTuple (Shared.heap ⟨hp.push { cls:=.type "list_iterator",data:=.fields #[.ref l,.int 0 0] },g,d,tk,os⟩) m ys:=eO.go (b:=true) h2 fun o e=>Heap.get?_push_of_some _ e
    wp_walk using wpAny_pyIter_list p1,wpAny_pyIter_tuple p2
    exact⟨_,rfl,hR⟩
   |false =>
    have p2:Heap.IsList (Shared.heap ⟨hp.push { cls:=.type "list_iterator",data:=.fields #[.ref l,.int 0 0] },g,d,tk,os⟩) m ys:=eO.go (b:=false) h2 fun o e=>Heap.get?_push_of_some _ e
    wp_walk using wpAny_pyIter_list p1,wpAny_pyIter_list p2
    exact⟨_,rfl,hR⟩
theorem wG{prog:Program}{w:World}{A:Around}{E:Value->Shared->Prop}{s:Shared}{b c:Bool}{l m:Addr}{xs ys:Array Value}{Q:Value->Shared->Prop}(h1:eO b s.heap l xs) (h2:eO c s.heap m ys)
  (q:∀ h',IsZip h' (s.heap.objs.size + 4) (s.heap.objs.size + 2) (s.heap.objs.size + 3) .none → IsPair h' (s.heap.objs.size + 2) (.ref s.heap.objs.size) (.ref (s.heap.objs.size + 1)) →
   IsPair h' (s.heap.objs.size+3) .none .none->dS b h' s.heap.objs.size l 0->dS c h' (s.heap.objs.size+1) m 0->h'.objs.size=s.heap.objs.size+5 ->
   (∀d o,s.heap.get? d=some o->h'.get? d=some o)->Q (.ref (s.heap.objs.size+4)) { s with heap:=h' }) :
  wpAny (model prog w) A (call (.type "zip") [.ref l,.ref m]) Q E s:=by
 refine callType_new F.called_zip (by decide) (F.typeCall_zip_2 _ _) (F.newCall_zip_2 _ _) (fun ob=>F.args_object_init_3 ob _ _) F.entry_zip_new (sU b c l m xs ys) ⟨h1,h2,?_⟩
 have y1:(zp1 s.heap b l).objs.size=s.heap.objs.size+1:=Heap.size_push ..
 have y2:(zp2 s.heap b c l m).objs.size=s.heap.objs.size+2:=by rw[Heap.size_push,y1]
 have y3:(zp3 s.heap b c l m).objs.size=s.heap.objs.size+3:=by rw[Heap.size_push,y2]
 have y4:(zp4 s.heap b c l m).objs.size=s.heap.objs.size+4:=by rw[Heap.size_push,y3]
 have y5:(zp5 s.heap b c l m).objs.size=s.heap.objs.size+5:=by rw[Heap.size_push,y4]
 have f5:(zp5 s.heap b c l m).get? (zp4 s.heap b c l m).objs.size=some _:=Heap.get?_push_size _ rfl
 have f4:(zp5 s.heap b c l m).get? (zp3 s.heap b c l m).objs.size=some _:=Heap.get?_push_of_some _ (Heap.get?_push_size _ rfl)
 have f3:(zp5 s.heap b c l m).get? (zp2 s.heap b c l m).objs.size=some _:=Heap.get?_push_of_some _ (Heap.get?_push_of_some _ (Heap.get?_push_size _ rfl))
 have f2:(zp5 s.heap b c l m).get? (zp1 s.heap b l).objs.size=some _:=Heap.get?_push_of_some _ (Heap.get?_push_of_some _ (Heap.get?_push_of_some _ (Heap.get?_push_size _ rfl)))
 have f1:(zp5 s.heap b c l m).get? s.heap.objs.size=some _:=Heap.get?_push_of_some _ (Heap.get?_push_of_some _ (Heap.get?_push_of_some _ (Heap.get?_push_of_some _ (Heap.get?_push_size _ rfl))))
 show _/\_
 rw[y2,y3,y4]at f5
 rw[y1,y2]at f3
 rw[y3]at f4
 rw[y1]at f2
 rw[y4]
 exact⟨⟨_,f5,rfl⟩,q _ f5 f3 f4 ⟨_,f1,rfl,rfl⟩ ⟨_,f2,rfl,rfl⟩ y5 fun d o p=>Heap.get?_push_of_some _ (Heap.get?_push_of_some _ (Heap.get?_push_of_some _ (Heap.get?_push_of_some _ (Heap.get?_push_of_some _ p))))⟩
section
variable{X:Cx}{ae:List (Addr×Obj)}{σ:St}{H:Hp}{s:Shared}{h':Heap}
theorem Inv.turnedF{t':Nat}{fp:List Addr}(I:Inv X ae σ H s) (k:∀b o,b∉fp->s.heap.get? b=some o->h'.get? b=some o) (f:∀b∈fp,cJ X ae H b):Inv X ae σ H { s with heap:=h',toks:=t' }:=by
 have nit:∀b u,H b=some u->b∉fp:=fun b u q z=>by rw[(f b z).1]at q;cases q
 refine I.step (g':=s.gens) (d':=s.drawn) (ch:=fp) (fun b hb=>?_) (fun b o _ _ hc q _=>k b o hc q) (fun b o _ _ hc q _=>⟨o.slots,k b o hc q⟩) (fun _ _ _ _ n=>n)
  (fun b o hc q=>⟨o,k b o hc q⟩) (fun _ _ q=>q) (fun _ _ _ q=>q) (fun b ps q=>⟨#[],by rw[q];simp⟩) (fun m hm=>?_) (fun b u q=>?_) I.bare
 ·obtain⟨b0,b1,b2,b3,b4,b5⟩:=f b hb
  exact⟨b3,b1,b4,b5⟩
 ·obtain⟨o,es,ep,ho,r⟩:=hm
  exact⟨o,es,ep,k _ o (fun z=>(f _ z).2.1 rfl) ho,r⟩
 ·refine(I.hok b u q).stay (fun c v hc q'=>?_) (fun _ q=>q) fun _ _ q=>q
  rcases hc with z|z
  ·rw[z]at q' ⊢;exact k _ _ (nit b u q) q'
  ·exact k c v (nit c _ z) q'
end
def SqB(b:Bool) (K:PySem.W.Frag) (H:Hp) (a:Addr) (xs:List V):Prop:=match b with
 |true=>SqT K H a xs
 |false=>SqL K H a xs
theorem Inv.sqB{X:Cx}{ae:List (Addr×Obj)}{σ:St}{H:Hp}{s:Shared}{b:Bool}{a:Addr}{xs:List V}(I:Inv X ae σ H s) (h:SqB b X.K H a xs):∃its:List Value,aA xs its/\eO b s.heap a its.toArray:=by
 cases b with
 |true=>obtain⟨its,r,p,_⟩:=I.tuple h;exact⟨its,r,p⟩
 |false=>obtain⟨its,r,p,_⟩:=I.list h;exact⟨its,r,p.isList⟩
theorem Inv.sqB_inj{X:Cx}{ae:List (Addr×Obj)}{σ:St}{H:Hp}{s:Shared}{b:Bool}{a:Addr}{xs ys:List V}(I:Inv X ae σ H s) (h:SqB b X.K H a xs) (h':SqB b X.K H a ys):xs=ys:=by
 cases b with
 |true=>exact I.tuple_inj h h'
 |false=>exact I.list_inj h h'
def Itz(K:PySem.W.Frag) (b c:Bool) (l m:Addr) (n:Nat):It :=
  ⟨fun i H=>(∃xs ys,SqB b K H l xs/\SqB c K H m ys/\min xs.length ys.length=n)/\i<n,
   fun i H x H'=>∃T u v,x=.ref T/\H T=none/\H'=upd H T (.tup [u,v])/\(∀xs,SqB b K H l xs->xs[i]?=some u)/\∀ys,SqB c K H m ys->ys[i]?=some v,
   fun i H=>(∃xs ys,SqB b K H l xs/\SqB c K H m ys/\min xs.length ys.length=n)/\n<=i⟩
theorem zj{P:Program}{w:World}{K:PySem.W.Frag}{elts:List Expr}{x1:Nat}{pt:Pos}(b c:Bool) (l m z T U i1 i2:Addr) (n:Nat):gK P w K (.Tuple elts x1 pt) (Itz K b c l m n) [z,T,U,i1,i2] z
  (fun i h=>IsZip h z T U .none/\IsPair h T (.ref i1) (.ref i2)/\(∃u v,IsPair h U u v)/\dS b h i1 l i/\dS c h i2 m i/\ZipApart z T U i1 i2 l m/\i<=n) where
 mem:=by simp
 obj:=fun i h st d hd=>by
  obtain⟨a1,a2,⟨u,v,a3⟩,⟨o4,a4,_,d4⟩,⟨o5,a5,_,d5⟩,_⟩:=st
  simp only[List.mem_cons,List.not_mem_nil,or_false]at hd
  rcases hd with rfl|rfl|rfl|rfl|rfl
  ·exact⟨_,a1,fun v y=>by cases y⟩
  ·exact⟨_,a2,fun v y=>by cases y⟩
  ·exact⟨_,a3,fun v y=>by cases y⟩
  ·exact⟨o4,a4,fun v y=>by rw[d4]at y;cases y⟩
  ·exact⟨o5,a5,fun v y=>by rw[d5]at y;cases y⟩
 keep:=fun i h h' st k=>by
  obtain⟨a1,a2,⟨u,v,a3⟩,a4,a5,a6,a7⟩:=st
  exact⟨k z (by simp) _ a1,k T (by simp) _ a2,⟨u,v,k U (by simp) _ a3⟩,a4.go fun o e=>k i1 (by simp) o e,a5.go fun o e=>k i2 (by simp) o e,a6,a7⟩
 item:=by
  intro X hP hw hK hc i ae s σ H E I hf st hg
  subst hP hw hK
  obtain⟨⟨xs,ys,hq,hq2,hmin⟩,hin⟩:=hg
  obtain⟨a1,a2,⟨u0,v0,a3⟩,a4,a5,D,le⟩:=st
  obtain⟨its,rv,p⟩:=I.sqB hq
  obtain⟨its2,rv2,p2⟩:=I.sqB hq2
  have l1:=rv.length
  have l2:=rv2.length
  have hx:xs[i]?=some (xs[i]'(by omega)):=by simp
  have hy:ys[i]?=some (ys[i]'(by omega)):=by simp
  generalize xs[i]'(by omega)=x at hx
  generalize ys[i]'(by omega)=y at hy
  obtain⟨u,hu,ru⟩:=rv.get hx
  obtain⟨v,hv,rv3⟩:=rv2.get hy
  refine pC D a1 a2 a3 a4 a5 p p2 (by simpa using hu) (by simpa using hv) fun h1 b1 b2 b3 b4 b5 b6 kp=>?_
  refine⟨_,rfl,?_⟩
  have In:H s.heap.objs.size=none:=I.hok.fresh (Nat.le_refl _)
  have lt:∀{d o},s.heap.get? d=some o->d≠s.heap.objs.size:=fun e=>Nat.ne_of_lt (Heap.lt_size e)
  have n1:=lt a1
  have n2:=lt a2
  have n3:=lt a3
  have n4:i1≠s.heap.objs.size:=by obtain⟨o,e,_⟩:=a4;exact lt e
  have n5:i2≠s.heap.objs.size:=by obtain⟨o,e,_⟩:=a5;exact lt e
  have ne:∀d∈[z,T,U,i1,i2],d≠s.heap.objs.size:=fun d hd=>by
   simp only[List.mem_cons,List.not_mem_nil,or_false]at hd
   rcases hd with rfl|rfl|rfl|rfl|rfl<;>assumption
  have I1:Inv X ae σ (upd H s.heap.objs.size (.tup [x,y])) { s with heap:=s.heap.push { cls:=.type "tuple",data:=.seq #[u,v] },toks:=s.toks } :=
   I.laid (fun b o q=>Heap.get?_push_of_some _ q) (Nat.le_refl _) ⟨by simp only[List.length_cons,List.length_nil];rw[sizeLine_eq];decide,[u,v],.cons ru (.cons rv3 .nil),iR.new _ _⟩
  have f1:∀d∈[z,T,U,i1,i2],cJ X ae (upd H s.heap.objs.size (.tup [x,y])) d:=fun d hd=>(hf d hd).upd (ne d hd)
  have I2:Inv X ae σ (upd H s.heap.objs.size (.tup [x,y])) { s with heap:=h1,toks:=s.toks }:=I1.turnedF (t':=s.toks) (fun d o hd q=>by
   simp only[List.mem_cons,List.not_mem_nil,or_false,not_or]at hd
   by_cases hs:d=s.heap.objs.size
   ·subst hs
    rw[Heap.get?_push_size s.heap rfl]at q
    cases q
    exact b5
   ·refine kp d o hd.1 hd.2.2.1 hd.2.2.2.1 hd.2.2.2.2 ?_
    rcases Heap.get?_push_cases q with y|y
    ·exact absurd y.1 hs
    ·exact y) f1
  refine wpAny_letOwnedTupleGo_zip b1 fun h2 c1 c2=>?_
  have I3:=I2.turnedF (t':=s.toks) (h':=h2) (fp:=[z,T,U,i1,i2]) (fun d o hd q=>(c2.2 d (fun e=>hd (by simp[e]))).trans q) f1
  refine⟨.ref s.heap.objs.size,_,I3,rfl,⟨_,x,y,rfl,In,rfl,fun zs hzs=>by rw[I.sqB_inj hzs hq];exact hx,fun zs hzs=>by rw[I.sqB_inj hzs hq2];exact hy⟩,⟨c1,?_,⟨u,v,(c2.2 U D.TOz).trans b2⟩,b3.go fun o e=>(c2.2 i1 D.i1z).trans e,b4.go fun o e=>(c2.2 i2 D.i2z).trans e,D,hin⟩,fun d hd=>(f1 d hd).1⟩
  exact(c2.2 T D.TIz).trans (kp T _ D.TIz D.TITO D.TIi1 D.TIi2 a2)
 done:=by
  intro X hP hw hK hc i ae s σ H E I hf st hg
  subst hP hw hK
  obtain⟨⟨xs,ys,hq,hq2,hmin⟩,hin⟩:=hg
  obtain⟨a1,a2,⟨u0,v0,a3⟩,a4,a5,D,le⟩:=st
  obtain⟨its,rv,p⟩:=I.sqB hq
  obtain⟨its2,rv2,p2⟩:=I.sqB hq2
  have l1:=rv.length
  have l2:=rv2.length
  refine qX (I.ok.hd hc) D a1 a2 a3 a4 a5 p p2 ?_ fun h' kp=>⟨rfl,I.turnedF (t':=s.toks) (fp:=[z,T,U,i1,i2]) (fun d o hd q=>?_) hf⟩
  ·rcases Nat.le_total xs.length ys.length with h|h
   ·left;simp;omega
   ·right;simp;omega
  ·simp only[List.mem_cons,List.not_mem_nil,or_false,not_or]at hd
   exact kp d o hd.1 hd.2.2.1 hd.2.2.2.1 hd.2.2.2.2 q
 self:=fun _ _ _ _ _ st h=>wpAny_pyIter_zip st.1 h
def yv:D->Option (Bool×List D)
 |.tup es=>some (true,es)
 |.lst es=>some (false,es)
 |_=>none
def gu:List D->List D->List D
 |a::as,b::bs=>.tup [a,b]::gu as bs
 |_,_=>[]
theorem lN:∀(as bs:List D) (i:Nat),(gu as bs)[i]?=match as[i]?,bs[i]? with|some a,some b=>some (.tup [a,b])|_,_=>none
 |[],bs,i=>by simp[gu]
 |a::as,[],i=>by
  simp only[gu,List.getElem?_nil]
  cases(a::as)[i]?<;>rfl
 |a::as,b::bs,0=>by simp[gu]
 |a::as,b::bs,i+1=>by simp only[gu,List.getElem?_cons_succ];exact lN as bs i
theorem gY:∀(as bs:List D),(gu as bs).length=min as.length bs.length
 |[],bs=>by simp[gu]
 |a::as,[]=>by simp[gu]
 |a::as,b::bs=>by simp only[gu,List.length_cons,gY as bs];omega
def yL(ta:TAd):TId:=fun Δ M R=>ta Δ M fun ds M1=>∃x y b c es fs,ds=[x,y]/\yv x=some (b,es)/\yv y=some (c,fs)/\R (gu es fs) M1
theorem z0:bootBuiltins "zip"=some (.type "zip"):=by kernel_rfl
theorem rH{K:PySem.W.Frag}{M:DH}{H:Hp}{x:D}{b:Bool}{es:List D}{v:V}(h:yv x=some (b,es)) (r:Rep K M H x v):∃a vs,v=.ref a/\aq K M H es vs/\SqB b K H a vs/\∀M' H',Ext M H M' H'->SqB b K H' a vs/\aq K M' H' es vs:=by
 cases x with
 |tup ds =>
  cases h
  simp only[Rep]at r
  obtain⟨a,vs,rfl,t,rl⟩:=r
  exact⟨a,vs,rfl,rl,t.sq,fun M' H' e=>⟨(t.ext e).sq,rl.ext e⟩⟩
 |lst ds =>
  cases h
  simp only[Rep]at r
  obtain⟨a,vs,rfl,t,rl⟩:=r
  exact⟨a,vs,rfl,rl,SqL.of t.1,fun M' H' e=>⟨SqL.of (t.ext e).1,rl.ext e⟩⟩
 |_=>cases h
section
variable{X:Cx}{a1 a2:Expr}{t:TAd}{pos:Pos}
theorem Ge{elts:List Expr}{x1:Nat}{pt p:Pos}(hg:Gl X "zip") (hm:X.mg "zip"=none) (ha:PAd X [a1,a2] t) (hs:starEach [a1,a2] X.env=(false,eval a1 X.env)::starEach [a2] X.env:=by rfl) (hpl:(backTo pos (starEach [a2] X.env)).any (·.1)=false:=by rfl):PId X (.Tuple elts x1 pt) (.Call (.Name "zip" p) [a1,a2] [] pos) (yL t):=by
 intro ae s σ H R I hh
 obtain⟨Δ,M,R',sr,hr,q,k⟩:=hh
 refine Call_ (gR I hg hm z0 (PyProof.Rows.callWith_type1 (thn (ha pos ae s σ H (fun vs H1=>∃x y b c es fs M1,yv x=some (b,es)/\yv y=some (c,fs)/\aq X.K M1 H1 [x,y] vs/\R' (gu es fs) M1/\Ext M H M1 H1/\HR X.K M1 H1) I ⟨Δ,M,_,sr,hr,q,fun ds M1 vs H1 ⟨x,y,b,c,es,fs,ed,ex,ey,q1⟩ e1 hr1 rv=>⟨x,y,b,c,es,fs,M1,ex,ey,by rw[<-ed];exact rv,q1,e1,hr1⟩⟩) fun us s1 ⟨vs,H1,I1,r1,x,y,b,c,es,fs,M1,ex,ey,rv,q1,e1,hr1⟩=>?_) hs hpl))
 obtain⟨v1,v2,rfl,rx,ry⟩:∃v1 v2,vs=[v1,v2]/\Rep X.K M1 H1 x v1/\Rep X.K M1 H1 y v2:=by
  simp only[aq]at rv
  obtain⟨v1,ws,rfl,h1,v2,ws2,rfl,h2,rfl⟩:=rv
  exact⟨v1,v2,rfl,h1,h2⟩
 obtain⟨l,vs,rfl,rl,sl,kl⟩:=rH ex rx
 obtain⟨m,ws,rfl,rm,sm,km⟩:=rH ey ry
 obtain⟨u1,u2,rfl,w1,w2⟩:∃u1 u2,us=[u1,u2]/\aD (.ref l) u1/\aD (.ref m) u2:=by
  cases r1 with
  |cons p1 r1 =>
   cases r1 with
   |cons p2 r1 =>
    cases r1
    exact⟨_,_,rfl,p1,p2⟩
 cases w1
 cases w2
 obtain⟨its,rvv,pl⟩:=I1.sqB sl
 obtain⟨its2,rvv2,pm⟩:=I1.sqB sm
 have ll:l<s1.heap.objs.size:=by obtain⟨o,e,_⟩:=pl;exact Heap.lt_size e
 have lm:m<s1.heap.objs.size:=by obtain⟨o,e,_⟩:=pm;exact Heap.lt_size e
 refine wG pl pm fun h' c1 c2 c3 c4 c5 c6 kp=>?_
 refine wpAny_pyIter_zip c1 ?_
 have DA:ZipApart (s1.heap.objs.size+4) (s1.heap.objs.size+2) (s1.heap.objs.size+3) s1.heap.objs.size (s1.heap.objs.size+1) l m:=zipApart_new ll lm
 refine⟨_,[_,_,_,_,_],_,_,H1,rfl,I1.kept (t':=s1.toks) kp,zj b c l m _ _ _ _ _ (min es.length fs.length),⟨c1,c2,⟨_,_,c3⟩,c4,c5,DA,Nat.zero_le _⟩,fun d hd=>?_,?_⟩
 ·have hle:s1.heap.objs.size<=d:=by
   simp only[List.mem_cons,List.not_mem_nil,or_false]at hd
   rcases hd with rfl|rfl|rfl|rfl|rfl
   ·exact Nat.le_add_right _ _
   ·exact Nat.le_add_right _ _
   ·exact Nat.le_add_right _ _
   ·exact Nat.le_refl _
   ·exact Nat.le_add_right _ _
  exact I1.fpOk hle (I1.hok.fresh hle)
 ·have h1:=rl.length
  have h2:=rm.length
  refine k _ M1 _ H1 q1 e1 hr1 fun M2 H2 e2 hr2 i=>⟨fun d hd=>?_,fun hl=>⟨⟨vs,ws,(kl _ _ e2).1,(km _ _ e2).1,by omega⟩,by rw[gY]at hl;exact hl⟩⟩
  rw[lN]at hd
  cases hda:es[i]? with
  |none=>rw[hda]at hd;cases hd
  |some d1 =>
   cases hdb:fs[i]? with
   |none=>rw[hda,hdb]at hd;cases hd
   |some d2 =>
    rw[hda,hdb]at hd
    have hd':D.tup [d1,d2]=d:=by simpa using hd
    subst hd'
    have hi:i<es.length:=(List.getElem?_eq_some_iff.mp hda).1
    have hi2:i<fs.length:=(List.getElem?_eq_some_iff.mp hdb).1
    obtain⟨g1,gv,g2⟩:=(kl _ _ e2).2.get hda
    obtain⟨g3,gw,g4⟩:=(km _ _ e2).2.get hdb
    refine⟨⟨⟨vs,ws,(kl _ _ e2).1,(km _ _ e2).1,by omega⟩,by omega⟩,fun x' H' ⟨T,u,v,ex',hT,eH,hy1,hy2⟩=>?_⟩
    subst ex';subst eH
    have z1:=hy1 vs (kl _ _ e2).1
    have z2:=hy2 ws (km _ _ e2).1
    rw[gv]at z1;cases z1
    rw[gw]at z2;cases z2
    refine⟨Ext.new hr2 hT,hr2.new hT,?_⟩
    simp only[Rep]
    refine⟨T,[g1,g3],rfl,.inl ⟨.inl aC,hr2.fresh hT⟩,?_⟩
    exact aq.cons (g2.ext (Ext.new hr2 hT)) (aq.cons (g4.ext (Ext.new hr2 hT)) aq.nil)
theorem DK{elts:List Expr}{x1:Nat}{pt p:Pos}(hg:Gl X "zip") (hm:X.mg "zip"=none) (ha:QAd X [a1,a2] t) (hs:starEach [a1,a2] X.env=(false,eval a1 X.env)::starEach [a2] X.env:=by rfl) (hpl:(backTo pos (starEach [a2] X.env)).any (·.1)=false:=by rfl):QId X (.Tuple elts x1 pt) (.Call (.Name "zip" p) [a1,a2] [] pos) (yL t):=by
 simp only[QEd.eq,QAd.eq,QTd.eq,QWd.eq,QSd.eq,QSs.eq,QId.eq,QIf.eq,QOd.eq]at *
 exact Ge hg hm ha hs hpl
end
section
variable{X:Cx}{scope:Scope}{cl:List (Str×Addr)}{ah:List Str}{tg:Expr}{pos:Pos}
/-! targets of a comprehension that has others in it: names that stay its own,and tuples -/
theorem Bm{i:Nat}{x:Str}(hN:(X.N++ah).Nodup) (hi:(X.N++ah)[i]?=some x) (hx:(relabel scope X.env).names.lookup x=some .local):Fv X scope cl ah (.Name x pos) (bf i) :=
 ⟨oP i,fun C s H ex=>qA hN hi (.inl hx) (.inr hx),fun d v σ Δ Δ' M H Q sr hr rv e k=>by cases e;exact k _ (sr.set i rv)⟩
end
/-! ### a<b<c<d as a test -/
/-! ### tuples that may be keys -/
def nA(ks:List Key):D:=.box .key (ks.map kD)
section
variable{K:PySem.W.Frag}{M:DH}{H:Hp}
theorem lx{ds:List D}{v:V}:Rep K M H (.box .key ds) v↔∃a vs,v=.ref a/\(H a=some (.tup vs)/\M a=none)/\aq K M H ds vs:=by
 simp only[Rep,gp]
 exact⟨fun⟨a,vs,e,⟨_,⟨_,r⟩,n⟩,h⟩=>⟨a,vs,e,⟨r,n⟩,h⟩,fun⟨a,vs,e,⟨r,n⟩,h⟩=>⟨a,vs,e,⟨trivial,⟨(),r⟩,n⟩,h⟩⟩
theorem sA{ds:List D}{v:V}(h:Rep K M H (.box .key ds) v):Rep K M H (.tup ds) v:=by
 obtain⟨a,vs,e,⟨r,n⟩,h⟩:=lx.mp h
 simp only[Rep]
 exact⟨a,vs,e,.inl ⟨.inl r,n⟩,h⟩
theorem jJ{ks:List Key}{v:V}(h:Rep K M H (nA ks) v):∃a,v=.ref a/\H a=some (.tup (ks.map kV)):=by
 obtain⟨a,vs,e,⟨r,_⟩,h⟩:=lx.mp h
 rw[fT h]at r
 exact⟨a,e,r⟩
theorem mn{κ:Type}:∀{ks:List κ}{ds:List D}{vs:List V},ks.length=vs.length->aq K M H ds vs->KR K M H (ks.zip ds) (ks.zip vs)
 |[],_,_,_,_=>by simp only[List.zip_nil_left];exact .nil
 |k::ks,ds,vs,hl,h=>by
  cases vs with
  |nil=>cases hl
  |cons v vs =>
   cases ds with
   |nil=>have:=h.length;cases this
   |cons d ds =>
    simp only[aq]at h
    obtain⟨_,_,e,h1,h2⟩:=h
    cases e
    exact .cons ⟨rfl,h1⟩ (mn (Nat.succ.inj hl) h2)
def asT(M:DH):D->Option (List (List Key×D))
 |.ref a=>match M a with|some (.dT kvs)=>some kvs|_=>none
 |.box (.dt ks) ds=>some (ks.zip ds)
 |_=>none
def asK(M:DH):D->Option (List (Key×D))
 |.ref a=>match M a with|some (.dK kvs)=>some kvs|_=>none
 |.box (.dk ks) ds=>some (ks.zip ds)
 |_=>none
theorem lE{x:D}{v:V}{kvs:List (List Key×D)}(hr:HR K M H) (h:Rep K M H x v) (e:asT M x=some kvs):∃a ks,v=.ref a/\Rd H a (.dT ks)/\KR K M H kvs ks:=by
 cases x with
 |ref a =>
  simp only[asT]at e
  simp only[Rep]at h
  split at e
  ·rename_i q
   cases e
   obtain⟨ks,h1,kr⟩:=hr a _ q
   exact⟨a,ks,h,.inl h1,kr⟩
  ·cases e
 |box t ds =>
  cases t with
  |dt ks =>
   cases e
   simp only[Rep,gp]at h
   obtain⟨a,vs,e,⟨hl,⟨o,r⟩,_⟩,h2⟩:=h
   exact⟨a,_,e,.inr ⟨o,r⟩,mn hl h2⟩
  |_=>cases e
 |_=>cases e
theorem qy{x:D}{v:V}{kvs:List (Key×D)}(hr:HR K M H) (h:Rep K M H x v) (e:asK M x=some kvs):∃a ks,v=.ref a/\Rd H a (.dK ks)/\KR K M H kvs ks:=by
 cases x with
 |ref a =>
  simp only[asK]at e
  simp only[Rep]at h
  split at e
  ·rename_i q
   cases e
   obtain⟨ks,h1,kr⟩:=hr a _ q
   exact⟨a,ks,h,.inl h1,kr⟩
  ·cases e
 |box t ds =>
  cases t with
  |dk ks =>
   cases e
   simp only[Rep,gp]at h
   obtain⟨a,vs,e,⟨hl,⟨o,r⟩,_⟩,h2⟩:=h
   exact⟨a,_,e,.inr ⟨o,r⟩,mn hl h2⟩
  |_=>cases e
 |_=>cases e
theorem iu{a:Addr}{kvs:List (List Key×D)}(h:M a=some (.dT kvs)):asT M (.ref a)=some kvs:=by simp only[asT,h]
theorem A7{ks:List (List Key)}{ds:List D}:asT M (.box (.dt ks) ds)=some (ks.zip ds):=rfl
theorem Bw{ks:List Key}{ds:List D}:asK M (.box (.dk ks) ds)=some (ks.zip ds):=rfl
end
section
variable{X:Cx}{e i o:Expr}{es:List Expr}{te ti to:TEd}{t:TAd}{pos:Pos}
def El(te:TEd):TEd:=fun Δ M Q=>te Δ M fun d M1=>∃ds,d=.box .key ds/\Q (.tup ds) M1
theorem FV(h:PEd X e te):PEd X e (El te):=PE.conv h fun σ H Q ⟨Δ,M,R,sr,hr,q,k⟩=>⟨Δ,M,_,sr,hr,q,fun d M1 v H1 ⟨ds,ed,q1⟩ e1 hr1 rv=>k _ M1 v H1 q1 e1 hr1 (sA (by rw[<-ed];exact rv))⟩
def zS(t:TAd):TEd:=fun Δ M Q=>t Δ M fun ds M1=>ds.length<=sizeLine/\Q (.box .key ds) M1
theorem FX{x1}(h:PAd X es t):PEd X (.Tuple es x1 pos) (zS t) :=
 (iY h).conv fun σ H Q ⟨Δ,M,R,sr,hr,q,k⟩ => ⟨Δ,M,_,sr,hr,q,fun ds M1 vs H1 ⟨z,q1⟩ e1 hr1 rv => ⟨by rw [← rv.length]; exact z,fun p hp => k _ M1 _ _ q1 (e1.trans (Ext.new hr1 hp)) (hr1.new hp)
  (lx.mpr ⟨p,vs,rfl,⟨aC,hr1.fresh hp⟩,rv.ext (Ext.new hr1 hp)⟩)⟩⟩
def uP(to ti:TEd):TEd:=fun Δ M Q=>to Δ M fun x M1=>ti Δ M1 fun y M2=>∃kvs ks d,asT M2 x=some kvs/\y=nA ks/\bp kvs ks=some d/\Q d M2
theorem DW(hu:X.A.units+1<cLine) (ho:PEd X o to) (hi:PEd X i ti) (hs:lH i):PEd X (.Subscript o i pos) (uP to ti) :=
 PE.conv (p6 hu ho hi hs) fun σ H Q ⟨Δ,M,R,sr,hr,q,k⟩=>⟨Δ,M,_,sr,hr,q,fun x M1 v H1 q1 e1 hr1 rv=>⟨Δ,M1,_,sr.ext e1,hr1,q1,fun y M2 u H2 ⟨kvs,ky,d,ea,ey,ed,q2⟩ e2 hr2 ru=>by
  subst ey
  obtain⟨a,ks,rfl,h2,kr⟩:=lE hr2 (rv.ext e2) ea
  obtain⟨b,rfl,hb⟩:=jJ ru
  obtain⟨w,hw,rw_⟩:=(kr.val ky).1 d ed
  exact⟨a,w,rfl,.inr ⟨ks,ky,b,h2,rfl,hb,hw.symm⟩,k d M2 w H2 q2 (e1.trans e2) hr2 rw_⟩⟩⟩
def zD(to ti:TEd):TEd:=fun Δ M Q=>to Δ M fun x M1=>ti Δ M1 fun y M2=>∃kvs k d,asK M2 x=some kvs/\y=kD k/\bp kvs k=some d/\Q d M2
theorem DD(hu:X.A.units+1<cLine) (ho:PEd X o to) (hi:PEd X i ti) (hs:lH i):PEd X (.Subscript o i pos) (zD to ti) :=
 PE.conv (p6 hu ho hi hs) fun σ H Q ⟨Δ,M,R,sr,hr,q,k⟩=>⟨Δ,M,_,sr,hr,q,fun x M1 v H1 q1 e1 hr1 rv=>⟨Δ,M1,_,sr.ext e1,hr1,q1,fun y M2 u H2 ⟨kvs,ky,d,ea,ey,ed,q2⟩ e2 hr2 ru=>by
  subst ey
  obtain⟨a,ks,rfl,h2,kr⟩:=qy hr2 (rv.ext e2) ea
  obtain⟨w,hw,rw_⟩:=(kr.val ky).1 d ed
  exact⟨a,w,rfl,.inl ⟨ks,ky,h2,ke ru,hw.symm⟩,k d M2 w H2 q2 (e1.trans e2) hr2 rw_⟩⟩⟩
def rA(to ti te:TEd):TSd:=fun E Δ M=>te Δ M fun d M1=>to Δ M1 fun x M2=>ti Δ M2 fun y M3=>∃a kvs ks,x=.ref a/\M3 a=some (.dT kvs)/\y=nA ks/\kvs.length<sizeLine/\E.nx Δ (aw M3 a (.dT (eP kvs ks d)))
theorem EE{p:Pos}(hu:X.A.units+1<cLine) (ho:PEd X o to) (hi:PEd X i ti) (he:PEd X e te) (hs:swapsWith e (some (.Subscript o i p)) pos.line X.env=pure false:=by rfl):PSd X (.Assign [.Subscript o i p] e pos) (rA to ti te) :=
 PS.conv (pU hu ho hi he hs) fun D σ H ⟨Δ,M,E,sr,hr,q,k⟩=>⟨Δ,M,_,sr,hr,q,fun d M1 v H1 q1 e1 hr1 rv=>⟨Δ,M1,_,sr.ext e1,hr1,q1,fun x M2 u H2 q2 e2 hr2 ru=>⟨Δ,M2,_,(sr.ext e1).ext e2,hr2,q2,fun y M3 w H3 ⟨a,kvs,ky,ex,em,ey,hz,q3⟩ e3 hr3 rw_=>by
  subst ex;subst ey
  simp only[Rep]at ru
  subst ru
  obtain⟨ks,h3,kr⟩:=hr3 a _ em
  obtain⟨b,rfl,hb⟩:=jJ rw_
  have ew:Ext M3 H3 (aw M3 a (.dT (eP kvs ky d))) (upd H3 a (.dT (dO ks ky v))):=Ext.write em
  refine⟨a,_,rfl,pP.t h3 hb (by rw[<-kr.length];exact hz),?_⟩
  exact k.nx Δ _ σ _ q3 (((e1.trans e2).trans e3).trans ew) (hr3.put ew ⟨_,aC,(kr.put ky ((rv.ext e2).ext e3)).ext ew⟩) ((((sr.ext e1).ext e2).ext e3).ext ew)⟩⟩⟩
def ph(to ti te:TEd):TEd:=fun Δ M Q=>to Δ M fun x M1=>(asT M1 x).isSome=true/\ti Δ M1 fun y M2=>te Δ M2 fun z M3=>∃kvs ks,asT M3 x=some kvs/\y=nA ks/\Q ((bp kvs ks).getD z) M3
theorem Ca{aW aG:Pos}(hu:X.A.units+1<cLine) (ho:PEd X o to) (hi:PEd X i ti) (he:PEd X e te) (m:M2 X o "get" aW i e aG):PEd X (.Call (.Attribute o "get" aW) [i,e] [] aG) (ph to ti te) :=
 PE.conv (mv hu ho hi he m) fun σ H Q ⟨Δ,M,R,sr,hr,q,k⟩=>⟨Δ,M,_,sr,hr,q,fun x M1 v H1 ⟨hx,q1⟩ e1 hr1 rv=>by
  obtain⟨kvs0,ex⟩:=Option.isSome_iff_exists.mp hx
  obtain⟨a,ks0,rfl,h1,kr0⟩:=lE hr1 rv ex
  refine⟨a,rfl,.inr ⟨ks0,h1⟩,Δ,M1,_,sr.ext e1,hr1,q1,fun y M2 u H2 q2 e2 hr2 ru=>?_⟩
  refine⟨Δ,M2,_,(sr.ext e1).ext e2,hr2,q2,fun z M3 w H3 ⟨kvs,ky,ea,ey,q3⟩ e4 hr4 rw_=>?_⟩
  subst ey
  obtain⟨a',ks,ea',h3,kr⟩:=lE hr4 ((rv.ext e2).ext e4) ea
  cases ea'
  obtain⟨b,rfl,hb⟩:=jJ (ru.ext e4)
  refine⟨dZ ks ky,.inr ⟨ks,ky,b,h3,rfl,hb,rfl⟩,?_⟩
  cases ed:bp kvs ky with
  |some d =>
   obtain⟨w',hw,rw'⟩:=(kr.val ky).1 d ed
   rw[hw];rw[ed]at q3
   exact k _ M3 _ H3 q3 ((e1.trans e2).trans e4) hr4 rw'
  |none =>
   have:=(kr.val ky).2
   rw[ed]at this q3
   have hn:dZ ks ky=none:=by simpa using this
   rw[hn]
   exact k _ M3 _ H3 q3 ((e1.trans e2).trans e4) hr4 rw_⟩
def tF(to ti te:TEd):TEd:=fun Δ M Q=>to Δ M fun x M1=>(asK M1 x).isSome=true/\ti Δ M1 fun y M2=>te Δ M2 fun z M3=>∃kvs k,asK M3 x=some kvs/\y=kD k/\Q ((bp kvs k).getD z) M3
theorem B3{aW aG:Pos}(hu:X.A.units+1<cLine) (ho:PEd X o to) (hi:PEd X i ti) (he:PEd X e te) (m:M2 X o "get" aW i e aG):PEd X (.Call (.Attribute o "get" aW) [i,e] [] aG) (tF to ti te) :=
 PE.conv (mv hu ho hi he m) fun σ H Q ⟨Δ,M,R,sr,hr,q,k⟩=>⟨Δ,M,_,sr,hr,q,fun x M1 v H1 ⟨hx,q1⟩ e1 hr1 rv=>by
  obtain⟨kvs0,ex⟩:=Option.isSome_iff_exists.mp hx
  obtain⟨a,ks0,rfl,h1,kr0⟩:=qy hr1 rv ex
  refine⟨a,rfl,.inl ⟨ks0,h1⟩,Δ,M1,_,sr.ext e1,hr1,q1,fun y M2 u H2 q2 e2 hr2 ru=>?_⟩
  refine⟨Δ,M2,_,(sr.ext e1).ext e2,hr2,q2,fun z M3 w H3 ⟨kvs,ky,ea,ey,q3⟩ e4 hr4 rw_=>?_⟩
  subst ey
  obtain⟨a',ks,ea',h3,kr⟩:=qy hr4 ((rv.ext e2).ext e4) ea
  cases ea'
  refine⟨dZ ks ky,.inl ⟨ks,ky,h3,ke ru,rfl⟩,?_⟩
  cases ed:bp kvs ky with
  |some d =>
   obtain⟨w',hw,rw'⟩:=(kr.val ky).1 d ed
   rw[hw];rw[ed]at q3
   exact k _ M3 _ H3 q3 ((e1.trans e2).trans e4) hr4 rw'
  |none =>
   have:=(kr.val ky).2
   rw[ed]at this q3
   have hn:dZ ks ky=none:=by simpa using this
   rw[hn]
   exact k _ M3 _ H3 q3 ((e1.trans e2).trans e4) hr4 rw_⟩
end
/-! ### instances of ours -/
def rJ(f:Str) (d:D):List (Str×D)->List (Str×D)
 |[]=>[(f,d)]
 |(g,x)::r=>if g=f then(g,d)::r else(g,x)::rJ f d r
section
variable{K:PySem.W.Frag}{M:DH}{H:Hp}
theorem KR.putF{f:Str}{d:D}{v:V}(rv:Rep K M H d v):∀{fs:List (Str×D)}{gs:List (Str×V)},KR K M H fs gs->KR K M H (rJ f d fs) (L2.putF f v gs):=by
 intro fs gs h
 unfold KR at h ⊢
 induction h with
 |nil=>exact .cons ⟨rfl,rv⟩ .nil
 |@cons p q ps qs r t ih =>
  obtain⟨g,x⟩:=p
  obtain⟨g',y⟩:=q
  obtain⟨rfl,r2⟩:=r
  simp only[rJ,L2.putF]
  split
  ·exact .cons ⟨rfl,rv⟩ t
  ·exact .cons ⟨rfl,r2⟩ ih
theorem KR.look{f:Str}{d:D}:∀{fs:List (Str×D)}{gs:List (Str×V)},KR K M H fs gs->fs.lookup f=some d->∃v,gs.lookup f=some v/\Rep K M H d v:=by
 intro fs gs h
 unfold KR at h
 induction h with
 |nil=>intro e;cases e
 |@cons p q ps qs r t ih =>
  obtain⟨g,x⟩:=p
  obtain⟨g',y⟩:=q
  obtain⟨rfl,r2⟩:=r
  intro e
  simp only[List.lookup_cons]at e ⊢
  split at e
  ·cases e;exact⟨y,rfl,r2⟩
  ·exact ih e
end
section
variable{X:Cx}{e o:Expr}{es:List Expr}{te to:TEd}{t:TAd}{pos p pos':Pos}{f x:Str}{C:Addr}
def xb(C:Addr) (f:Str) (te:TEd):TEd:=fun Δ M Q=>te Δ M fun d M1=>∃a fs z,d=.ref a/\M1 a=some (.ins C fs)/\fs.lookup f=some z/\Q z M1
theorem Gg(c:Cls X.K C) (n:cT X.K C f) (he:PEd X e te) (hb:attributeBase e f X.env (eval e X.env)=eval e X.env:=by rfl):PEd X (.Attribute e f pos) (xb C f te) :=
 PE.conv (DY he hb) fun σ H Q ⟨Δ,M,R,sr,hr,q,k⟩=>⟨Δ,M,_,sr,hr,q,fun d M1 v H1 ⟨a,fs,z,ed,em,el,q1⟩ e1 hr1 rv=>by
  subst ed
  simp only[Rep]at rv
  subst rv
  obtain⟨gs,⟨dx,h1⟩,kr⟩:=hr1 a _ em
  obtain⟨w,hw,rw_⟩:=kr.look el
  exact⟨a,C,dx,gs,w,rfl,h1,c,n,hw,k z M1 w H1 q1 e1 hr1 rw_⟩⟩
def xS(C:Addr) (f:Str) (to te:TEd):TSd:=fun E Δ M=>te Δ M fun y M1=>to Δ M1 fun d M2=>∃a fs,d=.ref a/\M2 a=some (.ins C fs)/\fs.length<1000/\E.nx Δ (aw M2 a (.ins C (rJ f y fs)))
theorem DX(c:Cls X.K C) (n:cT X.K C f) (ho:PEd X o to) (he:PEd X e te) (hs:swapsWith e (some (.Attribute o f pos')) pos.line X.env=pure false:=by rfl):PSd X (.Assign [.Attribute o f pos'] e pos) (xS C f to te) :=
 PS.conv (DO ho he hs) fun D σ H ⟨Δ,M,E,sr,hr,q,k⟩=>⟨Δ,M,_,sr,hr,q,fun y M1 v H1 q1 e1 hr1 rv=>⟨Δ,M1,_,sr.ext e1,hr1,q1,fun d M2 u H2 ⟨a,fs,ed,em,hl,q2⟩ e2 hr2 ru=>by
  subst ed
  simp only[Rep]at ru
  subst ru
  obtain⟨gs,⟨dx,h2⟩,kr⟩:=hr2 a _ em
  have ew:Ext M2 H2 (aw M2 a (.ins C (rJ f y fs))) (upd H2 a (.ins C dx (L2.putF f v gs))):=Ext.write em
  refine⟨a,C,dx,gs,rfl,h2,c,n,by rw[<-kr.length];exact hl,?_⟩
  exact k.nx Δ _ σ _ q2 ((e1.trans e2).trans ew) (hr2.put ew ⟨_,⟨dx,aC⟩,(KR.putF (rv.ext e2) kr).ext ew⟩) (((sr.ext e1).ext e2).ext ew)⟩⟩
structure MkD(P:Program) (w:World) (K:PySem.W.Frag) (mg:Str->Option Value) (base:Heap) (x:Str) (C:Addr) (k n:Nat) (S:SpD):Prop where
 ex:∃(f:Addr) (fd:FuncData) (ps:List Str),Mk K C f/\ba P w K mg base CX0 k f fd ps (spD K n S)/\mg x=some (.ref C)/\dv K fd ps []
def ya(C:Addr) (n:Nat) (S:SpD) (t:TAd):TEd:=fun Δ M Q=>t Δ M fun ds M1=>ds.length+1=n/\∀x,M1 x=none->S (.ref x::ds) (aw M1 x (.ins C [])) fun d M2=>d=.non/\Q (.ref x) M2
theorem C5{k n:Nat}{S:SpD}(F:MkD X.prog X.w X.K X.mg X.base x C k n S) (hr:cA (k+1) X.A) (hg:Gl X x) (ha:PAd X (e::es) t) (hdb:(x==("__debug__":Str))=false:=by decide)
  (he:starEach (e::es) X.env=(false,eval e X.env)::starEach es X.env:=by rfl) (hpl:(backTo pos (starEach es X.env)).any (·.1)=false:=by rfl):PEd X (.Call (.Name x p) (e::es) [] pos) (ya C n S t):=by
 obtain⟨f,fd,ps,h1,h2,h3,h4⟩:=F.ex
 refine PE.conv (Cn h1 h2 hr hg h3 h4 .nil CB ha hdb he hpl) fun σ H Q ⟨Δ,M,R,sr,hr,q,k⟩=>⟨Δ,M,_,sr,hr,q,fun ds M1 vs H1 ⟨hl,q1⟩ e1 hr1 rv=>?_⟩
 intro a dx hx hdx hne
 rw[List.append_nil]
 have hx2:upd H1 dx (.own a) a=none:=by rw[aI (Ne.symm hne)];exact hx
 have ea:Ext M1 H1 M1 (upd H1 dx (.own a)):=Ext.new hr1 hdx
 have ra:=hr1.new (o:=.own a) hdx
 have eb:Ext M1 (upd H1 dx (.own a)) (aw M1 a (.ins C [])) (upd (upd H1 dx (.own a)) a (.ins C dx [])):=Ext.own hx2
 have rb:=ra.put eb ⟨[],⟨dx,aC⟩,.nil⟩
 refine⟨.ref a::ds,_,_,by rw[List.length_cons];exact hl,aq.cons (by simp only[Rep]) ((rv.ext ea).ext eb),rb,q1 a (hr1.fresh hx),fun d M' v H' ⟨ed,q2⟩ e' hr' rv'=>?_⟩
 subst ed
 simp only[Rep]at rv'
 exact⟨rv',k _ M' _ H' q2 (((e1.trans ea).trans eb).trans e') hr' (by simp only[Rep])⟩
end
/-! ### a dict that is ours becomes a box -/
section
variable{X:Cx}{e:Expr}{te:TEd}
def GI(t:TE):TE:=fun σ H Q=>t σ H fun x H1=>∃a ks,x=.ref a/\H1 a=some (.dT ks)/\∀o,Q x (upd H1 a (.frz o (.dT ks)))
theorem Ck{t:TE}(h:PE X e t):PE X e (GI t):=by
 intro ae s σ H Q I q
 refine thn (h ae s σ H _ I q) fun v s1 ⟨x,H1,I1,r,a,ks,ex,ea,q1⟩=>?_
 obtain⟨o,_,I2⟩:=I1.freezeT ea
 exact⟨x,_,I2,r,q1 o⟩
def Gf(t:TE):TE:=fun σ H Q=>t σ H fun x H1=>∃a ks,x=.ref a/\H1 a=some (.dK ks)/\∀o,Q x (upd H1 a (.frz o (.dK ks)))
theorem BB{t:TE}(h:PE X e t):PE X e (Gf t):=by
 intro ae s σ H Q I q
 refine thn (h ae s σ H _ I q) fun v s1 ⟨x,H1,I1,r,a,ks,ex,ea,q1⟩=>?_
 obtain⟨o,_,I2⟩:=I1.freeze ea
 exact⟨x,_,I2,r,q1 o⟩
theorem de{κ β:Type}:∀l:List (κ×β),(l.map (·.1)).zip (l.map (·.2))=l
 |[]=>rfl
 |p::l=>by rw[List.map_cons,List.map_cons,List.zip_cons_cons,de l]
theorem vn{K:PySem.W.Frag}{M:DH}{H:Hp}{κ:Type}{kvs:List (κ×D)}{ks:List (κ×V)}(h:KR K M H kvs ks):aq K M H (kvs.map (·.2)) (ks.map (·.2)):=by
 unfold KR at h
 induction h with
 |nil=>exact aq.nil
 |cons r _ ih=>exact aq.cons r.2 ih
def ix(kvs:List (List Key×D)):D:=.box (.dt (kvs.map (·.1))) (kvs.map (·.2))
def gy(kvs:List (Key×D)):D:=.box (.dk (kvs.map (·.1))) (kvs.map (·.2))
theorem qW{M:DH}{kvs:List (List Key×D)}:asT M (ix kvs)=some kvs:=by unfold ix;rw[A7,de]
theorem jN{M:DH}{kvs:List (Key×D)}:asK M (gy kvs)=some kvs:=by unfold gy;rw[Bw,de]
theorem jb{M1:DH}{H1:Hp}{a:Addr}{u:HD}{o:HO}(em:M1 a=some u):Ext M1 H1 (fK M1 a) (upd H1 a o):=fun b w z n=>by
 have hb:b≠a:=fun w=>by rw[w,em]at n;cases n
 rw[aI hb,lD hb];exact⟨z,n⟩
theorem zk{K:PySem.W.Frag}{M1:DH}{H1:Hp}{a:Addr}{u:HD}{o:HO}(hr:HR K M1 H1) (em:M1 a=some u):HR K (fK M1 a) (upd H1 a o):=fun b w z=>by
 have hb:b≠a:=fun w=>by rw[w,df]at z;cases z
 rw[lD hb]at z
 exact(hr b w z).keep (jb em) (aI hb)
def vI(te:TEd):TEd:=fun Δ M Q=>te Δ M fun d M1=>∃a kvs,d=.ref a/\M1 a=some (.dT kvs)/\Q (ix kvs) (fK M1 a)
theorem C0(h:PEd X e te):PEd X e (vI te) :=
 PE.conv (Ck h) fun σ H Q ⟨Δ,M,R,sr,hr,q,k⟩=>⟨Δ,M,_,sr,hr,q,fun d M1 v H1 ⟨a,kvs,ed,em,q1⟩ e1 hr1 rv=>by
  subst ed
  simp only[Rep]at rv
  subst rv
  obtain⟨ks,h1,kr⟩:=hr1 a _ em
  refine⟨a,ks,rfl,h1,fun o=>k _ _ _ _ q1 (e1.trans (jb em)) (zk hr1 em) ?_⟩
  simp only[ix,Rep,gp]
  refine⟨a,ks.map (·.2),rfl,⟨by rw[List.length_map,List.length_map];exact kr.length,⟨o,?_⟩,df⟩,(vn kr).ext (jb em)⟩
  rw[aC,kr.keys,de]⟩
def uv(te:TEd):TEd:=fun Δ M Q=>te Δ M fun d M1=>∃a kvs,d=.ref a/\M1 a=some (.dK kvs)/\Q (gy kvs) (fK M1 a)
theorem Es(h:PEd X e te):PEd X e (uv te) :=
 PE.conv (BB h) fun σ H Q ⟨Δ,M,R,sr,hr,q,k⟩=>⟨Δ,M,_,sr,hr,q,fun d M1 v H1 ⟨a,kvs,ed,em,q1⟩ e1 hr1 rv=>by
  subst ed
  simp only[Rep]at rv
  subst rv
  obtain⟨ks,h1,kr⟩:=hr1 a _ em
  refine⟨a,ks,rfl,h1,fun o=>k _ _ _ _ q1 (e1.trans (jb em)) (zk hr1 em) ?_⟩
  simp only[gy,Rep,gp]
  refine⟨a,ks.map (·.2),rfl,⟨by rw[List.length_map,List.length_map];exact kr.length,⟨o,?_⟩,df⟩,(vn kr).ext (jb em)⟩
  rw[aC,kr.keys,de]⟩
end
/-! ### the items of a box -/
def Cy(a:Addr) (o:Obj) (ks:List (Key×V)):It :=
 ⟨fun i H=>H a=some (.frz o (.dK ks))/\i<ks.length,fun i H x H'=>∃T k v,x=.ref T/\H T=none/\ks[i]?=some (k,v)/\H'=upd H T (.tup [kV k,v]),fun i H=>H a=some (.frz o (.dK ks))/\ks.length<=i⟩
section
variable{X:Cx}{ae:List (Addr×Obj)}{σ:St}{H:Hp}{s:Shared}{a:Addr}{o:Obj}{ks:List (Key×V)}
theorem qO{P:Program}{w:World}{K:PySem.W.Frag}{elts:List Expr}{x1:Nat}{pt:Pos}(it:Addr) {ep:Nat}{es:Array DictEntry}(hd:o.data=.dict es ep) (hl:es.size=ks.length):gK P w K (.Tuple elts x1 pt) (Cy a o ks) [it] it (fun i h=>∃ok ov,IsItemIter h it a i es.size ep ok ov) where
 mem:=by simp
 obj:=fun i h st b hb=>by
  have e:b=it:=by simpa using hb
  subst e
  obtain⟨ok,ov,q⟩:=st
  exact⟨_,q,fun v z=>by cases z⟩
 keep:=fun i h h' ⟨ok,ov,q⟩ k=>⟨ok,ov,k it (by simp) _ q⟩
 item:=by
  intro X hP hw hK hc i ae s σ H E I hf st hg
  subst hP hw hK
  obtain⟨e,hi⟩:=hg
  obtain⟨hget,hz,hs,vs,rel,o',es',ep',q',c,d',hk,hp,_⟩:=I.hok a _ e
  rw[hget]at q';cases q'
  rw[hd]at d';cases d'
  obtain⟨ok,ov,hit⟩:=st
  obtain⟨⟨k,v⟩,hkv⟩:∃p,ks[i]?=some p:=⟨ks[i],by simp[hi]⟩
  obtain⟨⟨k',u⟩,hx,rk,ru⟩:=dU rel i _ hkv
  have hlt:i<es.size:=by omega
  obtain⟨hkey,hval⟩:=hp.get? (e:=es[i]) (by simp[hlt]) hx
  have rkey:aD (kV k) es[i].key:=by
   have:k=k':=rk
   rw[this];exact qa hkey
  have rval:aD v es[i].val:=by rw[hval];exact ru
  refine ng hit hget hd hlt fun h1 hout hT hsz keep=>⟨_,rfl,?_⟩
  have fe:=hf it (by simp)
  have In:H s.heap.objs.size=none:=I.hok.fresh (Nat.le_refl _)
  have eT:it<s.heap.objs.size:=Heap.lt_size hit
  have I1:Inv X ae σ (upd H s.heap.objs.size (.tup [kV k,v])) { s with heap:=s.heap.push { cls:=.type "tuple",data:=.seq #[es[i].key,es[i].val] } } :=
   I.laid (t':=s.toks) (fun b o q=>Heap.get?_push_of_some _ q) (Nat.le_refl _) ⟨by simp only[List.length_cons,List.length_nil];rw[sizeLine_eq];decide,[es[i].key,es[i].val],.cons rkey (.cons rval .nil),⟨_,Heap.get?_push_size s.heap rfl,rfl,⟨0,rfl⟩,rfl⟩⟩
  have fe1:cJ X ae (upd H s.heap.objs.size (.tup [kV k,v])) it:=fe.upd (Nat.ne_of_lt eT)
  obtain⟨g0,g1,g2,g3,g4,g5⟩:=fe1
  have I2:=I1.turned (t':=s.toks) (h':=h1) (it:=it) (fun b o hb q=>by
   rcases Heap.get?_push_cases q with z|z
   ·rw[z.1,z.2];exact hT
   ·exact keep b o hb z) g0 g1 g3 g4 g5
  refine wpAny_letOwnedTupleGo_items hout fun h2 he2 hs2=>?_
  have I3:=I2.turned (t':=s.toks) (h':=h2) (it:=it) (fun b o hb q=>(hs2.2 b hb).trans q) g0 g1 g3 g4 g5
  refine⟨.ref s.heap.objs.size,_,I3,rfl,⟨_,k,v,rfl,In,hkv,rfl⟩,⟨_,_,he2⟩,fun b hb=>?_⟩
  rw[show b=it by simpa using hb];exact g0
 done:=by
  intro X hP hw hK hc i ae s σ H E I hf st hg
  subst hP hw hK
  obtain⟨e,hi⟩:=hg
  obtain⟨hget,_⟩:=I.hok a _ e
  obtain⟨ok,ov,hit⟩:=st
  obtain⟨f0,f1,f2,f3,f4,f5⟩:=hf it (by simp)
  exact ic (I.ok.hd hc) hit hget hd (by omega) fun h' eb=>⟨rfl,I.turned (t':=s.toks) (fun b o hb q=>eb b o hb q) f0 f1 f3 f4 f5⟩
 self:=fun A i s Q E ⟨ok,ov,q⟩ h=>nQ q h
end
section
variable{X:Cx}{l:Expr}{tl:TE}{te:TEd}{elts:List Expr}{x1:Nat}{pt aW aG:Pos}
def HQ(tl:TE):TI:=fun σ H R=>tl σ H fun x H1=>∃a o ks,x=.ref a/\H1 a=some (.frz o (.dT ks))/\R (FF a o ks) H1
theorem wu(hl:PE X l tl) (bG:attributeBase l "items" X.env (eval l X.env)=eval l X.env:=by rfl) (bE:(aW.endLine==aG.line)=true:=by rfl):PI X (.Tuple elts x1 pt) (.Call (.Attribute l "items" aW) [] [] aG) (HQ tl):=by
 intro ae s σ H R I h
 refine wpAny_Call_method0_late bG bE (thn (hl ae s σ H _ I h) fun v s1 ⟨x,H1,I1,r1,q1⟩=>?_)
 obtain⟨a,o,ks,e,ea,q⟩:=q1
 subst e
 cases r1
 obtain⟨t1,t2,_⟩:=tN I1 (.inr ⟨ks,.inr ⟨o,ea⟩⟩)
 obtain⟨ho,_,hs,xs,rel,o',es,ep,q',c,hd,r,_⟩:=I1.hok a _ ea
 rw[ho]at q';cases q'
 refine⟨"dict","dict.items",PySem.F.plainAttrs_dict,PySem.F.slot_dict_items,PySem.F.type_dict_items,t1,t2,Calls.callWith_builtin rfl (PySem.evalArgs_none ?_)⟩
 refine mM hs ho c hd ?_
 have I3:=I1.kept (t':=s1.toks) (h':=s1.heap.push { cls:=.type "dict_items",data:=.fields #[.ref a] }) fun b o e=>Heap.get?_push_of_some _ e
 refine mF (d:=a) (od:=o) (es:=es) (ep:=ep) ⟨_,Heap.get?_push_size _ rfl,rfl,rfl⟩ (Heap.get?_push_of_some _ ho) hd fun h' hit keep=>?_
 have I4:=I3.kept (t':=s1.toks) (h':=h') keep
 have bj:es.size=ks.length:=by
  have h1:=congrArg List.length r
  rw[Array.length_toList,List.length_map]at h1
  rw[h1];exact(Paired.length rel).symm
 refine⟨_,[_],_,_,_,rfl,I4,tf _ hd bj,⟨_,_,hit⟩,fun b hb=>?_,q⟩
 have e:=List.mem_singleton.mp hb
 rw[e]
 exact I3.fpOk (Nat.le_refl _) (I3.hok.fresh (Nat.le_refl _))
def Gh(tl:TE):TI:=fun σ H R=>tl σ H fun x H1=>∃a o ks,x=.ref a/\H1 a=some (.frz o (.dK ks))/\R (Cy a o ks) H1
theorem t4(hl:PE X l tl) (bG:attributeBase l "items" X.env (eval l X.env)=eval l X.env:=by rfl) (bE:(aW.endLine==aG.line)=true:=by rfl):PI X (.Tuple elts x1 pt) (.Call (.Attribute l "items" aW) [] [] aG) (Gh tl):=by
 intro ae s σ H R I h
 refine wpAny_Call_method0_late bG bE (thn (hl ae s σ H _ I h) fun v s1 ⟨x,H1,I1,r1,q1⟩=>?_)
 obtain⟨a,o,ks,e,ea,q⟩:=q1
 subst e
 cases r1
 obtain⟨t1,t2,_⟩:=tN I1 (.inl ⟨ks,.inr ⟨o,ea⟩⟩)
 obtain⟨ho,_,hs,vs,rel,o',es,ep,q',c,hd,hk,hp,_⟩:=I1.hok a _ ea
 rw[ho]at q';cases q'
 refine⟨"dict","dict.items",PySem.F.plainAttrs_dict,PySem.F.slot_dict_items,PySem.F.type_dict_items,t1,t2,Calls.callWith_builtin rfl (PySem.evalArgs_none ?_)⟩
 refine mM hs ho c hd ?_
 have I3:=I1.kept (t':=s1.toks) (h':=s1.heap.push { cls:=.type "dict_items",data:=.fields #[.ref a] }) fun b o e=>Heap.get?_push_of_some _ e
 refine mF (d:=a) (od:=o) (es:=es) (ep:=ep) ⟨_,Heap.get?_push_size _ rfl,rfl,rfl⟩ (Heap.get?_push_of_some _ ho) hd fun h' hit keep=>?_
 have I4:=I3.kept (t':=s1.toks) (h':=h') keep
 have bj:es.size=ks.length:=by
  have h1:=hp.length
  rw[Array.length_toList]at h1
  rw[h1];exact(Paired.length rel).symm
 refine⟨_,[_],_,_,_,rfl,I4,qO _ hd bj,⟨_,_,hit⟩,fun b hb=>?_,q⟩
 have e:=List.mem_singleton.mp hb
 rw[e]
 exact I3.fpOk (Nat.le_refl _) (I3.hok.fresh (Nat.le_refl _))
def uI(te:TEd):TId:=fun Δ M R=>te Δ M fun d M1=>∃kvs,d=ix kvs/\R (kvs.map fun p=>.tup [nA p.1,p.2]) M1
theorem Gd(he:PEd X l te) (bG:attributeBase l "items" X.env (eval l X.env)=eval l X.env:=by rfl) (bE:(aW.endLine==aG.line)=true:=by rfl):PId X (.Tuple elts x1 pt) (.Call (.Attribute l "items" aW) [] [] aG) (uI te):=fun ae s σ H R I h =>
 PI.conv (wu he bG bE) (fun σ H R ⟨Δ,M,R',sr,hr,q,k⟩=>⟨Δ,M,_,sr,hr,q,fun d M1 v H1 ⟨kvs,ed,q1⟩ e1 hr1 rv=>by
  subst ed
  simp only[ix,Rep,gp]at rv
  obtain⟨a,vs,rfl,⟨hl,⟨o,ha⟩,na⟩,rl⟩:=rv
  refine⟨a,o,_,rfl,ha,k _ _ _ _ q1 e1 hr1 ?_⟩
  have kr0:KR X.K M1 H1 kvs ((kvs.map (·.1)).zip vs):=by
   have:=mn hl rl
   rwa [de]at this
  have bj:kvs.length=((kvs.map (·.1)).zip vs).length:=kr0.length
  intro M2 H2 e3 hr3 i
  have ea:=(e3 a _ ha na).1
  refine⟨fun d hd=>?_,fun hl=>⟨ea,?_⟩⟩
  ·rw[List.getElem?_map]at hd
   cases q:kvs[i]? with
   |none=>rw[q]at hd;cases hd
   |some p =>
    rw[q]at hd;cases hd
    have hi:i<kvs.length:=(List.getElem?_eq_some_iff.mp q).1
    refine⟨⟨ea,by rw[<-bj];exact hi⟩,fun x H' hy=>?_⟩
    obtain⟨T,q',k',v',ex,hT,hk,hq,eH⟩:=hy
    subst eH;subst ex
    obtain⟨y,hy,ek,rv⟩:=dU (kr0.ext e3) i p q
    rw[hk]at hy;cases hy
    have en:Ext M2 H2 M2 (upd H2 T (.tup [.ref q',v'])):=Ext.new hr3 hT
    have hn:=hr3.new (o:=.tup [.ref q',v']) hT
    refine⟨en,hn,?_⟩
    have mq:M2 q'=none:=by
     cases hm:M2 q' with
     |none=>rfl
     |some u =>
      obtain⟨w,z,nw⟩:=(hr3 q' u hm).some
      rw[hq]at z;cases z
      exact absurd rfl (nw _).1
    have rk:Rep X.K M2 H2 (nA p.1) (.ref q'):=lx.mpr ⟨q',_,rfl,⟨hq,mq⟩,by
     have:p.1=k':=ek
     rw[this];exact qu _⟩
    rw[Rep]
    exact⟨T,_,rfl,.inl ⟨.inl aC,hr3.fresh hT⟩,aq.cons (rk.ext en) (aq.cons (Rep.ext rv en) aq.nil)⟩
  ·rw[<-bj];simpa using hl⟩) ae s σ H R I h
def yV(te:TEd):TId:=fun Δ M R=>te Δ M fun d M1=>∃kvs,d=gy kvs/\R (kvs.map fun p=>.tup [kD p.1,p.2]) M1
theorem Hy(he:PEd X l te) (bG:attributeBase l "items" X.env (eval l X.env)=eval l X.env:=by rfl) (bE:(aW.endLine==aG.line)=true:=by rfl):PId X (.Tuple elts x1 pt) (.Call (.Attribute l "items" aW) [] [] aG) (yV te):=fun ae s σ H R I h =>
 PI.conv (t4 he bG bE) (fun σ H R ⟨Δ,M,R',sr,hr,q,k⟩=>⟨Δ,M,_,sr,hr,q,fun d M1 v H1 ⟨kvs,ed,q1⟩ e1 hr1 rv=>by
  subst ed
  simp only[gy,Rep,gp]at rv
  obtain⟨a,vs,rfl,⟨hl,⟨o,ha⟩,na⟩,rl⟩:=rv
  refine⟨a,o,_,rfl,ha,k _ _ _ _ q1 e1 hr1 ?_⟩
  have kr0:KR X.K M1 H1 kvs ((kvs.map (·.1)).zip vs):=by
   have:=mn hl rl
   rwa [de]at this
  have bj:kvs.length=((kvs.map (·.1)).zip vs).length:=kr0.length
  intro M2 H2 e3 hr3 i
  have ea:=(e3 a _ ha na).1
  refine⟨fun d hd=>?_,fun hl=>⟨ea,?_⟩⟩
  ·rw[List.getElem?_map]at hd
   cases q:kvs[i]? with
   |none=>rw[q]at hd;cases hd
   |some p =>
    rw[q]at hd;cases hd
    have hi:i<kvs.length:=(List.getElem?_eq_some_iff.mp q).1
    refine⟨⟨ea,by rw[<-bj];exact hi⟩,fun x H' hy=>?_⟩
    obtain⟨T,k',v',ex,hT,hk,eH⟩:=hy
    subst eH;subst ex
    obtain⟨y,hy,ek,rv⟩:=dU (kr0.ext e3) i p q
    rw[hk]at hy;cases hy
    have en:Ext M2 H2 M2 (upd H2 T (.tup [kV k',v'])):=Ext.new hr3 hT
    have hn:=hr3.new (o:=.tup [kV k',v']) hT
    refine⟨en,hn,?_⟩
    have e':p.1=k':=ek
    rw[Rep]
    exact⟨T,_,rfl,.inl ⟨.inl aC,hr3.fresh hT⟩,aq.cons (by rw[e'];exact fN) (aq.cons (Rep.ext rv en) aq.nil)⟩
  ·rw[<-bj];simpa using hl⟩) ae s σ H R I h
end
/-! ### comprehensions of any number of clauses,level by level -/
abbrev lcE(el:Expr) (gs:List Comprehension) (sc:Scope) (ps:Pos):Expr:=.ListComp el gs sc ps
section
variable{prog:Program}{w:World}{A:Around}{R:Result->Shared->Prop}{s:Shared}{el tg elt i:Expr}{fs:List Expr}{k:Nat}{p:Pos}{it acc:Value}{env:Env}{gs:List Comprehension}{sc:Scope}{ps:Pos}
abbrev AWt:=(Shared->Prop)->Shared->Prop
def u9(prog:Program) (w:World) (A:Around) (elt:Expr) (acc:Value) (env:Env):AWt:=fun Ok s=>wpAny (model prog w) A (eval elt env) (fun x s₄=>wpAny (model prog w) A (call (.builtin "list.append") [acc,x]) (fun _ s₅=>Ok s₅) (fun _ _=>False) s₄) (fun _ _=>False) s
def vh(prog:Program) (w:World) (A:Around) (ce:Expr) (k:Nat) (i:Expr) (acc:Value) (env:Env):AWt:=fun Ok s=>wpAny (model prog w) A (eval i env) (fun x s₄=>wpAny (model prog w) A (pyIter x) (fun it2 s₅ =>
 codeAny (model prog w) A (.compStart ce k it2 acc env) (fun r s₆=>(∃f,r=.ok f)/\Ok s₆) s₅) (fun _ _=>False) s₄) (fun _ _=>False) s
def wV(ce:Expr) (k:Nat) (p:Pos) (tg:Expr) (fs:List Expr) (bd:Value->Value->Env->Sem Fin):Prop:=∀it acc env,compTurn ce k it acc env=(do
  standAt p
  let r <-pyNext it
  match r with
   |none=>pure (Fin.done Flow.next)
   |some v=>do
    letOwnedTupleGo tg it v
    assign tg env v
    let ok <-forIn fs true fun c r=>if r=true then do let ok <-PySem.isTrue c env (eval c env);pure (ForInStep.yield ok)else pure (ForInStep.yield r)
    if ok=true then bd it acc env else again (Code.compLoop ce k it acc env))
def xw(prog:Program) (w:World) (A:Around) (ce:Expr) (k:Nat) (bd:Value->Value->Env->Sem Fin) (it acc:Value) (env:Env) (AW:AWt):Prop :=
 ∀Ok s (R:Result->Shared->Prop) (E:Value->Shared->Prop),AW Ok s->wpAny (model prog w) A (bd it acc env) (fun fin s'=>match fin with|.done f=>R (.ok f) s'|.again c'=>c'=Code.compLoop ce k it acc env/\Ok s') E s
theorem nL{bd:Value->Value->Env->Sem Fin}{AW:AWt}(hT:wV (lcE el gs sc ps) k p tg fs bd) (hq:(Code.compLoop (lcE el gs sc ps) k it acc env).quiet=true:=by rfl) (hb:xw prog w A (lcE el gs sc ps) k bd it acc env AW) (I:Nat->Shared->Prop)
  (turn:∀ n s,I n s → wpAny (model prog w) A (pyNext it) (fun r s₁ => match r with
   |none=>R (.ok .next) s₁
   | some v => wpAny (model prog w) A (letOwnedTupleGo tg it v) (fun _ s₁ => wpAny (model prog w) A (assign tg env v) (fun _ s₂ =>
     wpAny (model prog w) A (forIn fs true fun c r=>if r=true then do let ok <-isTrue c env (eval c env);pure (ForInStep.yield ok)else pure (ForInStep.yield r)) (fun ok s₃ =>
      if ok=true then AW (fun s₅=>∃m,m<n/\I m s₅) s₃
      else ∃m,m<n/\I m s₃) (fun _ _=>False) s₂) (fun _ _=>False) s₁) (fun _ _=>False) s₁) (fun _ _=>False) s)
  (n:Nat) (h:I n s) :
  codeAny (model prog w) A (.compLoop (lcE el gs sc ps) k it acc env) R s:=by
 refine codeAny_loop hq I (fun n s hI=>?_) n h
 show wpAny _ A ((compTurn (lcE el gs sc ps) k it acc env).onRaise (fun x=>do noteFrame x env;theTreesLotGoes x)) _ _ s
 refine wpAny_noted ?_
 rw[hT]
 refine wpAny_bind (wpAny_standAt (wpAny_bind (wpAny_mono (turn n s hI) (fun r s₁ h₁=>?_) fun _ _ h'=>h'.elim)))
 cases r with
 |none=>exact wpAny_pure h₁
 |some v =>
  refine wpAny_bind (wpAny_mono h₁ (fun _ s1 h₁=>?_) fun _ _ h'=>h'.elim)
  refine wpAny_bind (wpAny_mono h₁ (fun _ s₂ h₂=>wpAny_bind (wpAny_mono h₂ (fun ok s₃ h₃=>?_) fun _ _ h'=>h'.elim)) fun _ _ h'=>h'.elim)
  cases ok with
  |false=>exact wpAny_pure ⟨rfl,h₃⟩
  |true=>exact hb _ _ _ _ h₃
def Cu(ce:Expr) (k:Nat) (elt:Expr):Value->Value->Env->Sem Fin:=fun it acc env=>bind (bind (eval elt env) fun x=>bind (call (Value.builtin "list.append") [acc,x]) fun _=>pure ()) fun(_:Unit)=>again (Code.compLoop ce k it acc env)
def yD(ce:Expr) (k:Nat) (i:Expr):Value->Value->Env->Sem Fin:=fun it acc env=>do
 let x <-eval i env
 standAt i.pos
 let x <-foldedSetIterable i env x
 let it2 <-holding [x] (pyIter x)
 let _ <-runOwn (Code.compStart ce (k+1) it2 acc env) env
 again (Code.compLoop ce k it acc env)
theorem BE:xw prog w A (lcE el gs sc ps) k (Cu (lcE el gs sc ps) k elt) it acc env (u9 prog w A elt acc env):=fun Ok s R E h =>
 wpAny_bind (wpAny_bind (wpAny_mono h (fun x s₄ h₄=>wpAny_bind (wpAny_mono h₄ (fun _ s₅ h₅=>wpAny_pure (wpAny_pure ⟨rfl,h₅⟩)) fun _ _ h'=>h'.elim)) fun _ _ h'=>h'.elim))
theorem vB(hs:∀x,foldedSetIterable i env x=pure x):xw prog w A (lcE el gs sc ps) k (yD (lcE el gs sc ps) k i) it acc env (vh prog w A (lcE el gs sc ps) (k+1) i acc env):=fun Ok s R E h=>by
 refine wpAny_bind (wpAny_mono h (fun x s₄ h₄=>wpAny_bind (wpAny_standAt ?_)) fun _ _ h'=>h'.elim)
 rw[hs x]
 refine wpAny_bind (wpAny_pure (wpAny_bind (wpAny_holding (wpAny_mono h₄ (fun it2 s₅ h₅=>?_) fun _ _ h'=>h'.elim))))
 refine wpAny_bind (wpAny_runOwn (codeAny_mono h₅ fun r s₆ h₆=>?_))
 obtain⟨⟨f,rfl⟩,h₆⟩:=h₆
 exact wpAny_pure ⟨rfl,h₆⟩
def pN(ce:Expr) (k:Nat) (p:Pos):Prop:=∀it acc env,compStart ce k it acc env=(do
  let r <-ask
  if r.params.followText "comprehension-iter-twice"=true then again (Code.compLoop ce k it acc env)
   else do
    rule "comprehension.iter-twice"
    standAt p
    let i <-pyIter it
    again (Code.compLoop ce k i acc env))
theorem mm(hS:pN (lcE el gs sc ps) k p) (h:codeAny (model prog w) A (.compLoop (lcE el gs sc ps) k it acc env) R s)
  (h2:wpAny (model prog w) A (pyIter it) (fun it' s'=>codeAny (model prog w) A (.compLoop (lcE el gs sc ps) k it' acc env) R s') (fun _ _=>False) s) :
  codeAny (model prog w) A (.compStart (lcE el gs sc ps) k it acc env) R s:=by
 refine codeAny_of_tree ?_
 show wpAny _ A ((compStart (lcE el gs sc ps) k it acc env).onRaise (fun x=>do noteFrame x env;standAt theWindowsPlace)) _ _ s
 refine wpAny_onRaise ?_
 rw[hS]
 refine wpAny_bind (wpAny_askSetting ?_)
 dsimp only
 split
 ·exact wpAny_pure ⟨rfl,h⟩
 ·exact wpAny_bind (wpAny_rule (wpAny_bind (wpAny_standAt (wpAny_bind (wpAny_mono h2 (fun it' s' h'=>wpAny_pure ⟨rfl,h'⟩) fun _ _ h'=>h'.elim)))))
end
/-! the levels' readings -/
abbrev BK:=List V->St->Hp->(List V->St->Hp->Prop)->Prop
def mU(J:It) (g:TG) (tc:TT) (B:BK) (W:Nat->Nat->List V->St->Hp->Prop) (Z:List V->St->Hp->Prop):Prop :=
 ∀i m ys σ H,W i m ys σ H->ys.length<=sizeLine/\((J.stop i H/\Z ys σ H) ∨
  (J.go i H/\∀x H',J.yld i H x H'->g x σ H' fun σ2 H2=>tc σ2 H2 fun b H3=>if b=true then B ys σ2 H3 (fun ys' σ' H'=>∃m',m'<m/\W (i+1) m' ys' σ' H')else ∃m',m'<m/\W (i+1) m' ys σ2 H3))
def vb(te:TE):BK:=fun ys σ H Z=>te σ H fun y H'=>Z (ys++[y]) σ H'
def oG(wi:TI) (g:TG) (tc:TT) (B:BK):BK:=fun ys σ H Z=>wi σ H fun J H'=>∃W:Nat->Nat->List V->St->Hp->Prop,(∃m,W 0 m ys σ H')/\mU J g tc B W Z
section
variable{Y:Cx}{D:Addr}{el tg elt i1:Expr}{fs:List Expr}{g:TG}{tc:TT}{te:TE}{wi:TI}{B:BK}{k:Nat}{p:Pos}{gs:List Comprehension}{sc:Scope}{ps:Pos}
def vC(Y:Cx) (D:Addr) (AW:AWt) (B:BK):Prop:=∀(P:List (Addr×Obj)) (its:List Value) (nn:Nat) (ys:List V) (σ:St) (H:Hp) (s:Shared) (Z:List V->St->Hp->Prop),Inv Y ([(D,bS its nn)]++P) σ H s->aA ys its->ys.length<=sizeLine->(∀p∈P,p.1≠D)->B ys σ H Z ->
 AW (fun s'=>∃ys' its' n' σ' H',Inv Y ([(D,bS its' n')]++P) σ' H' s'/\aA ys' its'/\Z ys' σ' H') s
structure uD(Y:Cx) (D:Addr):Prop where
 pn:Y.pn=[]
 calm:Y.calm=true
 xe:Y.xe=fun _ _=>False
 ex:D∈Y.ex∨Y.s₀.heap.objs.size<=D
 cell:∀x c,Y.env.cells.lookup x=some c->c≠D
theorem AWt.mono_leaf{prog:Program}{w:World}{A:Around}{acc:Value}{env:Env}{Ok Ok':Shared->Prop}{s:Shared}(h:u9 prog w A elt acc env Ok s) (k:∀s,Ok s->Ok' s):u9 prog w A elt acc env Ok' s :=
 wpAny_mono h (fun _ _ h1=>wpAny_mono h1 (fun _ _ h2=>k _ h2) fun _ _ x=>x) fun _ _ x=>x
theorem yi(c:uD Y D) (he:PE Y elt te):vC Y D (u9 Y.prog Y.w Y.A elt (.ref D) Y.env) (vb te):=by
 intro P its nn ys σ H s Z I rv hz hPD q
 refine thF c.xe (he _ s σ H _ I q) fun v s9 ⟨y,H9,I9,r9,q9⟩=>?_
 have pacc:=I9.pin (D,bS its nn) (List.mem_append_right _ (List.mem_append_left _ List.mem_cons_self))
 have hzi:its.toArray.size<=sizeLine:=by rw[List.size_toArray,<-rv.length];exact hz
 refine PySem.wpAny_list_append_plain (hsz:=hzi) ⟨nn,pacc.1⟩ fun h' hl' hs'=>?_
 obtain⟨n',hl'⟩:=hl'
 have I10:Inv Y [] σ H9 { s9 with heap:=h' } :=
  Inv.turned (t':=s9.toks) (it:=D) (I9.pins_of fun p hp=>absurd hp (by simp)) (fun b o hb e=>(hs'.2 b hb).trans e) pacc.2.1 pacc.2.2.1 c.ex c.cell (fun p hp=>absurd (show p∈([]:List (Addr×Obj))from by rw[c.pn]at hp;exact hp) (by simp))
 refine⟨ys++[y],its++[v],n',σ,H9,I10.pins_of fun p hp=>?_,rv.append (.cons r9 .nil),q9⟩
 rcases List.mem_append.mp hp with z|z
 ·have e:p=(D,bS (its++[v]) n'):=List.mem_singleton.mp z
  subst e
  refine⟨?_,pacc.2.1,pacc.2.2.1,pacc.2.2.2.1,fun v z=>by cases z⟩
  rw[hl']
  simp[bS]
 ·obtain⟨b1,b2,b3,b4,b5⟩:=I9.pin p (List.mem_append_right _ (List.mem_append_right _ z))
  exact⟨(hs'.2 _ (hPD p z)).trans b1,b2,b3,b4,b5⟩
theorem oU{bd:Value->Value->Env->Sem Fin}{AW:AWt}(c:uD Y D) (hT:wV (lcE el gs sc ps) k p tg fs bd) {it2:Addr}(hq:(Code.compLoop (lcE el gs sc ps) k (.ref it2) (.ref D) Y.env).quiet=true) (hb:xw Y.prog Y.w Y.A (lcE el gs sc ps) k bd (.ref it2) (.ref D) Y.env AW) (hB:vC Y D AW B)
  (hAW:∀{Ok Ok':Shared->Prop} {s:Shared},AW Ok s->(∀s,Ok s->Ok' s)->AW Ok' s)
  (hg:PG Y tg g) (hif:PIf Y fs tc) {P:List (Addr×Obj)} (hPD:∀p∈P,p.1≠D)
  {its0:List Value} {nn0:Nat} {ys0:List V} {σ:St} {H:Hp} {s:Shared} (I:Inv Y ([(D,bS its0 nn0)]++P) σ H s) (rv0:aA ys0 its0) {fp2:List Addr} {tn2:Nat->Heap->Prop} {J2:It} (T:gK Y.prog Y.w Y.K tg J2 fp2 it2 tn2) (st:tn2 0 s.heap)
  (f:∀b∈fp2,cJ Y ([(D,bS its0 nn0)]++P) H b) {W2:Nat->Nat->List V->St->Hp->Prop} {Z2:List V->St->Hp->Prop} {m0:Nat} (w0:W2 0 m0 ys0 σ H) (turn:mU J2 g tc B W2 Z2) {R:Result->Shared->Prop}
  (hR:∀(s':Shared) (ys:List V) (its:List Value) (n:Nat) (σ':St) (H':Hp),Inv Y ([(D,bS its n)]++P) σ' H' s'->aA ys its->ys.length<=sizeLine->Z2 ys σ' H'->R (.ok .next) s') :
  codeAny (model Y.prog Y.w) Y.A (.compLoop (lcE el gs sc ps) k (.ref it2) (.ref D) Y.env) R s:=by
 have fpc:∀{H:Hp} {n:Nat} {its:List Value},(∀b∈fp2,H b=none)->∀b∈fp2,cJ Y ([(D,bS its n)]++P) H b:=fun hn b hb=>by
  obtain⟨_,a1,a2,a3,a4,a5⟩:=f b hb
  refine⟨hn b hb,a1,a2,a3,a4,fun p hp=>?_⟩
  rw[c.pn,List.nil_append]at hp
  rcases List.mem_append.mp hp with z|z
  ·obtain rfl:=List.mem_singleton.mp z
   exact a5 (D,bS its0 nn0) (by rw[c.pn];simp)
  ·exact a5 p (by rw[c.pn];simp[z])
 refine nL hT hq hb (fun n s'=>∃i ys its nn σ' H',Inv Y ([(D,bS its nn)]++P) σ' H' s'/\aA ys its/\tn2 i s'.heap/\(∀b∈fp2,H' b=none)/\W2 i n ys σ' H') ?_ m0
  ⟨0,ys0,its0,nn0,σ,H,I,rv0,st,fun b hb=>(f b hb).1,w0⟩
 rintro n s' ⟨i,ys,its,nn,σ',H',I4,rv,st4,fr4,w4⟩
 obtain⟨hz,h⟩:=turn i n ys σ' H' w4
 rcases h with⟨stop,hZ⟩|⟨go,step⟩
 ·refine thn (T.done Y rfl rfl rfl c.calm i _ s' _ H' (fun _ _=>False) I4 (fpc fr4) st4 stop) fun r s4 ⟨hr,I5⟩=>?_
  subst hr
  exact hR s4 ys its nn σ' H' I5 rv hz hZ
 ·refine thn (T.item Y rfl rfl rfl c.calm i _ s' _ H' (fun _ _=>False) I4 (fpc fr4) st4 go) fun r s5 ⟨u,hr,h5⟩=>?_
  subst hr
  refine thn h5 fun _ s6 ⟨x,H6,I6,r6,y6,st6,fr6⟩=>?_
  have I6':=I6.pinned (fpc fr6) (T.obj _ _ st6)
  refine thF c.xe (hg _ s6 _ H6 x u _ I6' r6 (step x H6 y6)) fun _ s7 ⟨σ7,H7,I7,q7⟩=>?_
  refine thF c.xe (hif _ s7 σ7 H7 _ I7 q7) fun ok s8 ⟨H8,I8,q8⟩=>?_
  have keepfp:∀{its:List Value} {nn:Nat} {σ9:St} {H9:Hp} {s9:Shared},Inv Y (([(D,bS its nn)]++P)++fX fp2 s6.heap) σ9 H9 s9->tn2 (i+1) s9.heap/\∀b∈fp2,H9 b=none:=fun {its nn σ9 H9 s9} I9 =>
   ⟨T.keep _ _ _ st6 fun b hb o e=>(I9.pin (b,o) (List.mem_append_right _ (List.mem_append_right _ (cv hb e)))).1,fun b hb=>by
    obtain⟨o,e,d⟩:=T.obj _ _ st6 b hb
    exact(I9.pin (b,o) (List.mem_append_right _ (List.mem_append_right _ (cv hb e)))).2.1⟩
  cases ok with
  |false =>
   obtain⟨m',hm,w8⟩:=q8
   obtain⟨a8,b8⟩:=keepfp I8
   exact⟨m',hm,i+1,ys,its,nn,σ7,H8,I8.unpinned,rv,a8,b8,w8⟩
  |true =>
   have hPD2:∀p∈P++fX fp2 s6.heap,p.1≠D:=fun p hp=>by
    rcases List.mem_append.mp hp with z|z
    ·exact hPD p z
    ·have hb:=(oK z).1
     intro e
     exact(f _ hb).2.2.2.2.2 (D,bS its0 nn0) (by rw[c.pn];simp) e.symm
   refine hAW (hB (P++fX fp2 s6.heap) its nn ys σ7 H8 s8 _ (by rw[<-List.append_assoc];exact I8) rv hz hPD2 q8) ?_
   rintro s9 ⟨ys',its',n',σ',H',I',rv',m',hm,w'⟩
   rw[<-List.append_assoc]at I'
   obtain⟨a9,b9⟩:=keepfp I'
   exact⟨m',hm,i+1,ys',its',n',σ',H',I'.unpinned,rv',a9,b9,w'⟩
theorem lI{prog:Program}{w:World}{A:Around}{acc:Value}{env:Env}{Ok Ok':Shared->Prop}{s:Shared}(h:vh prog w A (lcE el gs sc ps) k i1 acc env Ok s) (h':∀s,Ok s->Ok' s):vh prog w A (lcE el gs sc ps) k i1 acc env Ok' s :=
 wpAny_mono h (fun _ _ h1=>wpAny_mono h1 (fun _ _ h2=>codeAny_mono h2 fun _ _ h3=>⟨h3.1,h' _ h3.2⟩) fun _ _ x=>x) fun _ _ x=>x
theorem rj{bd:Value->Value->Env->Sem Fin}{AW:AWt}(c:uD Y D) (hT:wV (lcE el gs sc ps) k p tg fs bd) (hS:pN (lcE el gs sc ps) k p) (hq:∀it,(Code.compLoop (lcE el gs sc ps) k it (.ref D) Y.env).quiet=true) (hb:∀it,xw Y.prog Y.w Y.A (lcE el gs sc ps) k bd it (.ref D) Y.env AW) (hB:vC Y D AW B)
  (hAW:∀{Ok Ok':Shared->Prop} {s:Shared},AW Ok s->(∀s,Ok s->Ok' s)->AW Ok' s)
  (hi:PI Y tg i1 wi) (hg:PG Y tg g) (hif:PIf Y fs tc):vC Y D (vh Y.prog Y.w Y.A (lcE el gs sc ps) k i1 (.ref D) Y.env) (oG wi g tc B):=by
 intro P its nn ys σ H s Z I rv hz hPD q
 refine thF c.xe (hi _ s σ H _ I q) fun v s9 h9=>thF c.xe h9 fun itv s10 h10=>?_
 obtain⟨it2,fp2,tn2,J2,H10,e,I10,T2,st10,f10,W2,⟨m2,w2⟩,cin⟩:=h10
 subst e
 have loop:=oU c hT (hq _) (hb _) hB hAW hg hif hPD I10 rv T2 st10 f10 w2 cin (R:=fun r s₆=>(∃f,r=.ok f)/\∃ys' its' n' σ' H',Inv Y ([(D,bS its' n')]++P) σ' H' s₆/\aA ys' its'/\Z ys' σ' H')
  (fun s' ys its n σ' H' I' rv' _ hZ=>⟨⟨_,rfl⟩,ys,its,n,σ',H',I',rv',hZ⟩)
 exact mm hS loop (T2.self _ 0 _ _ _ st10 loop)
end
/-! ### comprehensions of three clauses -/
abbrev dD(elt t0 i0 t1 i1 t2 i2:Expr) (f0 f1 f2:List Expr) (scope:Scope) (pos:Pos):Expr:=lcE elt [⟨t0,i0,f0,0⟩,⟨t1,i1,f1,0⟩,⟨t2,i2,f2,0⟩] scope pos
section
variable{elt t0 i0 t1 i1 t2 i2:Expr}{f0 f1 f2:List Expr}{scope:Scope}{pos:Pos}
theorem Dk:wV (dD elt t0 i0 t1 i1 t2 i2 f0 f1 f2 scope pos) 0 i0.pos t0 f0 (yD (dD elt t0 i0 t1 i1 t2 i2 f0 f1 f2 scope pos) 0 i1):=fun _ _ _=>rfl
theorem Dy:wV (dD elt t0 i0 t1 i1 t2 i2 f0 f1 f2 scope pos) 1 i1.pos t1 f1 (yD (dD elt t0 i0 t1 i1 t2 i2 f0 f1 f2 scope pos) 1 i2):=fun _ _ _=>rfl
theorem DB:wV (dD elt t0 i0 t1 i1 t2 i2 f0 f1 f2 scope pos) 2 i2.pos t2 f2 (Cu (dD elt t0 i0 t1 i1 t2 i2 f0 f1 f2 scope pos) 2 elt):=fun _ _ _=>rfl
theorem A5:pN (dD elt t0 i0 t1 i1 t2 i2 f0 f1 f2 scope pos) 1 i1.pos:=fun _ _ _=>rfl
theorem Ba:pN (dD elt t0 i0 t1 i1 t2 i2 f0 f1 f2 scope pos) 2 i2.pos:=fun _ _ _=>rfl
end
section
variable{X:Cx}{ae:List (Addr×Obj)}{σ σ':St}{H2 H':Hp}{s2 s':Shared}{scope:Scope}{cl:List (Str×Addr)}{ms:List Bool}{ah:List Str}{elt t0 i0 t1 i1 t2 i2:Expr}{f0 f1 f2:List Expr}{g0 g1 g2:TG}{tc0 tc1 tc2:TT}{te:TE}{w1 w2:TI}{pos:Pos}
theorem sP(S:cI X scope cl ms ah) (bt:X.calm=true)
  (hg0:∀C s H ex,PG (ay X scope cl (X.N++ah) C s H ex) t0 g0) (hif0:∀C s H ex,PIf (ay X scope cl (X.N++ah) C s H ex) f0 tc0)
  (hi1:∀C s H ex,PI (ay X scope cl (X.N++ah) C s H ex) t1 i1 w1) (hg1:∀C s H ex,PG (ay X scope cl (X.N++ah) C s H ex) t1 g1) (hif1:∀C s H ex,PIf (ay X scope cl (X.N++ah) C s H ex) f1 tc1) (hs1:∀C x,foldedSetIterable i1 (compEnvC scope cl C X.env) x=pure x)
  (hi2:∀C s H ex,PI (ay X scope cl (X.N++ah) C s H ex) t2 i2 w2) (hg2:∀C s H ex,PG (ay X scope cl (X.N++ah) C s H ex) t2 g2) (hif2:∀C s H ex,PIf (ay X scope cl (X.N++ah) C s H ex) f2 tc2) (hs2:∀C x,foldedSetIterable i2 (compEnvC scope cl C X.env) x=pure x)
  (he:∀C s H ex,PE (ay X scope cl (X.N++ah) C s H ex) elt te)
  (I2:Inv X ae σ H2 s2) {it:Addr} {fp:List Addr} {tn:Nat->Heap->Prop} {J:It} (T:gK X.prog X.w X.K t0 J fp it tn) (st2:tn 0 s2.heap) (fz:∀b∈fp,cJ X ae H2 b)
  {W:Nat->Nat->List V->St->Hp->Prop} {Z:List V->St->Hp->Prop} {m0:Nat} (w0:W 0 m0 [] (dm ms ah.length σ) H2) (turn:mU J g0 tc0 (oG w1 g1 tc1 (oG w2 g2 tc2 (vb te))) W Z)
  {RR:Value->Addr->Result->Shared->Prop} {E:Value->Shared->Prop}
  (hRR:∀ (s':Shared) (ys:List V) (its:List Value) (n:Nat) (σ':St) (H':Hp),Inv (ay X scope cl (X.N ++ ah) (s2.heap.objs.size + 1) s2 H2 fp) [(s2.heap.objs.size,bS its n)] σ' H' s' → aA ys its → ys.length ≤ sizeLine → Z ys σ' H' →
   RR (.ref s2.heap.objs.size) (s2.heap.objs.size+1) (.ok .next) s') :
  wpAny (model X.prog X.w) X.A (newList []) (fun acc s₃=>wpAny (model X.prog X.w) X.A (newFunctionEnv scope X.env.globals cl [] X.env.qual none .none (some X.env)) (fun cenv s₄ =>
   codeAny (model X.prog X.w) X.A (.compStart (dD elt t0 i0 t1 i1 t2 i2 f0 f1 f2 scope pos) 0 (.ref it) acc { cenv with scope:=relabel scope X.env }) (RR acc cenv.locals) s₄) E s₃) E s2:=by
 refine wpAny_newObj_type (wpAny_newFunctionEnv S.ncell (by intro y hy;simp at hy) (fun h₁ hns₁ hsb₁=>?_) S.kind)
 dsimp only at hns₁ hsb₁ ⊢
 have hsz:(s2.heap.push { cls:=.type "list",dict:=none,data:=.seq ([]:List Value).toArray }).objs.size=s2.heap.objs.size+1:=by rw[Heap.size_push]
 rw[hsz]at hns₁ hsb₁ ⊢
 have hlt:∀b∈fp,b<s2.heap.objs.size:=fun b hb=>by
  obtain⟨o,e,_⟩:=T.obj _ _ st2 b hb
  exact Heap.lt_size e
 have old:∀b o,s2.heap.get? b=some o->h₁.get? b=some o:=fun b o e=>hsb₁.extBut b o (Nat.ne_of_lt (Nat.lt_succ_of_lt (Heap.lt_size e))) (Heap.get?_push_of_some _ (Heap.get?_push_of_some _ e))
 have hacc:h₁.get? s2.heap.objs.size=some (bS [] 0):=hsb₁.extBut _ _ (Nat.ne_of_lt (Nat.lt_succ_self _)) (Heap.get?_push_of_some _ (Heap.get?_push_size _ rfl))
 have hDn:H2 s2.heap.objs.size=none:=I2.hok.fresh (Nat.le_refl _)
 have hDfs:∀b,s2.heap.objs.size<=b->b∉(ay X scope cl (X.N++ah) (s2.heap.objs.size+1) s2 H2 fp).fs:=fun b hb z=>by
  rcases List.mem_cons.mp (I2.stkSub b z)with e|e
  ·subst e;exact absurd (Nat.lt_of_lt_of_le I2.lt hb) (Nat.lt_irrefl _)
  ·exact I2.nofs hb e
 have loop:∀s₃:Shared,s₃={ s2 with heap:=h₁,toks:=s2.toks+([]:List (Str×Value)).length } ->
   codeAny (model X.prog X.w) X.A (.compLoop (dD elt t0 i0 t1 i1 t2 i2 f0 f1 f2 scope pos) 0 (.ref it) (.ref s2.heap.objs.size) (compEnvC scope cl (s2.heap.objs.size+1) X.env)) (RR (.ref s2.heap.objs.size) (s2.heap.objs.size+1)) s₃:=by
  rintro s₃ rfl
  have I3:Inv (ay X scope cl (X.N++ah) (s2.heap.objs.size+1) s2 H2 fp) [] (dm ms ah.length σ) H2 { s2 with heap:=h₁,toks:=s2.toks+([]:List (Str×Value)).length } :=
   vL I2 S fz hlt (Nat.le_succ _) rfl I2.bare old hns₁
  have c:uD (ay X scope cl (X.N++ah) (s2.heap.objs.size+1) s2 H2 fp) s2.heap.objs.size:=⟨rfl,bt,rfl,.inr (Nat.le_refl _),fun x c e=>by
   obtain⟨v,o,ho,_⟩:=I2.cell x c (S.sub x c e)
   exact Nat.ne_of_lt (Heap.lt_size ho)⟩
  have blk2:=yi c (he (s2.heap.objs.size+1) s2 H2 fp)
  have blk1:=rj (el:=elt) (gs:=[⟨t0,i0,f0,0⟩,⟨t1,i1,f1,0⟩,⟨t2,i2,f2,0⟩]) (sc:=scope) (ps:=pos) c DB Ba (fun _=>rfl) (fun _=>BE) blk2 AWt.mono_leaf (hi2 _ _ _ _) (hg2 _ _ _ _) (hif2 _ _ _ _)
  have blk0:=rj (el:=elt) (gs:=[⟨t0,i0,f0,0⟩,⟨t1,i1,f1,0⟩,⟨t2,i2,f2,0⟩]) (sc:=scope) (ps:=pos) c Dy A5 (fun _=>rfl) (fun _=>vB (hs2 _)) blk1 lI (hi1 _ _ _ _) (hg1 _ _ _ _) (hif1 _ _ _ _)
  refine oU (el:=elt) (gs:=[⟨t0,i0,f0,0⟩,⟨t1,i1,f1,0⟩,⟨t2,i2,f2,0⟩]) (sc:=scope) (ps:=pos) c Dk rfl (vB (hs1 _)) blk0 lI (hg0 _ _ _ _) (hif0 _ _ _ _) (P:=[]) (fun p hp=>nomatch hp) (its0:=[]) (nn0:=0) (I3.pins_of fun p hp=>?_) .nil T (T.keep _ _ _ st2 fun b _ o e=>old b o e) (fun b hb=>?_) w0 turn ?_
  ·have e:p=(s2.heap.objs.size,bS [] 0):=List.mem_singleton.mp hp
   subst e
   exact⟨hacc,hDn,Nat.ne_of_lt (Nat.lt_succ_self _),hDfs _ (Nat.le_refl _),fun v z=>by cases z⟩
  ·exact⟨(fz b hb).1,Nat.ne_of_lt (Nat.lt_succ_of_lt (hlt b hb)),(tD I2 S fz hlt (Nat.le_succ _)).exfs b hb,.inl hb,fun x c e=>(fz b hb).2.2.2.2.1 x c (S.sub x c e),fun p hp=>by
    have:p=(s2.heap.objs.size,_):=List.mem_singleton.mp (show p∈[(s2.heap.objs.size,_)]from hp)
    subst this
    exact Nat.ne_of_gt (hlt b hb)⟩
  ·exact fun s' ys its n σ' H' I' rv hz hZ=>hRR s' ys its n σ' H' I' rv hz hZ
 exact codeAny_compStart_list (loop _ rfl) (T.self _ 0 _ _ _ (T.keep _ _ _ st2 fun b _ o e=>old b o e) (loop _ rfl))
def IF(ms:List Bool) (k:Nat) (w0:TI) (g0:TG) (tc0:TT) (w1:TI) (g1:TG) (tc1:TT) (w2:TI) (g2:TG) (tc2:TT) (te:TE):TE:=fun σ H Q=>w0 σ H fun J H1=>∃(W:Nat->Nat->List V->St->Hp->Prop) (Z:List V->St->Hp->Prop),(∃m,W 0 m [] (dm ms k σ) H1) /\
 mU J g0 tc0 (oG w1 g1 tc1 (oG w2 g2 tc2 (vb te))) W Z/\∀ys σ' H p,Z ys σ' H->H p=none->Q (.ref p) (upd H p (.lst ys))
theorem Et(S:cI X scope cl ms ah) (bt:X.calm=true) {w0:TI}(hi:PI X t0 i0 w0)
  (hg0:∀C s H ex,PG (ay X scope cl (X.N++ah) C s H ex) t0 g0) (hif0:∀C s H ex,PIf (ay X scope cl (X.N++ah) C s H ex) f0 tc0)
  (hi1:∀C s H ex,PI (ay X scope cl (X.N++ah) C s H ex) t1 i1 w1) (hg1:∀C s H ex,PG (ay X scope cl (X.N++ah) C s H ex) t1 g1) (hif1:∀C s H ex,PIf (ay X scope cl (X.N++ah) C s H ex) f1 tc1)
  (hi2:∀C s H ex,PI (ay X scope cl (X.N++ah) C s H ex) t2 i2 w2) (hg2:∀C s H ex,PG (ay X scope cl (X.N++ah) C s H ex) t2 g2) (hif2:∀C s H ex,PIf (ay X scope cl (X.N++ah) C s H ex) f2 tc2)
  (he:∀C s H ex,PE (ay X scope cl (X.N++ah) C s H ex) elt te)
  (hs:∀x,foldedSetIterable i0 X.env x=pure x:=by intro _;rfl) (hs1:∀C x,foldedSetIterable i1 (compEnvC scope cl C X.env) x=pure x:=by intro _ _;rfl) (hs2:∀C x,foldedSetIterable i2 (compEnvC scope cl C X.env) x=pure x:=by intro _ _;rfl) :
  PE X (dD elt t0 i0 t1 i1 t2 i2 f0 f1 f2 scope pos) (IF ms ah.length w0 g0 tc0 w1 g1 tc1 w2 g2 tc2 te):=by
 intro ae s σ H Q I h
 rw[eval_ListComp]
 refine wpAny_comprehension_free (use:=none) rfl hs S.clos S.kind S.names (thn (hi ae s σ H _ I h) fun v s1 h1=>thn h1 fun itv s2 h2=>?_)
 obtain⟨it,fp,tn,J,H2,e,I2,T,st2,f2,W,Z,⟨m0,w0⟩,turn,q⟩:=h2
 subst e
 refine sP S bt hg0 hif0 hi1 hg1 hif1 hs1 hi2 hg2 hif2 hs2 he I2 T st2 f2 w0 turn (RR:=fun acc C=>compPost (model X.prog X.w) X.A X.xe none (EP X ae σ Q) acc C) ?_
 intro s' ys its n σ' H' I' rv hz hZ
 obtain⟨m,hm,_⟩:=I'.loc
 refine⟨m,hm,fun h' hs'=>?_⟩
 obtain⟨I3,hD⟩:=ka I2 f2 I' rv hz hs'
 exact⟨.ref s2.heap.objs.size,_,I3,rfl,q ys σ' H' _ hZ hD⟩
end
/-! ### comprehensions by levels,in deep data -/
abbrev BKd:=DE->DH->List D->(List D->DE->DH->Prop)->Prop
def gX(g:GD) (tc:TTd) (B:BKd):List D->DE->DH->List D->(List D->DE->DH->Prop)->Prop
 |[],Δ,M,acc,Q=>Q acc Δ M
 |d::ds,Δ,M,acc,Q=>∃ Δ',g d Δ=some Δ'/\tc Δ' M fun b M1=>if b=true then B Δ' M1 acc fun acc' Δ'' M2=>acc'.length<=sizeLine/\gX g tc B ds Δ'' M2 acc' Q else gX g tc B ds Δ' M1 acc Q
def sY(te:TEd):BKd:=fun Δ M acc Q=>te Δ M fun y M2=>Q (acc++[y]) Δ M2
def lU(wi:TId) (g:GD) (tc:TTd) (B:BKd):BKd:=fun Δ M acc Q=>wi Δ M fun es M2=>gX g tc B es Δ M2 acc Q
def upB(K:PySem.W.Frag) (b:BKd):BK:=fun ys σ H Z=>∃(Δ:DE) (M:DH) (acc:List D) (R:List D->DE->DH->Prop),SR K M H σ Δ/\HR K M H/\aq K M H acc ys/\acc.length<=sizeLine/\b Δ M acc R /\
 ∀acc' Δ' M' ys' σ' H',R acc' Δ' M'->Ext M H M' H'->HR K M' H'->SR K M' H' σ' Δ'->aq K M' H' acc' ys'->Z ys' σ' H'
abbrev CN(K:PySem.W.Frag) (g:GD) (gv:TG):Prop:=∀(d:D) (v:V) (σ:St) (Δ Δ':DE) (M:DH) (H:Hp) (Q:St->Hp->Prop),SR K M H σ Δ->HR K M H->Rep K M H d v->g d Δ=some Δ'->(∀ σ',SR K M H σ' Δ'->Q σ' H)->gv v σ H Q
section
variable{K:PySem.W.Frag}{g:GD}{gv:TG}{tc:TTd}{te:TEd}{wi:TId}{Bd:BKd}{B:BK}
theorem BY{ys:List V}{σ:St}{H:Hp}{Z:List V->St->Hp->Prop}(h:upB K (sY te) ys σ H Z):vb (up K te) ys σ H Z:=by
 obtain⟨Δ,M,acc,R,sr,hr,ra,_,q,k⟩:=h
 exact⟨Δ,M,_,sr,hr,q,fun d M' v H' q1 e1 hr1 rv=>k _ _ _ _ _ _ q1 e1 hr1 (sr.ext e1) ((ra.ext e1).append (aq.cons rv aq.nil))⟩
theorem u6(kg:CN K g gv) (hB:∀{ys σ H Z},upB K Bd ys σ H Z->B ys σ H Z) {J:It}{es:List D}{M5:DH}{H5:Hp}(it5:ItD K J es M5 H5) (hr5:HR K M5 H5) {Δ:DE}{acc:List D}{R:List D->DE->DH->Prop}{ys:List V}{σ:St}{Z:List V->St->Hp->Prop}
  (sr:SR K M5 H5 σ Δ) (ra:aq K M5 H5 acc ys) (la:acc.length<=sizeLine) (q:gX g tc Bd es Δ M5 acc R)
  (k:∀acc' Δ' M' ys' σ' H',R acc' Δ' M'->Ext M5 H5 M' H'->HR K M' H'->SR K M' H' σ' Δ'->aq K M' H' acc' ys'->Z ys' σ' H') :
  ∃W:Nat->Nat->List V->St->Hp->Prop,(∃m,W 0 m ys σ H5)/\mU J gv (upT K tc) B W Z:=by
 refine⟨fun j m ys' σ' H'=>∃ Δ' M' acc',m=es.length-j/\j<=es.length/\Ext M5 H5 M' H'/\HR K M' H'/\SR K M' H' σ' Δ'/\aq K M' H' acc' ys'/\acc'.length<=sizeLine/\gX g tc Bd (es.drop j) Δ' M' acc' R,
  ⟨es.length,Δ,M5,acc,by simp,Nat.zero_le _,Ext.refl _ _,hr5,sr,ra,la,q⟩,?_⟩
 rintro j m ys' σ6 H6 ⟨Δ6,M6,acc6,rfl,hj,e6,hr6,sr6,ra6,la6,f6⟩
 refine⟨by rw[<-ra6.length];exact la6,?_⟩
 obtain⟨go2,stop2⟩:=it5 M6 H6 e6 hr6 j
 by_cases hlt2:j<es.length
 ·have hd2:es[j]?=some es[j]:=by simp[hlt2]
  obtain⟨g2,y2⟩:=go2 _ hd2
  rw[List.drop_eq_getElem_cons hlt2]at f6
  simp only[gX]at f6
  obtain⟨Δ7,eg7,f7⟩:=f6
  refine .inr ⟨g2,fun x7 H7 hy7=>?_⟩
  obtain⟨e7,hr7,rx7⟩:=y2 x7 H7 hy7
  refine kg _ x7 σ6 Δ6 Δ7 M6 H7 _ (sr6.ext e7) hr7 rx7 eg7 fun σ7 sr7=>?_
  refine⟨Δ7,M6,_,sr7,hr7,f7,fun b M8 H8 q8 e8 hr8=>?_⟩
  cases b with
  |true =>
   simp only[if_true]at q8 ⊢
   refine hB ⟨Δ7,M8,acc6,_,sr7.ext e8,hr8,(ra6.ext e7).ext e8,la6,q8,?_⟩
   rintro acc' Δ' M' ys9 σ' H' ⟨hz9,q9⟩ e9 hr9 sr9 ra9
   exact⟨es.length-(j+1),by omega,Δ',M',acc',rfl,hlt2,((e6.trans e7).trans e8).trans e9,hr9,sr9,ra9,hz9,q9⟩
  |false =>
   simp only[Bool.false_eq_true,if_false]at q8 ⊢
   exact⟨es.length-(j+1),by omega,Δ7,M8,acc6,rfl,hlt2,(e6.trans e7).trans e8,hr8,sr7.ext e8,(ra6.ext e7).ext e8,la6,q8⟩
 ·rw[List.drop_eq_nil_of_le (by omega)]at f6
  simp only[gX]at f6
  exact .inl ⟨stop2 (by omega),k _ _ _ _ _ _ f6 e6 hr6 sr6 ra6⟩
theorem uJ(kg:CN K g gv) (hB:∀{ys σ H Z},upB K Bd ys σ H Z->B ys σ H Z) {ys:List V}{σ:St}{H:Hp}{Z:List V->St->Hp->Prop}(h:upB K (lU wi g tc Bd) ys σ H Z):oG (upI K wi) gv (upT K tc) B ys σ H Z:=by
 obtain⟨Δ,M,acc,R,sr,hr,ra,la,q,k⟩:=h
 exact⟨Δ,M,_,sr,hr,q,fun es M2 J H2 q2 e2 hr2 it2=>u6 kg hB it2 hr2 (sr.ext e2) (ra.ext e2) la q2 fun a1 a2 a3 a4 a5 a6 b1 b2=>k a1 a2 a3 a4 a5 a6 b1 (e2.trans b2)⟩
end
def DQ(ms:List Bool) (k:Nat) (w0:TId) (g0:GD) (tc0:TTd) (w1:TId) (g1:GD) (tc1:TTd) (w2:TId) (g2:GD) (tc2:TTd) (te:TEd):TEd:=fun Δ M Q=>w0 Δ M fun ds M1 =>
 gX g0 tc0 (lU w1 g1 tc1 (lU w2 g2 tc2 (sY te))) ds (eQ ms k Δ) M1 [] fun ys _ M2=>Q (.lst ys) M2
section
variable{X:Cx}{scope:Scope}{cl:List (Str×Addr)}{ms:List Bool}{ah:List Str}{elt t0 i0 t1 i1 t2 i2:Expr}{f0 f1 f2:List Expr}{pos:Pos}{w0 w1 w2:TId}{g0 g1 g2:GD}{tc0 tc1 tc2:TTd}{te:TEd}
theorem HG(S:cI X scope cl ms ah) (bt:X.calm=true) (hi:PId X t0 i0 w0) (hg0:PGa X scope cl ah t0 g0) (hif0:∀C s H ex,nJ (ay X scope cl (X.N++ah) C s H ex) f0 tc0)
  (hi1:∀C s H ex,PId (ay X scope cl (X.N++ah) C s H ex) t1 i1 w1) (hg1:PGa X scope cl ah t1 g1) (hif1:∀C s H ex,nJ (ay X scope cl (X.N++ah) C s H ex) f1 tc1)
  (hi2:∀C s H ex,PId (ay X scope cl (X.N++ah) C s H ex) t2 i2 w2) (hg2:PGa X scope cl ah t2 g2) (hif2:∀C s H ex,nJ (ay X scope cl (X.N++ah) C s H ex) f2 tc2) (he:∀C s H ex,PEd (ay X scope cl (X.N++ah) C s H ex) elt te)
  (hs:∀x,foldedSetIterable i0 X.env x=pure x:=by intro _;rfl) (hs1:∀C x,foldedSetIterable i1 (compEnvC scope cl C X.env) x=pure x:=by intro _ _;rfl) (hs2:∀C x,foldedSetIterable i2 (compEnvC scope cl C X.env) x=pure x:=by intro _ _;rfl) :
  PEd X (dD elt t0 i0 t1 i1 t2 i2 f0 f1 f2 scope pos) (DQ ms ah.length w0 g0 tc0 w1 g1 tc1 w2 g2 tc2 te):=by
 obtain⟨gv0,pg0,kg0⟩:=hg0
 obtain⟨gv1,pg1,kg1⟩:=hg1
 obtain⟨gv2,pg2,kg2⟩:=hg2
 refine(Et (tc0:=upT X.K tc0) (tc1:=upT X.K tc1) (tc2:=upT X.K tc2) (te:=up X.K te) (w1:=upI X.K w1) (w2:=upI X.K w2) S bt hi pg0 hif0 hi1 pg1 hif1 hi2 pg2 hif2 he hs hs1 hs2).conv ?_
 rintro σ H Q ⟨Δ,M,R,sr,hr,q,k⟩
 refine⟨Δ,M,_,sr,hr,q,fun ds M1 J H1 q1 e1 hr1 it=>?_⟩
 obtain⟨W,hW,hC⟩:=u6 (Z:=fun ys' _ H'=>∃M' acc,Ext M1 H1 M' H'/\HR X.K M' H'/\aq X.K M' H' acc ys'/\R (.lst acc) M') kg0 (fun h=>uJ kg1 (fun h=>uJ kg2 (fun h=>BY h) h) h) it hr1 ((sr.ext e1).comp ms ah.length) aq.nil (Nat.zero_le _) q1
  (fun acc' Δ' M' ys' σ' H' q' e' hr' _ ra'=>⟨M',acc',e',hr',ra',q'⟩)
 refine⟨W,_,hW,hC,?_⟩
 rintro ys σ' H' p ⟨M',acc,e',hr',ra,q'⟩ hp
 refine k _ M' _ _ q' ((e1.trans e').trans (Ext.new hr' hp)) (hr'.new hp) ?_
 simp only[Rep]
 exact⟨p,ys,rfl,⟨aC,hr'.fresh hp⟩,ra.ext (Ext.new hr' hp)⟩
theorem GC(S:cI X scope cl ms ah) (bt:X.calm=true) (hi:QId X t0 i0 w0) (hg0:PGa X scope cl ah t0 g0) (hif0:∀C s H ex,QIf (ay X scope cl (X.N++ah) C s H ex) f0 tc0)
  (hi1:∀C s H ex,QId (ay X scope cl (X.N++ah) C s H ex) t1 i1 w1) (hg1:PGa X scope cl ah t1 g1) (hif1:∀C s H ex,QIf (ay X scope cl (X.N++ah) C s H ex) f1 tc1)
  (hi2:∀C s H ex,QId (ay X scope cl (X.N++ah) C s H ex) t2 i2 w2) (hg2:PGa X scope cl ah t2 g2) (hif2:∀C s H ex,QIf (ay X scope cl (X.N++ah) C s H ex) f2 tc2) (he:∀C s H ex,QEd (ay X scope cl (X.N++ah) C s H ex) elt te)
  (hs:∀x,foldedSetIterable i0 X.env x=pure x:=by intro _;rfl) (hs1:∀C x,foldedSetIterable i1 (compEnvC scope cl C X.env) x=pure x:=by intro _ _;rfl) (hs2:∀C x,foldedSetIterable i2 (compEnvC scope cl C X.env) x=pure x:=by intro _ _;rfl) :
  QEd X (.ListComp elt [⟨t0,i0,f0,0⟩,⟨t1,i1,f1,0⟩,⟨t2,i2,f2,0⟩] scope pos) (DQ ms ah.length w0 g0 tc0 w1 g1 tc1 w2 g2 tc2 te):=by
 simp only[QEd.eq,QId.eq,QIf.eq]at *
 exact HG S bt hi hg0 hif0 hi1 hg1 hif1 hi2 hg2 hif2 he hs hs1 hs2
end
/-! the Q forms of the rules for boxes,keys,instances -/
section
variable{X:Cx}{e i o l:Expr}{es:List Expr}{te ti to:TEd}{t:TAd}{pos p pos' aW aG:Pos}{f x:Str}{C:Addr}{elts:List Expr}{x1:Nat}{pt:Pos}
theorem yM(h:QEd X e te):QEd X e (El te):=by simp only[QEd.eq]at *;exact FV h
theorem vi{x1}(h:QAd X es t):QEd X (.Tuple es x1 pos) (zS t):=by simp only[QEd.eq,QAd.eq]at *;exact FX h
theorem t5(hu:X.A.units+1<cLine) (ho:QEd X o to) (hi:QEd X i ti) (hs:lH i):QEd X (.Subscript o i pos) (uP to ti):=by simp only[QEd.eq]at *;exact DW hu ho hi hs
theorem o6(hu:X.A.units+1<cLine) (ho:QEd X o to) (hi:QEd X i ti) (hs:lH i):QEd X (.Subscript o i pos) (zD to ti):=by simp only[QEd.eq]at *;exact DD hu ho hi hs
theorem sI(hu:X.A.units+1<cLine) (ho:QEd X o to) (hi:QEd X i ti) (he:QEd X e te) (hs:swapsWith e (some (.Subscript o i p)) pos.line X.env=pure false:=by rfl):QSd X (.Assign [.Subscript o i p] e pos) (rA to ti te):=by simp only[QEd.eq,QSd.eq]at *;exact EE hu ho hi he hs
theorem vv(hu:X.A.units+1<cLine) (ho:QEd X o to) (hi:QEd X i ti) (he:QEd X e te) (m:M2 X o "get" aW i e aG):QEd X (.Call (.Attribute o "get" aW) [i,e] [] aG) (ph to ti te):=by simp only[QEd.eq]at *;exact Ca hu ho hi he m
theorem Bn(hu:X.A.units+1<cLine) (ho:QEd X o to) (hi:QEd X i ti) (he:QEd X e te) (m:M2 X o "get" aW i e aG):QEd X (.Call (.Attribute o "get" aW) [i,e] [] aG) (tF to ti te):=by simp only[QEd.eq]at *;exact B3 hu ho hi he m
theorem iB(c:Cls X.K C) (n:cT X.K C f) (he:QEd X e te) (hb:attributeBase e f X.env (eval e X.env)=eval e X.env:=by rfl):QEd X (.Attribute e f pos) (xb C f te):=by simp only[QEd.eq]at *;exact Gg c n he hb
theorem pM(c:Cls X.K C) (n:cT X.K C f) (ho:QEd X o to) (he:QEd X e te) (hs:swapsWith e (some (.Attribute o f pos')) pos.line X.env=pure false:=by rfl):QSd X (.Assign [.Attribute o f pos'] e pos) (xS C f to te):=by simp only[QEd.eq,QSd.eq]at *;exact DX c n ho he hs
theorem EZ{k n:Nat}{S:SpD}(F:MkD X.prog X.w X.K X.mg X.base x C k n S) (hr:cA (k+1) X.A) (hg:Gl X x) (ha:QAd X (e::es) t) (hdb:(x==("__debug__":Str))=false:=by decide)
  (he:starEach (e::es) X.env=(false,eval e X.env)::starEach es X.env:=by rfl) (hpl:(backTo pos (starEach es X.env)).any (·.1)=false:=by rfl):QEd X (.Call (.Name x p) (e::es) [] pos) (ya C n S t):=by simp only[QEd.eq,QAd.eq]at *;exact C5 F hr hg ha hdb he hpl
theorem DZ(h:QEd X e te):QEd X e (vI te):=by simp only[QEd.eq]at *;exact C0 h
theorem DF(h:QEd X e te):QEd X e (uv te):=by simp only[QEd.eq]at *;exact Es h
theorem Af(he:QEd X l te) (bG:attributeBase l "items" X.env (eval l X.env)=eval l X.env:=by rfl) (bE:(aW.endLine==aG.line)=true:=by rfl):QId X (.Tuple elts x1 pt) (.Call (.Attribute l "items" aW) [] [] aG) (uI te):=by simp only[QEd.eq,QId.eq]at *;exact Gd he bG bE
theorem DV(he:QEd X l te) (bG:attributeBase l "items" X.env (eval l X.env)=eval l X.env:=by rfl) (bE:(aW.endLine==aG.line)=true:=by rfl):QId X (.Tuple elts x1 pt) (.Call (.Attribute l "items" aW) [] [] aG) (yV te):=by simp only[QEd.eq,QId.eq]at *;exact Hy he bG bE
end
/-! ### reversed(list),the list a value that stays -/
def Ij(a:Addr) (xs:List V):It :=
 ⟨fun i H=>H a=some (.lst xs)/\i<xs.length,fun i H x H'=>H'=H/\xs[xs.length-1-i]?=some x,fun i _=>xs.length<=i⟩
theorem wg{P:Program}{w:World}{K:PySem.W.Frag}{tg:Expr}(a it:Addr) (xs:List V):gK P w K tg (Ij a xs) [it] it (fun i h=>i<=xs.length/\h.IsRevIter it a ((xs.length:Int)-1-(i:Int))) where
 mem:=by simp
 obj:=fun i h st b hb=>by
  have e:b=it:=by simpa using hb
  subst e
  obtain⟨_,o,e,c,d⟩:=st
  exact⟨o,e,fun v z=>by rw[d]at z;cases z⟩
 keep:=fun i h h' st k=>⟨st.1,st.2.at fun o e=>k it (by simp) o e⟩
 item:=by
  intro X hP hw hK hc i ae s σ H E I hf st hg
  subst hP hw hK
  obtain⟨hq,hi⟩:=hg
  obtain⟨hz,its,nn,rv,p⟩:=I.hok a _ hq
  have bj:=rv.length
  have hxi:xs.length-1-i<xs.length:=by omega
  obtain⟨u,hu,ru⟩:=rv.get (show xs[xs.length-1-i]?=some xs[xs.length-1-i]by simp[hxi])
  obtain⟨f0,f1,f2,f3,f4,f5⟩:=hf it (by simp)
  have ei:(xs.length:Int)-1-(i:Int)=((xs.length-1-i:Nat):Int):=by omega
  have st2:=st.2
  rw[ei]at st2
  refine wpAny_pyNext_rev_item st2 (items:=its.toArray) ⟨_,p,rfl,nn,rfl⟩ (x:=u) (by simpa using hu) fun h' st' sb=>?_
  have I1:Inv X ae σ H { s with heap:=h' }:=I.turned (t':=s.toks) (fun b o hb e=>(sb.2 b hb).trans e) f0 f1 f3 f4 f5
  obtain⟨o,e,c,d⟩:=id st'
  have e2:((xs.length-1-i:Nat):Int)-1=(xs.length:Int)-1-((i+1:Nat):Int):=by omega
  rw[e2]at st'
  exact⟨u,rfl,lT (s:={ s with heap:=h' }) e c d (by decide) ⟨xs[xs.length-1-i],H,I1,ru,⟨rfl,by simp[hxi]⟩,⟨hi,st'⟩,fun b hb=>(hf b hb).1⟩⟩
 done:=by
  intro X hP hw hK hc i ae s σ H E I hf st hg
  subst hP hw hK
  obtain⟨f0,f1,f2,f3,f4,f5⟩:=hf it (by simp)
  have e:i=xs.length:=Nat.le_antisymm st.1 hg
  subst e
  have st2:=st.2
  rw[show(xs.length:Int)-1-(xs.length:Int)=-1 by omega]at st2
  exact wpAny_pyNext_rev_end (I.ok.hd hc) st2 fun h' eb=>⟨rfl,I.turned (t':=s.toks) (fun b o hb e=>eb b o hb e) f0 f1 f3 f4 f5⟩
 self:=fun _ _ _ _ _ st h=>wpAny_pyIter_revIter st.2 h
section
variable{X:Cx}{a b c e o i:Expr}{es:List Expr}{te ta tb to ti:TEd}{t:TAd}{pos:Pos}{tg iter:Expr}
def tQ(ta:TAd):TId:=fun Δ M R=>ta Δ M fun ds M1=>∃es,ds=[.lst es]/\(es.length<=sizeLine->R es.reverse M1)
theorem De{p:Pos}(hg:Gl X "reversed") (hm:X.mg "reversed"=none) (ha:PAd X [a] t) (hs:starEach [a] X.env=[(false,eval a X.env)]:=by rfl):PId X tg (.Call (.Name "reversed" p) [a] [] pos) (tQ t):=by
 intro ae s σ H R I hh
 obtain⟨Δ,M,R',sr,hr,q,k⟩:=hh
 refine Call_ (gR I hg hm nG (PyProof.Rows.callWith_type1 (thn (ha pos ae s σ H (fun vs H1=>∃es M1,aq X.K M1 H1 [.lst es] vs/\(es.length<=sizeLine->R' es.reverse M1)/\Ext M H M1 H1/\HR X.K M1 H1) I ⟨Δ,M,_,sr,hr,q,fun ds M1 vs H1 ⟨es,ed,q1⟩ e1 hr1 rv=>⟨es,M1,by rw[<-ed];exact rv,q1,e1,hr1⟩⟩) fun us s1 ⟨vs,H1,I1,r1,es,M1,rv,q1,e1,hr1⟩=>?_) hs))
 obtain⟨v,rfl,rt⟩:=rv.one
 cases r1 with
 |cons r rr =>
  cases rr
  simp only[Rep]at rt
  obtain⟨ad,vs,rfl,ta,rl⟩:=rt
  cases r
  obtain⟨hz,its,nn,rvv,pt⟩:=I1.hok ad _ ta.1
  have hl1:=rvv.length
  have hl2:=rl.length
  refine call_reversed_list (items:=its.toArray) ⟨_,pt,rfl,nn,rfl⟩ ?_
  refine wpAny_pyIter_revIter (l:=ad) (i:=(its.toArray.size:Int)-1) ⟨_,Heap.get?_push_size _ rfl,rfl,rfl⟩ ?_
  refine⟨s1.heap.objs.size,[s1.heap.objs.size],_,_,H1,rfl,I1.kept (t':=s1.toks) fun b o e=>Heap.get?_push_of_some _ e,wg ad _ vs,⟨Nat.zero_le _,_,Heap.get?_push_size _ rfl,rfl,?_⟩,pY (o:=default) I1,?_⟩
  ·show Data.fields _=_
   have e1:(its.toArray.size:Int)-1=(vs.length:Int)-1-((0:Nat):Int):=by simp;omega
   rw[e1]
  ·refine k _ M1 _ H1 (q1 (by omega)) e1 hr1 fun M2 H2 e2 hr2 i=>⟨fun d hd=>?_,fun hl=>by show vs.length<=i;rw[<-hl2];simpa using hl⟩
   have hi:i<es.length:=by
    have:=(List.getElem?_eq_some_iff.mp hd).1
    simpa using this
   rw[List.getElem?_reverse hi]at hd
   obtain⟨v,gv,r⟩:=rl.get hd
   refine⟨⟨(ta.ext e2).1,by omega⟩,fun x H' ⟨eH,y⟩=>?_⟩
   subst eH
   rw[<-hl2,gv]at y;cases y
   exact⟨Ext.refl _ _,hr2,r.ext e2⟩
theorem Cj{p:Pos}(hg:Gl X "reversed") (hm:X.mg "reversed"=none) (ha:QAd X [a] t) (hs:starEach [a] X.env=[(false,eval a X.env)]:=by rfl):QId X tg (.Call (.Name "reversed" p) [a] [] pos) (tQ t):=by
 simp only[QAd.eq,QId.eq]at *
 exact De hg hm ha hs
/-! ### d[k],k a tuple of the text or any other that is known -/
theorem Eo{ae:List (Addr×Obj)}{σ:St}{H:Hp}{s:Shared}{b:Addr}{ks:List Key}(I:Inv X ae σ H s) (h:SqT X.K H b (ks.map kV)):(tupleKind (aO X.prog X.w)).is s.heap ks b:=by
 obtain⟨its,r,p,_⟩:=I.tuple h
 obtain⟨ob,h1,h2,n,h3⟩:=p
 exact⟨ob,its.toArray,n,h1,h2,h3,by simpa using jY r⟩
def EI(K:PySem.W.Frag) (td ty:TE):TE:=fun σ H Q=>td σ H fun x H1=>ty σ H1 fun y H2=>∃a b kvs k v,x=.ref a/\y=.ref b/\Rd H2 a (.dT kvs)/\SqT K H2 b (k.map kV)/\dZ kvs k=some v/\Q v H2
theorem zX{td ty:TE}(hu:X.A.units+1<cLine) (ho:PE X o td) (hi:PE X i ty) (hs:lH i):PE X (.Subscript o i pos) (EI X.K td ty):=by
 intro ae s σ H Q I h
 refine uZ PySem.F.slot_dict_getitem.lookup hs (thn (ho ae s σ H _ I h) fun u s1 ⟨x,H1,I1,rx,q1⟩=>thn (hi ae s1 σ H1 _ I1 q1) fun iv s2 ⟨y,H2,I2,ry,a,b,kvs,k,v,ex,ey,e,eb,l,q2⟩=>?_)
 subst ex;subst ey
 obtain rfl:u=Value.ref a:=rx
 cases(show iv=Value.ref b from ry)
 obtain⟨z,hd,xs,rel,dd⟩:=kL I2.hok e
 refine⟨dd.typeIs,?_⟩
 obtain⟨w',hw,rw'⟩:=iA.some_of (v:=v) (o:=(atKey xs k).map (·.2)) (by rw[<-l];exact rel.val k)
 obtain⟨p,hp,hp2⟩:=Option.map_eq_some_iff.mp hw
 refine wpAny_getItem_heap (tupleKind_room_in1 hu) (Eo I2 eb) dd hp ?_
 rw[hp2]
 exact⟨v,H2,I2.tok _,rw',q2⟩
def y9(to ti:TEd):TEd:=fun Δ M Q=>to Δ M fun x M1=>ti Δ M1 fun y M2=>∃kvs ks d,asT M2 x=some kvs/\y=.tup (ks.map kD)/\bp kvs ks=some d/\Q d M2
theorem Dv(hu:X.A.units+1<cLine) (ho:PEd X o to) (hi:PEd X i ti) (hs:lH i):PEd X (.Subscript o i pos) (y9 to ti) :=
 PE.conv (zX hu ho hi hs) fun σ H Q ⟨Δ,M,R,sr,hr,q,k⟩=>⟨Δ,M,_,sr,hr,q,fun x M1 v H1 q1 e1 hr1 rv=>⟨Δ,M1,_,sr.ext e1,hr1,q1,fun y M2 u H2 ⟨kvs,ky,d,ea,ey,ed,q2⟩ e2 hr2 ru=>by
  subst ey
  obtain⟨a,ks,rfl,h2,kr⟩:=lE hr2 (rv.ext e2) ea
  simp only[Rep]at ru
  obtain⟨b,vs,rfl,tb,rl⟩:=ru
  obtain⟨w,hw,rw_⟩:=(kr.val ky).1 d ed
  refine⟨a,b,ks,ky,w,rfl,rfl,h2,?_,hw,k d M2 w H2 q2 (e1.trans e2) hr2 rw_⟩
  rw[<-fT rl];exact tb.sq⟩⟩
theorem Eh(hu:X.A.units+1<cLine) (ho:QEd X o to) (hi:QEd X i ti) (hs:lH i):QEd X (.Subscript o i pos) (y9 to ti):=by simp only[QEd.eq]at *;exact Dv hu ho hi hs
end
/-! ### {k: v},k a tuple at hand -/
section
variable{X:Cx}{a b:Expr}{ta tb:TEd}{tk tv:TE}{pos:Pos}
def Dg(tk tv:TE):TE:=fun σ H Q=>∀p,H p=none->tk σ (upd H p (.dT [])) fun x H1=>tv σ H1 fun y H2=>∃b ks,x=.ref b/\H2 p=some (.dT [])/\H2 b=some (.tup (ks.map kV))/\Q (.ref p) (upd H2 p (.dT [(ks,y)]))
theorem yo(hu:X.A.units+1<cLine) (hk:PE X a tk) (hv:PE X b tv):PE X (.Dict [some a] [b] pos) (Dg tk tv):=by
 intro ae s σ H Q I q
 have hn:=I.hok.fresh (Nat.le_refl s.heap.objs.size)
 have I1:=I.laid (a:=s.heap.objs.size) (o:=.dT []) (h':=s.heap.push { cls:=.type "dict",data:=.dict #[] }) (t':=s.toks) (fun _ _ q=>Heap.get?_push_of_some _ q) (Nat.le_refl _) (qT s.heap I.big)
 refine wpAny_Dict_any rfl rfl (by simp) (by simp) (pairTrees_cons_walk (thn (hk ae _ σ _ _ I1 (q _ hn)) fun u s1 ⟨x,H1,I2,rx,q1⟩=>thn (hv ae s1 σ H1 _ I2 q1) fun w2 s2 ⟨y,H2,I3,ry,bb,ks,ex,ep,eb,q2⟩=>pairTrees_nil_walk ?_))
 subst ex
 cases(show u=Value.ref bb from rx)
 obtain⟨z,hd,xs,rel,dd⟩:=CG I3.hok ep
 have hx0:xs=[]:=by cases rel;rfl
 subst hx0
 unfold storeAll
 simp only[List.forIn_cons,List.forIn_nil]
 refine wpAny_bind (wpAny_bind (wpAny_dictSet_heap (knd:=tupleKind (aO X.prog X.w)) (hsz:=by simp) (by show X.A.units<cLine;omega) (i4 I3.hok eb) dd fun h' dd' hs=>wpAny_pure (wpAny_pure ?_)))
 obtain⟨qo,es,epo,hq,h2,h3,h4,_,h5⟩:=dd'
 have hput:dO ([]:List (List Key×V)) ks y=[(ks,y)]:=rfl
 have I4:=ji (t':=s2.toks+(tupleKind (aO X.prog X.w)).draws ks) (ob:=.dT (dO [] ks y)) I3 (by rw[ep];exact True.intro) hs ⟨qo,hq⟩ ⟨by rw[hput,sizeLine_eq,List.length_singleton];decide,hd,_,(rel.put ks eb ry).keeps fun c ys ec=>by
  rw[aI (CU ec ep (fun z=>nomatch z))]
  exact ec,qo,es,epo,hq,h2,h3,h4,h5⟩
 rw[hput]at I4
 exact⟨.ref s.heap.objs.size,_,I4,rfl,q2⟩
def tM(tk tv:TEd):TEd:=fun Δ M Q=>∀p,M p=none->tk Δ (aw M p (.dT [])) fun x M1=>tv Δ M1 fun y M2=>∃ks,x=nA ks/\M2 p=some (.dT [])/\Q (.ref p) (aw M2 p (.dT [(ks,y)]))
theorem BJ(hu:X.A.units+1<cLine) (ha:PEd X a ta) (hb:PEd X b tb):PEd X (.Dict [some a] [b] pos) (tM ta tb) :=
 PE.conv (yo hu ha hb) fun σ H Q ⟨Δ,M,R,sr,hr,q,k⟩=>fun p hp=>by
  have e0:Ext M H (aw M p (.dT [])) (upd H p (.dT [])):=Ext.own hp
  refine⟨Δ,_,_,sr.ext e0,hr.put e0 ⟨[],aC,.nil⟩,q p (hr.fresh hp),fun x M1 v H1 q1 e1 hr1 rv=>⟨Δ,M1,_,(sr.ext e0).ext e1,hr1,q1,fun y M2 u H2 ⟨ky,ex,em,q2⟩ e2 hr2 ru=>?_⟩⟩
  subst ex
  obtain⟨ks,h2,kr⟩:=hr2 p _ em
  cases kr
  obtain⟨bb,rfl,hb⟩:=jJ (rv.ext e2)
  have ew:Ext M2 H2 (aw M2 p (.dT [(ky,y)])) (upd H2 p (.dT [(ky,u)])):=Ext.write em
  exact⟨bb,ky,rfl,h2,hb,k _ _ _ _ q2 ((e0.trans (e1.trans e2)).trans ew) (hr2.put ew ⟨_,aC,.cons ⟨rfl,ru.ext ew⟩ .nil⟩) (by simp only[Rep])⟩
theorem An(hu:X.A.units+1<cLine) (ha:QEd X a ta) (hb:QEd X b tb):QEd X (.Dict [some a] [b] pos) (tM ta tb):=by simp only[QEd.eq]at *;exact BJ hu ha hb
end
/-! ### list(d),d a box;max(l),l a list of ints -/
def vG:D->Option D
 |.box (.dk ks) _=>some (.lst (ks.map kD))
 |_=>none
theorem vc{kvs:List (Key×D)}:vG (gy kvs)=some (.lst (kvs.map fun p=>kD p.1)):=by
 show some (D.lst ((kvs.map (·.1)).map kD))=_
 rw[List.map_map];rfl
theorem oR{P:Program}{w:World}:∀{ks:List (Key×V)}{us:List Value},us.length=ks.length->(∀(j:Nat) (v:Value),us[j]?=some v->∃k x,ks[j]?=some (k,x)/\aD (kV k) v)->aA (ks.map fun p=>kV p.1) us
 |[],us,h,_=>by
  have:us=[]:=List.eq_nil_of_length_eq_zero h
  subst this;exact .nil
 |_::_,[],h,_=>by cases h
 |p::ks,u::us,h,hh=>by
  rw[List.map_cons]
  obtain⟨k,x,e,r⟩:=hh 0 u rfl
  cases e
  exact .cons r (oR (P:=P) (w:=w) (Nat.succ.inj h) fun j v hv=>hh (j+1) v (by simpa using hv))
section
variable{X:Cx}
theorem tS(hc:X.calm=true):cM X (.type "list") (fun xs H Q=>∃p ks o,xs=[.ref p]/\H p=some (.frz o (.dK ks))/\∀l,H l=none->Q (.ref l) (upd H l (.lst (ks.map fun p=>kV p.1)))):=by
 intro ae s σ H xs us Q I r h
 obtain⟨p,ks,o,rfl,hq,q⟩:=h
 obtain⟨u,rfl,rx⟩:=nt r
 cases rx
 obtain⟨ho,hz,hs,vs,rel,o',es,ep,q',c,hd,hr⟩:=I.hok p _ hq
 have da:s.heap.DictAt (aO X.prog X.w) p vs ep:=⟨o',es,q',c,hd,hr⟩
 have hl:ks.length=vs.length:=rel.length
 refine PySem.W.kdl_call (PySem.W.kdl_dict (knd:=aO X.prog X.w) (kvs:=vs) (ep:=ep) hs) (I.ok.hd hc) da (by rw[<-hl];exact hz) fun h' tk acc' c' kp e items=>?_
 have hv:aA (ks.map fun p=>kV p.1) acc'.toList:=oR (P:=X.prog) (w:=X.w) (by rw[Array.length_toList,items.1,hl]) fun j v hj=>by
  obtain⟨k,x,hx,hk⟩:=items.2 j v (by rw[<-Array.getElem?_toList];exact hj)
  have hjl:j<ks.length:=by rw[hl];exact(List.getElem?_eq_some_iff.mp hx).1
  obtain⟨y,hy,ek,_⟩:=dU rel j ks[j] (by simp[hjl])
  rw[hx]at hy;cases hy
  refine⟨k,ks[j].2,?_,qa hk⟩
  rw[List.getElem?_eq_getElem hjl]
  have e2:ks[j].1=k:=ek
  rw[<-e2]
 exact⟨.ref s.heap.objs.size,_,I.laid (t':=tk) kp (Nat.le_refl _) (show cu X.prog X.w _ h' _ (.lst _)from⟨by rw[List.length_map];exact hz,acc'.toList,c',hv,e⟩),rfl,q _ (I.hok.fresh (Nat.le_refl _))⟩
theorem nZ{K:PySem.W.Frag}{M:DH}{H:Hp}:∀{ks:List Key}{vs:List V},ks.length=vs.length->aq K M H (ks.map kD) ((ks.zip vs).map fun p=>kV p.1)
 |[],vs,_=>by simp only[List.map_nil,List.zip_nil_left];exact aq.nil
 |k::ks,[],h=>by cases h
 |k::ks,v::vs,h=>by
  rw[List.map_cons,List.zip_cons_cons,List.map_cons]
  exact aq.cons fN (nZ (Nat.succ.inj h))
theorem Bo(hc:X.calm=true):bo X (.type "list") (jH vG):=bo.of (tS hc) fun H M xs ds dz Q hr rp e q=>by
 obtain⟨d,rfl,e0⟩:=cy e
 clear e
 obtain⟨v,rfl,r⟩:=jo rp
 cases d with
 |box t ds =>
  cases t with
  |dk ks =>
   cases e0
   simp only[aL,Rep,gp]at r
   obtain⟨a,vs,rfl,⟨hl,⟨o,ha⟩,_⟩,rl⟩:=r
   exact⟨a,_,o,rfl,ha,fun l hl'=>lM hr hl' (nZ hl) q⟩
  |_=>cases e0
 |_=>cases e0
def BW:List Int->Option Int
 |[]=>none
 |n::ns=>some (ns.foldl max n)
theorem j3:∀(ns:List Int) (n:Int),(∀a∈n::ns,a<=ns.foldl max n)/\ns.foldl max n∈n::ns
 | [],n => ⟨fun a h => by
   rw[List.mem_singleton.mp h]
   exact Int.le_refl _,List.mem_cons_self⟩
 |m::ns,n=>by
  obtain⟨h1,h2⟩:=j3 ns (max n m)
  rw[List.foldl_cons]
  have h3:=h1 (max n m) (.head _)
  refine⟨fun a h=>?_,?_⟩
  ·rcases List.mem_cons.mp h with e|h
   ·omega
   ·rcases List.mem_cons.mp h with e|h
    ·omega
    ·exact h1 a (.tail _ h)
  ·rcases List.mem_cons.mp h2 with e|h
   ·by_cases c:n<=m
    ·have:ns.foldl max (max n m)=m:=by omega
     rw[this];exact .tail _ (.head _)
    ·have:ns.foldl max (max n m)=n:=by omega
     rw[this];exact .head _
   ·exact .tail _ (.tail _ h)
def Bt:D->Option D
 |.lst ds=>((dY ds).bind BW).map D.int
 |_=>none
theorem Dm{ns:List Int}:Bt (.lst (ns.map D.int))=(BW ns).map D.int:=by simp only[Bt,iV,Option.bind_some]
theorem D7(hc:X.calm=true):bo X (.builtin "max") (jH Bt):=by
 intro ae s σ H M xs us ds dz Q I hr rv rp e k
 obtain⟨d,rfl,e0⟩:=cy e
 clear e
 obtain⟨v,rfl,r⟩:=jo rp
 obtain⟨u,rfl,ru⟩:=aA.one rv
 cases d with
 |lst ds =>
  simp only[Bt]at e0
  cases q:dY ds with
  |none=>rw[q]at e0;cases e0
  |some ns =>
   rw[q]at e0
   cases ns with
   |nil=>cases e0
   |cons n ns =>
    cases e0
    obtain⟨l,vs,rfl,sq,rl⟩:=r
    cases ru
    obtain⟨its,rv,pl,hz⟩:=I.list (SqL.of sq)
    obtain⟨ys,e1,e2⟩:=jW q rl rv
    have hsz:0<ys.size:=by
     have h:=congrArg List.length e2
     simp at h;omega
    refine max_intList (xs:=ys) (I.ok.hd hc) (by rw[<-e1];exact pl.isList) hsz fun v h' tk hv kk=>?_
    obtain⟨t,rfl⟩:=intItems_at hv
    obtain⟨h1,h2⟩:=argBest_gt (numAt ys) (ys.size-1)
    have I1:Inv X ae σ H { s with heap:=h',toks:=tk }:=I.kept (t':=tk) kk
    refine⟨.int _,H,I1,⟨_,rfl⟩,k _ H (Ext.refl _ _) hr ?_⟩
    obtain⟨m1,m2⟩:=j3 ns n
    have e3:∀j,j<ys.size->numAt ys j∈n::ns:=fun j hj=>by
     rw[numAt_eq,e2]
     exact getD_mem (by rw[<-e2,List.length_map,Array.length_toList];exact hj)
    have a1:=m1 _ (e3 _ (Nat.lt_of_le_of_lt h1 (by omega)))
    have a2:ns.foldl max n<=numAt ys (argBest (fun i j=>decide (numAt ys i > numAt ys j)) (ys.size-1)):=by
     rw[<-e2]at m2
     obtain⟨j,hj,ej⟩:=mem_getD m2
     rw[List.length_map,Array.length_toList]at hj
     rw[<-ej,<-numAt_eq]
     exact h2 j (by omega)
    have:numAt ys (argBest (fun i j=>decide (numAt ys i > numAt ys j)) (ys.size-1))=ns.foldl max n:=Int.le_antisymm a1 a2
    rw[this]
    simp[Rep]
 |_=>cases e0
end
def HF(s:Stmt) (i:Nat):Stmt:=match s with
 |.ClassDef _ _ _ b _ _ _ _ _ _ _=>b.getD i (.Pass ⟨0,0,0,0⟩)
 |_=>.Pass ⟨0,0,0,0⟩
def yc(K:PySem.W.Frag) (mg:Str->Option Value) (x:Str) (ks:List Key):Prop:=∃a,mg x=some (.ref a)/\SqT K (fun _=>none) a (ks.map kV)
section
variable{X:Cx}{x:Str}{ks:List Key}{pos:Pos}
theorem Av(hg:Gl X x) (hm:yc X.K X.mg x ks) (hd:(x==("__debug__":Str))=false:=by decide):PEd X (.Name x pos) (dC (.tup (ks.map kD))):=by
 obtain⟨a,h1,h2⟩:=hm
 refine PE.conv (pk (v:=.ref a) hg h1 rfl hd) fun σ H Q ⟨Δ,M,R,sr,hr,q,k⟩=>?_
 refine k _ M _ H q (Ext.refl _ _) hr ?_
 simp only[Rep]
 exact⟨a,_,rfl,.inr h2,qu ks⟩
theorem vw(hg:Gl X x) (hm:yc X.K X.mg x ks) (hd:(x==("__debug__":Str))=false:=by decide):QEd X (.Name x pos) (dC (.tup (ks.map kD))):=by
 simp only[QEd.eq]at *
 exact Av hg hm hd
end
/-! int(b) -/
def GH:D->Option D
 |.int i=>some (.int i)
 |.bl k=>some (.int (if k then 1 else 0))
 |_=>none
theorem DU{k:Bool}:GH (.bl k)=some (.int (if k then 1 else 0)):=rfl
theorem GB{X:Cx}:bo X (.type "int") (jH GH):=bo.of wy fun H M xs ds dz Q hr rp e q=>by
 obtain⟨d,rfl,e0⟩:=cy e
 clear e
 obtain⟨v,rfl,r⟩:=jo rp
 cases d with
 |int i=>cases e0;rw[dM r];exact .inl ⟨i,rfl,q _ H (Ext.refl _ _) hr (by simp[Rep])⟩
 |bl k=>cases e0;rw[rBl r];exact .inr ⟨k,rfl,q _ H (Ext.refl _ _) hr (by simp[Rep])⟩
 |_=>cases e0
/-! ### sorted of texts -/
section
variable{X:Cx}
/-! ### x not in xs,the things of any depth -/
def lK(x y:D):Option D:=match y with
 |.lst ds=>if dLe x 59=true/\cx ds 59=true then some (.bl (!(ds.any fun d=>eqD d x)))else none
 |.tup ds=>if dLe x 59=true/\cx ds 59=true then some (.bl (!(ds.any fun d=>eqD d x)))else none
 |_=>none
theorem yG{x:D}{ds:List D}:lK x (.lst ds)=if dLe x 59=true/\cx ds 59=true then some (.bl (!(ds.any fun d=>eqD d x)))else none:=rfl
theorem xM{x:D}{ds:List D}:lK x (.tup ds)=if dLe x 59=true/\cx ds 59=true then some (.bl (!(ds.any fun d=>eqD d x)))else none:=rfl
theorem sT{h:Heap}{a:Addr}{xs:Array Value}(p:IsTup h a xs):h.IsTuple a xs:=by
 obtain⟨o,h1,h2,n,h3⟩:=p
 exact⟨o,h1,h2,n,h3⟩
open Classical in
theorem rV(hu:X.A.units+64<cLine):bO X (compareOp .NotIn) lK:=by
 intro ae s σ H M x y v u dx dy dz Q I hr rx ry r1 r2 e k
 cases dy with
 |lst ds =>
  simp only[lK]at e
  by_cases hc:dLe dx 59=true/\cx ds 59=true
  ·rw[if_pos hc]at e;cases e
   obtain⟨l,vs,rfl,sq,rl⟩:=r2
   cases ry
   obtain⟨its,r,pl,hz⟩:=I.list (SqL.of sq)
   have hl:ds.length=its.length:=rl.length.trans r.length
   have at_:∀j (h:j<ds.length) (h':j<its.length),PySem.SeqAt.EqAt X.A.in1 s its[j] v (eqD ds[j] dx):=fun j h h'=>by
    obtain⟨v1,g1,p1⟩:=rl.get (i:=j) (d:=ds[j]) (by simp[h])
    obtain⟨u1,k1,m1⟩:=r.get g1
    have e1:its[j]=u1:=by simpa[List.getElem?_eq_getElem h']using k1
    rw[e1]
    exact(pT I 59 (by show X.A.units+1+59<cLine;omega) (fE hc.2 (i:=j) (by simp[h])) hc.1 p1.r r1 m1 rx).1
   refine SeqAt.notIn_listAt (fun w=>decide (∃j,∃h:j<ds.length,∃h':j<its.length,its[j]=w/\eqD ds[j] dx=true)) pl.isList (fun w hw=>?_) ⟨.bl _,H,I,rfl,?_⟩
   ·obtain⟨i,hi,rfl⟩:=List.mem_iff_getElem.mp (show w∈its by simpa using hw)
    by_cases q:∃j,∃h:j<ds.length,∃h':j<its.length,its[j]=its[i]/\eqD ds[j] dx=true
    ·rw[decide_eq_true q]
     obtain⟨j,h,h',q1,q2⟩:=q
     rw[<-q1,<-q2];exact at_ j h h'
    ·rw[decide_eq_false q]
     have:=at_ i (by omega) hi
     rwa [show eqD ds[i] dx=false from Bool.eq_false_iff.mpr fun z=>q ⟨i,by omega,hi,rfl,z⟩]at this
   ·have ea:its.toArray.any (fun w=>decide (∃j,∃h:j<ds.length,∃h':j<its.length,its[j]=w/\eqD ds[j] dx=true))=ds.any fun d=>eqD d dx:=by
     rw[Bool.eq_iff_iff,List.any_toArray,List.any_eq_true,List.any_eq_true]
     constructor
     ·rintro⟨w,_,h⟩
      obtain⟨j,h1,_,_,h2⟩:=of_decide_eq_true h
      exact⟨ds[j],List.getElem_mem _,h2⟩
     ·rintro⟨d,hd,h⟩
      obtain⟨j,hj,rfl⟩:=List.mem_iff_getElem.mp hd
      exact⟨its[j],List.getElem_mem _,decide_eq_true ⟨j,hj,by omega,rfl,h⟩⟩
    rw[ea]
    exact k _ H (Ext.refl _ _) hr (by simp[Rep])
  ·rw[if_neg hc]at e;cases e
 |tup ds =>
  simp only[lK]at e
  by_cases hc:dLe dx 59=true/\cx ds 59=true
  ·rw[if_pos hc]at e;cases e
   obtain⟨l,vs,rfl,sq,rl⟩:=r2
   cases ry
   obtain⟨its,r,pl,hz⟩:=I.tuple sq
   have hl:ds.length=its.length:=rl.length.trans r.length
   have at_:∀j (h:j<ds.length) (h':j<its.length),PySem.SeqAt.EqAt X.A.in1 s its[j] v (eqD ds[j] dx):=fun j h h'=>by
    obtain⟨v1,g1,p1⟩:=rl.get (i:=j) (d:=ds[j]) (by simp[h])
    obtain⟨u1,k1,m1⟩:=r.get g1
    have e1:its[j]=u1:=by simpa[List.getElem?_eq_getElem h']using k1
    rw[e1]
    exact(pT I 59 (by show X.A.units+1+59<cLine;omega) (fE hc.2 (i:=j) (by simp[h])) hc.1 p1.r r1 m1 rx).1
   refine SeqAt.notIn_tupleAt (fun w=>decide (∃j,∃h:j<ds.length,∃h':j<its.length,its[j]=w/\eqD ds[j] dx=true)) (sT pl) (fun w hw=>?_) ⟨.bl _,H,I,rfl,?_⟩
   ·obtain⟨i,hi,rfl⟩:=List.mem_iff_getElem.mp (show w∈its by simpa using hw)
    by_cases q:∃j,∃h:j<ds.length,∃h':j<its.length,its[j]=its[i]/\eqD ds[j] dx=true
    ·rw[decide_eq_true q]
     obtain⟨j,h,h',q1,q2⟩:=q
     rw[<-q1,<-q2];exact at_ j h h'
    ·rw[decide_eq_false q]
     have:=at_ i (by omega) hi
     rwa [show eqD ds[i] dx=false from Bool.eq_false_iff.mpr fun z=>q ⟨i,by omega,hi,rfl,z⟩]at this
   ·have ea:its.toArray.any (fun w=>decide (∃j,∃h:j<ds.length,∃h':j<its.length,its[j]=w/\eqD ds[j] dx=true))=ds.any fun d=>eqD d dx:=by
     rw[Bool.eq_iff_iff,List.any_toArray,List.any_eq_true,List.any_eq_true]
     constructor
     ·rintro⟨w,_,h⟩
      obtain⟨j,h1,_,_,h2⟩:=of_decide_eq_true h
      exact⟨ds[j],List.getElem_mem _,h2⟩
     ·rintro⟨d,hd,h⟩
      obtain⟨j,hj,rfl⟩:=List.mem_iff_getElem.mp hd
      exact⟨its[j],List.getElem_mem _,decide_eq_true ⟨j,hj,by omega,rfl,h⟩⟩
    rw[ea]
    exact k _ H (Ext.refl _ _) hr (by simp[Rep])
  ·rw[if_neg hc]at e;cases e
 |_=>cases e
end
section
variable{X:Cx}{e:Expr}{t:TEd}
/-! ### an expression that leaves everything as it is: all that is ours is lent to it -/
end
/-! ### the defs of the text,said shortly -/
section
variable{P:Program}{w:World}{K:PySem.W.Frag}{h base:Heap}{mg:Str->Option Value}{x qual:Str}{st:Stmt}{f:Addr}{fd:FuncData}{k:Nat}{S:SpD}
structure bK(K:PySem.W.Frag) (x:Str) (st:Stmt) (f:Addr) (fd:FuncData):Prop where
 a:PySem.W.nsIn K mainGlobals x=some (some (.ref f))
 F:Fun K x x st f fd
theorem G4{oc:Value}{od an:Option Addr}{osl:Array (Option Value)}{kV doc pm cdv ct:Value}(a:PySem.W.nsIn K mainGlobals x=some (some (.ref f))) (l:K.lookup f=some ⟨oc,od,.func (PySem.W.fnOf x x (fO st) (dh st) (am st) .none kV doc pm an cdv ct),osl⟩)
  (c:PySem.W.codeIn K cdv x=true) (k:PySem.W.keepIn K (.ref f)=true):bK K x st f (PySem.W.fnOf x x (fO st) (dh st) (am st) .none kV doc pm an cdv ct):=⟨a,yJ l c k⟩
theorem usS{p:List Value->Prop}{n:Nat}(h:∀a us,us.length=n->p (a::us)):∀us:List Value,us.length=n+1->p us:=by
 intro us e
 cases us with
 |nil=>cases e
 |cons a us=>exact h a us (Nat.succ.inj e)
theorem us0{p:List Value->Prop}(h:p []):∀us:List Value,us.length=0->p us:=by
 intro us e
 cases us with
 |nil=>exact h
 |cons a us=>cases e
def Bd(x qual:Str) (st:Stmt) (ps:List Str) (us:List Value):Prop:=∀(kV doc pm:Value) (an:Option Addr) (cdv ct:Value),bindArgs (PySem.W.fnOf x qual (fO st) (dh st) (am st) .none kV doc pm an cdv ct) ⟨us,[]⟩=pure (ps.zip us)
theorem qD{ps:List Str}(F:Fun K x qual st f fd) (b:∀us:List Value,us.length=ps.length->Bd x qual st ps us):dv K fd ps []:=F.binds fun kV doc pm an cdv ct us hl=>b us hl kV doc pm an cdv ct
variable{p1 p2 p3 p4 p5:Str}
theorem bd1(F:Fun K x qual st f fd) (b:∀a,Bd x qual st [p1] [a]):dv K fd [p1] []:=qD F (usS fun a=>us0 (b a))
theorem bd2(F:Fun K x qual st f fd) (b:∀a c,Bd x qual st [p1,p2] [a,c]):dv K fd [p1,p2] []:=qD F (usS fun a=>usS fun c=>us0 (b a c))
theorem bd3(F:Fun K x qual st f fd) (b:∀a c d,Bd x qual st [p1,p2,p3] [a,c,d]):dv K fd [p1,p2,p3] []:=qD F (usS fun a=>usS fun c=>usS fun d=>us0 (b a c d))
theorem bd4(F:Fun K x qual st f fd) (b:∀a c d e,Bd x qual st [p1,p2,p3,p4] [a,c,d,e]):dv K fd [p1,p2,p3,p4] []:=qD F (usS fun a=>usS fun c=>usS fun d=>usS fun e=>us0 (b a c d e))
theorem bd5(F:Fun K x qual st f fd) (b:∀a c d e g,Bd x qual st [p1,p2,p3,p4,p5] [a,c,d,e,g]):dv K fd [p1,p2,p3,p4,p5] []:=qD F (usS fun a=>usS fun c=>usS fun d=>usS fun e=>usS fun g=>us0 (b a c d e g))
theorem fg{ps:List Str}{n:Nat}(X:K.In h) (G:h.Ns mainGlobals mg) (i:bK K x st f fd) (o:ba P w K mg base CX0 k f fd ps (spD K n S)) (b:dv K fd ps []):FnD P w K mg base x k n S:=⟨_,_,_,o,PySem.W.mg_of X G i.a,i.F.kp,b⟩
theorem Ee{fa:Addr}{sp:Sp}{lp:Program}(X:K.In h) (G:h.Ns mainGlobals mg) (hfa:mg "law"=some (.ref fa)) (i:bK K "law" st f fd) (b:∀a,Bd "law" "law" st [p1] [a]) (o:∀base:Heap,ba lp w K mg base CX0 k f fd [p1] sp) :
  ∃fd:FuncData,(∀(s:Shared) (v:Value),BindsTo s fd ⟨[v],[]⟩ [(p1,v)])/\∀base:Heap,K.In base->base.Ns mainGlobals mg->ba lp w K mg base CX0 k fa fd [p1] sp:=by
 have e:=hfa.symm.trans (PySem.W.mg_of X G i.a)
 cases e
 refine⟨fd,fun s v=>?_,fun base _ _=>o base⟩
 obtain⟨oc,od,kV,doc,pm,an,cdv,ct,osl,rfl,lk,hcd⟩:=i.F.ex
 exact .of_eq (b v kV doc pm an cdv ct)
end
/-! ### dict(pairs),pairs a tuple of tuples of two -/
theorem nv:typeLookup (.type "tuple") "keys"=pure none:=by rw[typeLookup_type,builtinLookup_eq_fast];kernel_rfl
theorem n6:entryFor table "dict.update.loop"=some Builtin.«dict.update.loop»:=entryFor_of_tree (by kernel_rfl)
theorem ip:plainId "dict.update.loop"=true:=by decide +kernel
section
variable{prog:Program}{w:World}{A:Around}{E:Value->Shared->Prop}{s:Shared}
theorem wZ{a:Addr}{o:Obj}{xs:Array Value}{k:Nat}{Q:Option Value->Shared->Prop}(hx:s.heap.get? a=some o) (hc:o.cls=.type "tuple") (hdat:o.data=.seq xs k) (hd:o.dict=none) (hA:A.handled=none)
  (h:∀h' tk e,Heap.NewExcOf s.heap h' e "AttributeError"->Q none { s with heap:=h',toks:=tk }):wpAny (model prog w) A (getAttr? (.ref a) "keys") Q E s:=by
 obtain⟨c,dct,dat,sl⟩:=o
 simp only at hc hdat hd
 subst hc hdat hd
 obtain⟨hp,g,d,tk,os⟩:=s
 have hT:∀tk',(⟨hp,g,d,tk',os⟩:Shared).TypeIs (.ref a) "tuple":=fun _=>⟨_,hx,rfl⟩
 have f1:=sub_AttributeError
 have f3:=F.slot_tuple_getattribute.lookup
 have f4:=F.slot_tuple_getattribute.bind (.ref a)
 have f5:=am_tuple_getattr_none
 unfold getAttr? getAttrBy? getAttrBy
 repeat (any_goals (first|assumption|exact hT _|((with_reducible show wpAny _ _ (call (Value.builtin "tuple.__getattribute__") _ _) _ _ _);refine call_meets F.slot_tuple_getattribute (hT _) am_entry_tuple_getattribute (F.args_tuple_getattribute_2 _ _) (meets_getattribute_miss_tuple a xs k sl "keys" _ nv (by decide) (by decide)) ⟨hx,hA,fun h' tk' e hx'=>?_⟩)|wp_step))
 obtain⟨t',u',he⟩:=hx'.there
 show wpAny _ _ (getattributeRaised _ _ _ _ _ _ _) _ _ _
 unfold getattributeRaised
 repeat (any_goals (first|assumption|wp_step))
 exact h _ _ _ hx'.of
theorem sS{b:Addr}{x y:Value}{Q:List Value->Shared->Prop}(ht:IsTup s.heap b #[x,y]) (h:Q [x,y] s):wpAny (model prog w) A (Builtin.Dict.pairItems (.ref b)) Q E s:=by
 obtain⟨o,h1,h2,n,h3⟩:=ht
 unfold Builtin.Dict.pairItems
 refine wpAny_bind (wpAny_typeOf (T:="tuple") ⟨o,h1,h2⟩ ?_)
 rw[if_pos (by decide)]
 refine wpAny_bind (wpAny_seqItems h1 h3 ?_)
 exact wpAny_pure h
variable{K:Type} [DecidableEq K] {knd:KeyKind prog w K}{R:Result->Shared->Prop}{I:Addr}{fp wr:List Addr}{G:Array GenState->Array GenState->Prop}{n:Nat}{P:Nat->Value->Prop}{St:Nat->Shared->Prop}
def lG(knd:KeyKind prog w K) (h:Heap) (b:Addr) (kv:K×Value):Prop:=∃key,IsTup h b #[key,kv.2]/\knd.is kv.1 key=true
theorem Bi(W:WalksS prog w A.in1 I fp wr G n P St) (d:Addr) (hdf:d∉fp) (kvs:List (K×Value)) (hn:kvs.length=n) (hz:n<=sizeLine) (hnd:(kvs.map (·.1)).Nodup) (bs:Nat->Addr)
  (hP:∀i v,P i v->v=.ref (bs i)) (hbs:∀i,i<n->bs i∉d::wr) :
  ∀(k i:Nat) (s:Shared) (t:Tok),n-i=k->i<=n->St i s->s.heap.DictOf knd d (kvs.take i)->(∀j (kv:K×Value),kvs[j]?=some kv->lG knd s.heap (bs j) kv) ->
   (∀s',Moved (d::wr) G s s'->s'.heap.DictOf knd d kvs->R (.ok (.ret .none)) s') ->
   codeAny (model prog w) A (.builtin "dict.update.loop" ⟨[.ref d,.ref I,.int i t,.none],[]⟩) R s:=by
 have hSw:d∉wr:=fun h=>hdf (W.sub _ h)
 have hsub:∀b∈wr,b∈d::wr:=fun b hb=>List.mem_cons_of_mem _ hb
 intro k
 induction k with
 |zero =>
  intro i s t hk hi hst hS hpa hR
  have hin:i=n:=by omega
  subst hin
  refine codeAny_builtin n6 ?_
  rw[Around.under_plainId ip _]
  show wpAny _ A.in1 (pyNext (.ref I) >>= _) _ _ s
  refine wpAny_bind (W.done s _ _ hst fun s' hm=>?_)
  show wpAny _ A.in1 (Builtin.Dict.addKeywords d [] >>= _) _ _ s'
  refine wpAny_bind (wpAny_pure (wpAny_pure (hR s' (hm.mono hsub) ?_)))
  rw[List.take_of_length_le (by omega)]at hS
  obtain⟨o,es,ep,ho,rest⟩:=hS
  exact⟨o,es,ep,hm.heap d _ hSw ho,rest⟩
 |succ k ih =>
  intro i s t hk hi hst hS hpa hR
  have hlt:i<n:=by omega
  refine codeAny_builtin n6 ?_
  rw[Around.under_plainId ip _]
  show wpAny _ A.in1 (pyNext (.ref I) >>= _) _ _ s
  refine wpAny_bind (W.item i s _ _ hlt hst fun v s' hPi hst' hm=>?_)
  obtain rfl:=hP i v hPi
  have hS':s'.heap.DictOf knd d (kvs.take i):=by
   obtain⟨o,es,ep,ho,rest⟩:=hS
   exact⟨o,es,ep,hm.heap d _ hSw ho,rest⟩
  have hpa':∀j (kv:K×Value),kvs[j]?=some kv->lG knd s'.heap (bs j) kv:=fun j kv hj=>by
   obtain⟨key,⟨o,h1,h2,m,h3⟩,h4⟩:=hpa j kv hj
   have hjn:j<n:=by have:=(List.getElem?_eq_some_iff.mp hj).1;omega
   exact⟨key,⟨o,hm.heap _ _ (fun z=>hbs j hjn (hsub _ z)) h1,h2,m,h3⟩,h4⟩
  have hi':i<kvs.length:=by omega
  obtain⟨key,ht,hkey⟩:=hpa' i kvs[i] (List.getElem?_eq_getElem hi')
  have hstored:stored (kvs.take i) kvs[i].1 kvs[i].2=kvs.take (i+1):=by
   have hno:¬ ((kvs.take i).any fun kv=>decide (kv.1=kvs[i].1))=true:=by
    rw[List.any_eq_true]
    rintro⟨x,hx,e⟩
    have e':x.1=kvs[i].1:=by simpa using e
    obtain⟨j,hj,ej⟩:=List.mem_iff_getElem.mp hx
    rw[List.length_take]at hj
    rw[List.getElem_take]at ej
    have hd2:=List.pairwise_iff_getElem.mp hnd j i (by rw[List.length_map];omega) (by rw[List.length_map];omega) (by omega)
    simp only[List.getElem_map]at hd2
    exact hd2 (by rw[ej];exact e')
   rw[stored,if_neg hno,List.take_add_one,List.getElem?_eq_getElem hi']
   rfl
  show wpAny _ A.in1 (holding [Value.ref (bs i)] _ >>= _) _ _ s'
  refine wpAny_bind (wpAny_holding (wpAny_bind (wpAny_tryCatch (sS ht ?_))))
  refine wpAny_holding (wpAny_dictSet_pairs (hsz:=by rw[List.length_take];omega) hkey hS' fun h' hd' hs'=>?_)
  rw[hstored]at hd'
  refine wpAny_pure ⟨plainId_quiet ip _,ih (i+1) _ _ (by omega) hlt (W.frame _ s' _ _ hst' (Nat.le_succ _) fun b hb o e=>?_) hd' (fun j kv hj=>?_) fun s'' hm'' hS''=>?_⟩
  ·rw[hs'.2 b (fun h:b=d=>hdf (by rw[<-h];exact hb))];exact e
  ·obtain⟨key,⟨o,h1,h2,m,h3⟩,h4⟩:=hpa' j kv hj
   have hjn:j<n:=by have:=(List.getElem?_eq_some_iff.mp hj).1;omega
   refine⟨key,⟨o,?_,h2,m,h3⟩,h4⟩
   show h'.get? (bs j)=_
   rw[hs'.2 _ (fun z=>hbs j hjn (by rw[z];exact List.mem_cons_self))];exact h1
  ·refine hR s'' (Moved.trans W.gtrans ((hm.mono hsub).then_heap (Nat.le_succ _) fun b o hb e=>?_) hm'') hS''
   rw[hs'.2 b (fun h:b=d=>hb (by rw[h];exact List.mem_cons_self))];exact e
def uk(its:Array Value) (i:Nat):Addr:=match its[i]? with|some (.ref b)=>b|_=>0
theorem kS{l:Addr}{its:Array Value}{kvs:List (K×Value)}{Q:Value->Shared->Prop}(hh:A.handled=none) (hl:iR s.heap l its) (hn:kvs.length=its.size) (hz:its.size<=sizeLine) (hnd:(kvs.map (·.1)).Nodup)
  (hit:∀(i:Nat) (kv:K×Value),kvs[i]?=some kv->∃b,its[i]?=some (Value.ref b)/\lG knd s.heap b kv)
  (h:∀h' tk,h'.DictOf knd s.heap.objs.size kvs->(∀b o,s.heap.get? b=some o->h'.get? b=some o)->Q (.ref s.heap.objs.size) { s with heap:=h',toks:=tk }) :
  wpAny (model prog w) A (call (.type "dict") [.ref l]) Q E s:=by
 refine callType_codes (Q₁:=fun(obj:Value) (s₁:Shared)=>obj=Value.ref s.heap.objs.size/\s₁={ s with heap:=s.heap.push { cls:=.type "dict",data:=.dict #[] } }) F.kt_called_dict (F.kt_typeCall_dict_1 _) F.entry_dict_init (kt_code_dict_new _ ⟨rfl,rfl⟩) ?_
 rintro obj s₁ ⟨rfl,rfl⟩
 have hnew:(s.heap.push { cls:=.type "dict",data:=.dict #[] }).DictOf knd s.heap.objs.size []:=Heap.DictOf.new s.heap
 have hlt:l<s.heap.objs.size:=hl.lt
 obtain⟨o,ho,hc,⟨m,hd⟩,hdict⟩:=hl
 have ho':(s.heap.push { cls:=.type "dict",data:=.dict #[] }).get? l=some o:=Heap.get?_push_of_some _ ho
 refine⟨hnew.typeIs,F.args_dict_init_2 _ _,?_⟩
 unfold Builtin.«dict.__init__»
 refine wpAny_bind ?_
 unfold Builtin.Dict.selfAndRest
 refine wpAny_bind (wpAny_notOrdered_dict hnew.typeIs ?_)
 show wpAny _ _ (pure (s.heap.objs.size,[Value.ref l])) _ _ _
 refine wpAny_pure ?_
 show wpAny _ _ (Builtin.Dict.updateFrom "dict.__init__" s.heap.objs.size (.ref l) [] .none) _ _ _
 unfold Builtin.Dict.updateFrom
 refine wpAny_bind (wpAny_typeOf (T:="tuple") ⟨o,ho',hc⟩ ?_)
 rw[if_pos (by decide)]
 have hh2:A.in1.in1.handled=none:=hh
 refine wpAny_bind (wZ ho' hc hd hdict hh2 fun h1 tk1 e1 hx=>?_)
 have ht1:h1.IsTuple l its:=⟨o,hx.keeps _ _ ho',hc,m,hd⟩
 have hd1:h1.DictOf knd s.heap.objs.size []:=by
  obtain⟨q,es,ep,hq,rest⟩:=hnew
  exact⟨q,es,ep,hx.keeps _ _ hq,rest⟩
 have hsz:s.heap.objs.size<h1.objs.size:=by
  obtain⟨q,es,ep,hq,rest⟩:=hd1
  exact Heap.lt_size hq
 have hold:∀b q,s.heap.get? b=some q->h1.get? b=some q:=fun b q e=>hx.keeps _ _ (Heap.get?_push_of_some _ e)
 rw[if_pos (show(Option.isNone (none:Option Value))=true from rfl)]
 refine wpAny_bind (wpAny_rule (wpAny_bind (wpAny_pyIter_tuple ht1 ?_)))
 refine wpAny_pure ⟨plainId_quiet ip _,?_⟩
 have hb:∀(i:Nat) (kv:K×Value),kvs[i]?=some kv->uk its i<s.heap.objs.size/\lG knd s.heap (uk its i) kv:=fun i kv hi=>by
  obtain⟨b,e,q⟩:=hit i kv hi
  have eb:uk its i=b:=by unfold uk;rw[e]
  rw[eb]
  obtain⟨key,⟨ob,g1,_⟩,_⟩:=id q
  exact⟨Heap.lt_size g1,q⟩
 have hget:∀i,i<its.size->∃kv,kvs[i]?=some kv:=fun i hi=>⟨kvs[i]'(by omega),List.getElem?_eq_getElem (by omega)⟩
 refine Bi (n:=its.size) ((Walks.tuple (A:=A.in1.in1) hh2 h1.objs.size l (Nat.ne_of_lt (Nat.lt_trans hlt hsz)) its).toS) s.heap.objs.size (by
  simp only[List.mem_cons,List.not_mem_nil,or_false,not_or];exact⟨Nat.ne_of_lt hsz,Nat.ne_of_gt hlt⟩) kvs hn hz hnd (uk its) (fun i v hi=>?_) (fun i hi=>?_) _ 0 _ 0 rfl (Nat.zero_le _) ⟨⟨_,Heap.get?_push_size _ rfl,rfl,rfl⟩,ht1.push _⟩ (hd1.push _) (fun j kv hj=>?_) fun s' hm hS'=>?_
 ·have hi':i<its.size:=(Array.getElem?_eq_some_iff.mp hi).1
  obtain⟨kv,hkv⟩:=hget i hi'
  obtain⟨b,e,_⟩:=hit i kv hkv
  have e':its[i]?=some v:=hi
  rw[e]at e'
  have eb:uk its i=b:=by unfold uk;rw[e]
  rw[eb];exact(Option.some.inj e').symm
 ·obtain⟨kv,hkv⟩:=hget i hi
  have:=(hb i kv hkv).1
  simp only[List.mem_cons,List.not_mem_nil,or_false,not_or];exact⟨Nat.ne_of_lt this,Nat.ne_of_lt (Nat.lt_trans this hsz)⟩
 ·obtain⟨key,⟨ob,g1,g2,gm,g3⟩,g4⟩:=(hb j kv hj).2
  exact⟨key,⟨ob,Heap.get?_push_of_some _ (hold _ _ g1),g2,gm,g3⟩,g4⟩
 ·obtain⟨h',g',d',tk',os'⟩:=s'
  have eg:g'=s.gens:=hm.gens
  have ed:d'=s.drawn:=hm.drawn
  have eo:os'=s.os:=hm.os
  subst eg;subst ed;subst eo
  refine⟨rfl,h h' tk' hS' fun b q e=>?_⟩
  have hbl:=Heap.lt_size e
  exact hm.heap b q (by simp only[List.mem_cons,List.not_mem_nil,or_false,not_or];exact⟨Nat.ne_of_lt hbl,Nat.ne_of_lt (Nat.lt_trans hbl hsz)⟩) (Heap.get?_push_of_some _ (hold _ _ e))
end
/-! ### dict(pairs) as a dict that stays as it is -/
def tJ:List D->Option (List (Key×D))
 |[]=>some []
 |.tup [.str k,d]::ds=>(tJ ds).map fun l=>(.inr k,d)::l
 |_=>none
def sy:D->Option D
 |.tup ds=>(tJ ds).bind fun kvs=>if(kvs.map (·.1)).Nodup then some (gy kvs)else none
 |_=>none
theorem Bq{ds:List D}{kvs:List (Key×D)}(h:tJ ds=some kvs) (n:(kvs.map (·.1)).Nodup):sy (.tup ds)=some (gy kvs):=by
 simp only[sy,h,Option.bind_some,if_pos n]
section
variable{X:Cx}{ae:List (Addr×Obj)}{σ:St}{H:Hp}{s:Shared}{M:DH}
theorem Cp(I:Inv X ae σ H s) (hr:HR X.K M H):∀(ds:List D) (vs:List V) (its:List Value) (kvs:List (Key×D)),aq X.K M H ds vs->aA vs its->tJ ds=some kvs ->
  ∃(ws:List V) (us:List Value),aq X.K M H (kvs.map (·.2)) ws/\aA ws us/\kvs.length=its.length/\us.length=its.length/\∀(i:Nat) (kv:Key×Value),((kvs.map (·.1)).zip us)[i]?=some kv->∃b,its[i]?=some (Value.ref b)/\lG (aO X.prog X.w) s.heap b kv
 |[],vs,its,kvs,rl,rv,e=>by
  cases e
  simp only[aq]at rl
  subst rl
  cases rv
  exact⟨[],[],aq.nil,.nil,rfl,rfl,fun i kv h=>by simp at h⟩
 |d::ds,vs,its,kvs,rl,rv,e=>by
  simp only[aq]at rl
  obtain⟨v,vs',rfl,r1,rl'⟩:=rl
  cases rv with
  |@cons _ u _ its' ru rv' =>
   cases d with
   |tup es =>
    cases es with
    |nil=>cases e
    |cons e1 es =>
     cases e1 with
     |str k =>
      cases es with
      |nil=>cases e
      |cons d2 es =>
       cases es with
       |cons _ _=>cases e
       |nil =>
        simp only[tJ]at e
        obtain⟨kvs',ek,rfl⟩:=Option.map_eq_some_iff.mp e
        obtain⟨ws,us,h1,h2,h3,h4,h5⟩:=Cp I hr ds vs' its' kvs' rl' rv' ek
        simp only[Rep]at r1
        obtain⟨b,xs,rfl,ta,rx⟩:=r1
        simp only[aq]at rx
        obtain⟨x1,_,rfl,rx1,x2,_,rfl,rx2,rfl⟩:=rx
        cases(show u=Value.ref b from ru)
        obtain⟨its2,rv2,tn,_⟩:=I.tupN ta.sq
        obtain⟨u1,u2,rfl,ru1,ru2⟩:=aA.two rv2
        simp only[Rep]at rx1
        subst rx1
        refine⟨x2::ws,u2::us,aq.cons rx2 h1,.cons ru2 h2,by simp[h3],by simp[h4],fun i kv hi=>?_⟩
        cases i with
        |zero =>
         simp only[List.map_cons,List.zip_cons_cons,List.getElem?_cons_zero,Option.some.injEq]at hi
         subst hi
         exact⟨b,rfl,u1,tn.tup,kG (k:=.inr k) ru1⟩
        |succ i =>
         simp only[List.map_cons,List.zip_cons_cons,List.getElem?_cons_succ]at hi
         obtain⟨c,g1,g2⟩:=h5 i kv hi
         exact⟨c,by rw[List.getElem?_cons_succ];exact g1,g2⟩
     |_=>cases e
   |_=>cases e
theorem vf{α β γ:Type}:∀{l:List (α×β)}{us:List γ},us.length=l.length->(((l.map (·.1)).zip us).map (·.1))=l.map (·.1)
 |[],[],_=>rfl
 |a::l,u::us,h=>by
  simp only[List.map_cons,List.zip_cons_cons]
  rw[vf (by simpa using h)]
theorem yK{κ:Type}:∀{ks:List κ}{ws:List V}{us:List Value},aA ws us->ks.length=us.length->KV (ks.zip ws) (ks.zip us)
 |[],_,_,_,_=>.nil
 |k::ks,_,_,.nil,h=>by simp at h
 |k::ks,_,_,.cons r rv,h=>.cons ⟨rfl,r⟩ (yK rv (by simpa using h))
theorem sX(hc:X.calm=true):bo X (.type "dict") (jH sy):=by
 intro ae s σ H M xs us ds dz Q I hr rv rp e k
 obtain⟨d,rfl,e0⟩:=cy e
 clear e
 obtain⟨v,rfl,r⟩:=jo rp
 obtain⟨u,rfl,ru⟩:=aA.one rv
 cases d with
 |tup ds =>
  simp only[sy]at e0
  obtain⟨kvs,ek,e1⟩:=Option.bind_eq_some_iff.mp e0
  by_cases hn:(kvs.map (·.1)).Nodup
  ·rw[if_pos hn]at e1;cases e1
   obtain⟨a,vs,rfl,sq,rl⟩:=r
   cases(show u=Value.ref a from ru)
   obtain⟨its,rv',tn,hz⟩:=I.tupN sq
   obtain⟨ws,us,h1,h2,h3,h4,h5⟩:=Cp I hr ds vs its kvs rl rv' ek
   have bj:=rv'.length
   refine kS (knd:=aO X.prog X.w) (kvs:=(kvs.map (·.1)).zip us) (I.ok.hd hc) tn (by simp[h3,h4]) (by simp;omega) (by rw[vf (by omega)];exact hn) (fun i kv hi=>by
    obtain⟨b,g1,g2⟩:=h5 i kv hi
    exact⟨b,by simpa using g1,g2⟩) fun h' tk hd' hk'=>?_
   obtain⟨ob,es,ep,hob,rest⟩:=id hd'
   have hp:=I.hok.fresh (Nat.le_refl s.heap.objs.size)
   have hwl:ws.length=kvs.length:=by have:=h2.length;omega
   have I1:=I.laid (a:=s.heap.objs.size) (o:=.frz ob (.dK ((kvs.map (·.1)).zip ws))) (h':=h') (t':=tk) hk' (Nat.le_refl _) ⟨hob,by simp[hwl];omega,by
    have:=I.big
    exact beq_false_of_ne (Nat.ne_of_gt this),_,yK h2 (by simp;omega),hd'⟩
   refine⟨.ref s.heap.objs.size,_,I1,rfl,k _ _ (Ext.new hr hp) (hr.new hp) ?_⟩
   unfold gy
   simp only[Rep]
   exact⟨_,ws,rfl,⟨by simp[hwl],⟨ob,aC⟩,hr.fresh hp⟩,h1.ext (Ext.new hr hp)⟩
  ·rw[if_neg hn]at e1;cases e1
 |_=>cases e0
end
/-! ### xs.insert(i,y),xs.extend(a tuple) -/
section
variable{X:Cx}{o e e1 e2:Expr}{to te t1 t2:TEd}
def uw:V->List V->Hp->VK->Prop:=fun x vs H Q=>∃(l:Addr) (xs:List V) (i:Nat) (y:V),x=.ref l/\vs=[.int (i:Int),y]/\H l=some (.lst xs)/\i<=xs.length/\xs.length<sizeLine/\Q .non (upd H l (.lst (xs.take i++y::xs.drop i)))
theorem xj:MtM X "list.insert" uw:=by
 intro ae s σ H x vs v us Q I rx rv h
 obtain⟨l,xs,i,y,rfl,rfl,hH,hi,hz,q⟩:=h
 cases rx
 obtain⟨u1,u2,rfl,ru1,ru2⟩:=aA.two rv
 obtain⟨t,rfl⟩:=ru1
 obtain⟨z,its,n,r,hl,e⟩:=I.lstM hH
 obtain⟨x,hx⟩:∃x:Int,x=(i:Int):=⟨_,rfl⟩
 rw[<-hx]
 have hfit:¬ (!Builtin.List.listFitsIndex x)=true:=by
  have h2:x<2 ^ 63:=by
   have:(sizeLine:Nat)<=(2 ^ 63-1) / 8:=by decide
   omega
  rw[fitsIndex_both (by omega) h2]
  exact Bool.false_ne_true
 have hs:its.toArray.size<=sizeLine:=by rw[List.size_toArray];omega
 have m:=AutoSeq1.list_insert_list_int_val_1 l its.toArray n x t u2 hfit hs
 refine call_meets F.slot_list_insert ⟨_,e,rfl⟩ F.entry_list_insert (F.args_list_insert_3 _ _ _) m ⟨e,?_⟩
 refine⟨.non,_,I.lset (its':=its.take i++u2::its.drop i) hH e ?_ ((r.take i).append (.cons ru2 (r.drop i))) ?_,rfl,q⟩
 ·have h1:¬ x<0:=by omega
  have h2:min x.toNat its.length=i:=by omega
  show(its.toArray.extract 0 (if x<0 then _ else min x.toNat its.toArray.size)).push u2++its.toArray.extract (if x<0 then _ else min x.toNat its.toArray.size)=_
  rw[if_neg h1,List.size_toArray,h2]
  apply Array.ext'
  simp
  exact List.take_of_length_le (by simp)
 ·rw[List.length_append,List.length_take,List.length_cons,List.length_drop]
  omega
theorem AC(l:Addr) (items:Array Value) (n:Nat) (b:Addr) (items2:Array Value) (n2:Nat) (sl:Array (Option Value)) (hs0:¬(!items.isEmpty&&Builtin.List.listTooLong (items.size+items2.size))=true) (hs1:items.size<=sizeLine) (hs2:items.size+items2.size<=sizeLine+1) :
  Meets (Builtin.«list.extend» ⟨[.ref l,.ref b],[]⟩) (fun _ R s=>s.heap.get? l=some { cls:=.type "list",dict:=none,data:=.seq items n,slots:=#[] }/\s.heap.get? b=some { cls:=.type "tuple",dict:=none,data:=.seq items2 n2,slots:=sl }/\R (.ok (.ret Value.none)) { s with heap:=s.heap.update l (Obj.mapSeq fun x=>x++items2),toks:=s.toks }) :=
 .of_wp fun prog w A R s h=>by
  obtain⟨hp,g,d,tk,os⟩:=s
  obtain⟨hl,hb,h⟩:=h
  have f2:=AutoSeq1.sub_tuple_tuple
  have f3:=AutoSeq1.sub_list_list
  have f4:=AutoSeq1.sub_tuple_list
  have f5:=AutoSeq1.sub_list_tuple
  have hz':(items++items2).size<=sizeLine+1:=by rw[Array.size_append];exact hs2
  wp_walk using(wpAny_updateSeq hl rfl (hz:=hs1) (_hz':=hz')),wpAny_loadPart' hl,wpAny_loadPart' hb
  exact⟨_,rfl,h⟩
def CS:V->List V->Hp->VK->Prop:=fun x vs H Q=>∃l b xs zs,x=.ref l/\vs=[.ref b]/\H l=some (.lst xs)/\SqT X.K H b zs/\xs.length+zs.length<=sizeLine/\Q .non (upd H l (.lst (xs++zs)))
theorem BL:MtM X "list.extend" (CS (X:=X)):=by
 intro ae s σ H x vs v us Q I rx rv h
 obtain⟨l,b,xs,zs,rfl,rfl,hH,hB,hz,q⟩:=h
 cases rx
 obtain⟨u,rfl,ru⟩:=rv.one
 cases ru
 obtain⟨z,its,n,r,hl,e⟩:=I.lstM hH
 obtain⟨its2,r2,⟨o2,g1,g2,⟨n2,g3⟩,g4⟩,z2⟩:=I.tupN hB
 obtain⟨c2,dc2,dt2,sl2⟩:=o2
 simp only at g2 g3 g4
 subst g2;subst g3;subst g4
 have hl2:=r2.length
 have hsz:its.toArray.size+its2.toArray.size<=sizeLine:=by rw[List.size_toArray,List.size_toArray];omega
 have hlong:¬ (!its.toArray.isEmpty&&Builtin.List.listTooLong (its.toArray.size+its2.toArray.size))=true:=by
  rw[ml hsz,Bool.and_false]
  exact Bool.false_ne_true
 have m:=AC l its.toArray n b its2.toArray n2 sl2 hlong (by rw[List.size_toArray];omega) (by omega)
 refine call_meets F.slot_list_extend ⟨_,e,rfl⟩ F.entry_list_extend (F.args_list_extend_2 _ _) m ⟨e,g1,?_⟩
 refine⟨.non,_,I.lset (its':=its++its2) hH e (by simp) (r.append r2) ?_,rfl,q⟩
 rw[List.length_append]
 omega
def Ep(to t1 t2:TEd):TEd:=fun Δ M Q=>to Δ M fun o M1=>∃a l,o=.ref a/\M1 a=some (.lst l)/\t1 Δ M1 fun d1 M2=>t2 Δ M2 fun d2 M3=>∃(ds:List D) (i:Nat),d1=.int (i:Int)/\M3 a=some (.lst ds)/\i<=ds.length/\ds.length<sizeLine/\Q .non (aw M3 a (.lst (ds.take i++d2::ds.drop i)))
theorem F2{aW aG:Pos}(ho:PEd X o to) (h1:PEd X e1 t1) (h2:PEd X e2 t2) (bG:attributeBase o "insert" X.env (eval o X.env)=eval o X.env:=by rfl)
  (hse:starEach [e1,e2] X.env=(false,eval e1 X.env)::starEach [e2] X.env:=by rfl) (hse2:starEach [e2] X.env=(false,eval e2 X.env)::starEach [] X.env:=by rfl)
  (dR:((backTo aG (starEach [e1,e2] X.env)).all (fun x => !x.1) && (backToKw aG (keywordEach [] X.env)).all (fun x => x.1.isSome)
  &&decide ([e1,e2].length+([]:List Keyword).length+(if([]:List Keyword).isEmpty then 0 else 1)<30))=true:=by rfl)
  (bE:(aW.endLine==aG.line)=true:=by rfl) (bZ:(backTo aG (starEach [e2] X.env)).any (·.1)=false:=by rfl):PEd X (.Call (.Attribute o "insert" aW) [e1,e2] [] aG) (Ep to t1 t2) :=
 (qP PySem.F.plainAttrs_list PySem.F.slot_list_insert PySem.F.type_list_insert (show MtR X "list.insert" uw from xj) ho (dP h1 (dP h2 iU hse2) hse) bG dR bE hse bZ).conv fun σ H Q ⟨Δ,M,R,sr,hr,q,k⟩ => ⟨Δ,M,_,sr,hr,q,fun o M1 ov H1 ⟨a,l,eo,em,q1⟩ e1 hr1 ro => by
  subst eo
  simp only[Rep]at ro
  subst ro
  obtain⟨vs,hv,rl⟩:=hr1 a _ em
  refine⟨.inl ⟨rfl,vs,SqL.of hv⟩,Δ,M1,_,sr.ext e1,hr1,q1,fun d1 M2 v1 H2 q2 e2 hr2 rv1=>⟨Δ,M2,_,(sr.ext e1).ext e2,hr2,q2,fun d2 M3 v2 H3 ⟨ds,i,ed,em3,hi,hz,q3⟩ e3 hr3 rv2=>?_⟩⟩
  subst ed
  simp only[Rep]at rv1
  subst rv1
  obtain⟨ws,hw,rl2⟩:=hr3 a _ em3
  have hl:=rl2.length
  exact⟨a,ws,i,v2,rfl,rfl,hw,by omega,by omega,k _ _ _ _ q3 (((e1.trans e2).trans e3).trans (Ext.write em3)) (hr3.write em3 ((rl2.take i).append (aq.cons rv2 (rl2.drop i)))) (by simp[Rep])⟩⟩
theorem Gb{aW aG:Pos}(ho:QEd X o to) (h1:QEd X e1 t1) (h2:QEd X e2 t2) (bG:attributeBase o "insert" X.env (eval o X.env)=eval o X.env:=by rfl)
  (hse:starEach [e1,e2] X.env=(false,eval e1 X.env)::starEach [e2] X.env:=by rfl) (hse2:starEach [e2] X.env=(false,eval e2 X.env)::starEach [] X.env:=by rfl)
  (dR:((backTo aG (starEach [e1,e2] X.env)).all (fun x => !x.1) && (backToKw aG (keywordEach [] X.env)).all (fun x => x.1.isSome)
  &&decide ([e1,e2].length+([]:List Keyword).length+(if([]:List Keyword).isEmpty then 0 else 1)<30))=true:=by rfl)
  (bE:(aW.endLine==aG.line)=true:=by rfl) (bZ:(backTo aG (starEach [e2] X.env)).any (·.1)=false:=by rfl):QEd X (.Call (.Attribute o "insert" aW) [e1,e2] [] aG) (Ep to t1 t2):=by
 simp only[QEd.eq]at *
 exact F2 ho h1 h2 bG hse hse2 dR bE bZ
def CP(to te:TEd):TEd:=fun Δ M Q=>to Δ M fun o M1=>∃a l,o=.ref a/\M1 a=some (.lst l)/\te Δ M1 fun d M2=>∃ds ys,d=.tup ys/\M2 a=some (.lst ds)/\ds.length+ys.length<=sizeLine/\Q .non (aw M2 a (.lst (ds++ys)))
theorem Fm{aW aG:Pos}(ho:QEd X o to) (he:QEd X e te) (bG:attributeBase o "extend" X.env (eval o X.env)=eval o X.env:=by rfl)
  (hse:starEach [e] X.env=(false,eval e X.env)::starEach [] X.env:=by rfl)
  (dR:((backTo aG (starEach [e] X.env)).all (fun x => !x.1) && (backToKw aG (keywordEach [] X.env)).all (fun x => x.1.isSome)
  &&decide ([e].length+([]:List Keyword).length+(if([]:List Keyword).isEmpty then 0 else 1)<30))=true:=by rfl)
  (bE:(aW.endLine==aG.line)=true:=by rfl) (bZ:(backTo aG (starEach [] X.env)).any (·.1)=false:=by rfl):QEd X (.Call (.Attribute o "extend" aW) [e] [] aG) (CP to te):=by
 simp only[QEd.eq]at *
 exact(qP PySem.F.plainAttrs_list PySem.F.slot_list_extend PySem.F.type_list_extend (show MtR X "list.extend" CS from BL) ho (dP he iU hse) bG dR bE hse bZ).conv fun σ H Q ⟨Δ,M,R,sr,hr,q,k⟩=>⟨Δ,M,_,sr,hr,q,fun o M1 ov H1 ⟨a,l,eo,em,q1⟩ e1 hr1 ro=>by
  subst eo
  simp only[Rep]at ro
  subst ro
  obtain⟨vs,hv,rl⟩:=hr1 a _ em
  refine⟨.inl ⟨rfl,vs,SqL.of hv⟩,Δ,M1,_,sr.ext e1,hr1,q1,fun d M2 v H2 ⟨ds,ys,ed,em2,hz,q2⟩ e2 hr2 rv=>?_⟩
  subst ed
  simp only[Rep]at rv
  obtain⟨b,zs,rfl,hb,rz⟩:=rv
  obtain⟨ws,hw,rl2⟩:=hr2 a _ em2
  refine⟨a,b,ws,zs,rfl,rfl,hw,hb.sq,by rw[<-rl2.length,<-rz.length];exact hz,k _ _ _ _ q2 ((e1.trans e2).trans (Ext.write em2)) (hr2.write em2 (rl2.append rz)) (by simp[Rep])⟩⟩
end
section
variable{X:Cx}{e:Expr}{te:TEd}{pos:Pos}
def GE(te:TEd) (tl th:TOd):TEd:=fun Δ M Q=>te Δ M fun x M1=>tl Δ M1 fun l M2=>th Δ M2 fun u M3=>∃ds,rdM M3 x=.lst ds/\∀p,M3 p=none->Q (.ref p) (aw M3 p (.lst (cC ds l u)))
theorem xA{lo hi:Option Expr}{tl th:TOd}{p2:Pos}(he:QEd X e te) (hl:QOd X lo tl) (hu:QOd X hi th):QEd X (.Subscript e (.Slice lo hi none p2) pos) (GE te tl th):=by
 simp only[QEd.eq,QOd.eq]at *
 refine(rQ (SlR.or vt (SlR.or yj (SlR.or Ah qU))) he hl hu).conv fun σ H Q hh=>?_
 obtain⟨Δ,M,R,sr,hr,q,k⟩:=hh
 refine⟨Δ,M,_,sr,hr,q,fun x M1 v H1 q1 e1 hr1 rv=>⟨Δ,M1,_,sr.ext e1,hr1,q1,fun l M2 H2 q2 e2 hr2=>⟨Δ,M2,_,(sr.ext e1).ext e2,hr2,q2,fun u M3 H3 ⟨ds,ez,q3⟩ e3 hr3=>?_⟩⟩⟩
 have rr:=((rv.ext e2).ext e3).rd hr3
 have ee:=(e1.trans e2).trans e3
 rw[ez]at rr
 obtain⟨a,vs,rfl,sq,rl⟩:=rr
 refine .inl ⟨a,vs,rfl,SqL.of sq,fun p hp=>?_⟩
 refine k _ _ _ _ (q3 p (hr3.fresh hp)) (ee.trans (Ext.own hp)) (hr3.own hp ?_) (by simp only[Rep])
 unfold cC nF
 rw[<-rl.length]
 exact aq.take _ (aq.drop _ rl)
end
/-! ### shorter ways to say the same -/
theorem nbh{op:CmpOp}{b:Expr}(h:op≠.In:=by decide) (h2:op≠.NotIn:=by decide):behindInMarks op b=false:=mE b h h2
theorem fsc{N P:List Str}{sc:Scope}(a:sc.kind=.function:=by exact rfl) (b:sc.isCoroutine=false:=by exact rfl) (c:sc.isGenerator=false:=by exact rfl) (d:N.Nodup:=by decide +kernel) (e:N.take P.length=P:=by exact rfl)
  (f:∀x∈P,sc.names.lookup x=some .local∨sc.names.lookup x=some .cell:=by decide +kernel) (g:∀y∈sc.names,y.2≠.free:=by decide +kernel):az N P sc:=⟨a,b,c,d,e,f,g⟩
section
variable{X:Cx}{e:Expr}{es:List Expr}{t:TAd}{pos p:Pos}{x:Str}{j k n:Nat}{S:SpD}
theorem qd(F:FnD X.prog X.w X.K X.mg X.base x j n S) (hr:cA k X.A) (ha:QAd X (e::es) t) (h:j<=k:=by decide) (hg:Gl X x:=by exact rfl) (hdb:(x==("__debug__":Str))=false:=by decide) (he:starEach (e::es) X.env=(false,eval e X.env)::starEach es X.env:=by rfl) (hpl:(backTo pos (starEach es X.env)).any (·.1)=false:=by rfl) :
  QEd X (.Call (.Name x p) (e::es) [] pos) (iJ n S t):=qc F (hr.mono h) hg ha hdb he hpl
theorem Co:bO X (compareOp .NotEq) (iOp fun i j=>some (.bl (i != j))):=jR (fun _ _=>rfl) (Ag fun _ _ _ _ _ _ _ q=>ne_int q)
end
end L2
namespace My
open PySem PySem.Spec PyProof.Rows L2
def top(i:Nat):Stmt:=PySem.Challenge.pw_wordwishes_k26_drawings_counted.main.body.getD i (.Pass ⟨0,0,0,0⟩)
abbrev cp:Stmt:=top 3
abbrev c8:Stmt:=top 5
abbrev hJ:Stmt:=top 6
abbrev er:Stmt:=top 8
abbrev iP:Stmt:=top 9
abbrev dJ:Stmt:=top 14
abbrev fP:Stmt:=top 15
abbrev fZ:Stmt:=top 16
abbrev et:Stmt:=top 19
abbrev cB:Stmt:=top 20
abbrev dg:Stmt:=top 21
abbrev eB:Stmt:=top 22
abbrev dA:Stmt:=top 23
abbrev eG:Stmt:=top 24
abbrev ck:Stmt:=top 25
abbrev fS:Stmt:=top 28
abbrev eJ:Stmt:=top 29
abbrev cb:Stmt:=top 30
abbrev dB:Stmt:=top 31
abbrev cX:Stmt:=top 32
abbrev m5:Stmt:=top 34
abbrev mf:Stmt:=top 36
abbrev me:Stmt:=top 37
abbrev dW:Stmt:=top 38
abbrev jT:Stmt:=top 39
abbrev ki:Stmt:=top 40
abbrev gL:Stmt:=top 41
abbrev gQ:Stmt:=top 42
abbrev mh:Stmt:=top 43
abbrev fc:Stmt:=top 44
abbrev fo:Stmt:=top 45
abbrev dj:Stmt:=top 46
abbrev iN:Stmt:=top 47
abbrev eZ:Stmt:=top 48
abbrev eV:Stmt:=top 49
abbrev jQ:Stmt:=top 50
abbrev fw:Stmt:=top 51
abbrev cR:Stmt:=top 52
abbrev ib:Stmt:=top 53
abbrev kA:Stmt:=top 54
abbrev vm:Stmt:=top 55
abbrev kf:Stmt:=HF (top 27) 0
abbrev cV:List Str:=["thing"]
theorem eh:az cV ["thing"] (am cp):=fsc
abbrev kj:List Str:=["pairs","mark","reached","at","low","high"]
theorem fb:az kj ["pairs","mark"] (am c8):=fsc
abbrev rg:List Str:=["order","one","other"]
theorem jk:az rg ["order","one","other"] (am hJ):=fsc
abbrev m7:List Str:=["order","turn","one","other"]
theorem gk:az m7 ["order","turn","one","other"] (am er):=fsc
abbrev ug:List Str:=["order","one","other"]
theorem kE:az ug ["order","one","other"] (am iP):=fsc
abbrev dQ:List Str:=["lexicon"]
theorem iD:az dQ ["lexicon"] (am dJ):=fsc
abbrev pG:List Str:=["lexicon","thing"]
theorem iI:az pG ["lexicon","thing"] (am fP):=fsc
abbrev pb:List Str:=["lexicon","word"]
theorem iL:az pb ["lexicon","word"] (am fZ):=fsc
abbrev mI:List Str:=["lexicon"]
theorem gd:az mI ["lexicon"] (am et):=fsc
abbrev iy:List Str:=["lexicon","words","kinds","number","word"]
theorem dq:az iy ["lexicon","words"] (am cB):=fsc
abbrev bR:List Str:=["kinds"]
theorem gH:az bR ["kinds"] (am dg):=fsc
abbrev mB:List Str:=["kinds"]
theorem gj:az mB ["kinds"] (am eB):=fsc
abbrev k7:List Str:=["kinds","place","number","kind","at","row"]
theorem fF:az k7 ["kinds","place"] (am dA):=fsc
abbrev mO:List Str:=["place","number","kind","at"]
theorem gi:az mO ["place"] (am eG):=fsc
abbrev cQ:List Str:=["kinds","place","number"]
theorem eN:az cQ ["kinds","place"] (am ck):=fsc
abbrev pQ:List Str:=["lexicon","words"]
theorem iC:az pQ ["lexicon","words"] (am fS):=fsc
abbrev mK:List Str:=["order","sign","other"]
theorem gf:az mK ["order","sign","other"] (am eJ):=fsc
abbrev bI:List Str:=["order","chart","place","sign"]
theorem fH:az bI ["order","chart","place"] (am cb):=fsc
abbrev lg:List Str:=["chart","place","counts","mate","onward","inner","end","count"]
theorem fm:az lg ["chart","place"] (am dB):=fsc
abbrev kz:List Str:=["chart"]
theorem eY:az kz ["chart"] (am cX):=fsc
abbrev zr:List Str:=["lexicon","words"]
theorem oS:az zr ["lexicon","words"] (am m5):=fsc
abbrev yE:List Str:=["_law_script","_law_place","_law_cell","_law_one"]
theorem oI:az yE ["_law_script","_law_place"] (am mf):=fsc
abbrev zf:List Str:=["_law_well_here","_law_top","_law_found","_law_turn","_law_upper","_law_lower"]
theorem oi:az zf ["_law_well_here","_law_top"] (am me):=fsc
abbrev cY:List Str:=["_law_well_here","_law_signs_here","_law_first","_law_size","_law_pick"]
theorem mP:az cY ["_law_well_here"] (am dW):=fsc
abbrev wR:List Str:=["_law_well_here","_law_marks_here","_law_found","_law_turn"]
theorem mQ:az wR ["_law_well_here","_law_marks_here"] (am jT):=fsc
abbrev wM:List Str:=["_law_order_here","_law_marks_here","_law_found","_law_low","_law_met","_law_turn","_law_one","_law_other","_law_high"]
theorem mi:az wM ["_law_order_here","_law_marks_here"] (am ki):=fsc
abbrev qH:List Str:=["_law_above_here","_law_one","_law_other"]
theorem jj:az qH ["_law_above_here","_law_one","_law_other"] (am gL):=fsc
abbrev sd:List Str:=["_law_above_here","_law_row","_law_found","_law_begin","_law_end","_law_some","_law_place"]
theorem jh:az sd ["_law_above_here","_law_row"] (am gQ):=fsc
abbrev yz:List Str:=["_law_well_here","_law_marks_here","_law_wide"]
theorem ou:az yz ["_law_well_here","_law_marks_here","_law_wide"] (am mh):=fsc
abbrev h8:List Str:=["_law_well_here","_law_above_here","_law_marks_here","_law_sign_here","_law_some"]
theorem jf:az h8 ["_law_well_here","_law_above_here","_law_marks_here","_law_sign_here"] (am fc):=fsc
abbrev fq:List Str:=["_law_well_here","_law_size","_law_signs_here","_law_first"]
theorem ma:az fq ["_law_well_here","_law_size"] (am fo):=fsc
abbrev fk:List Str:=["_law_well_here","_law_above_here","_law_marks_here","_law_goal","_law_pairs","_law_some","_law_found","_law_turn","_law_at","_law_sign_here"]
theorem gS:az fk ["_law_well_here","_law_above_here","_law_marks_here","_law_goal","_law_pairs"] (am dj):=fsc
abbrev sO:List Str:=["_law_well_here","_law_row","_law_size","_law_sizes","_law_sign_here","_law_at","_law_found","_law_many_signs"]
theorem kJ:az sO ["_law_well_here","_law_row","_law_size"] (am iN):=fsc
abbrev gZ:List Str:=["_law_well_here","_law_size","_law_most","_law_marks_here","_law_order_here","_law_above_here","_law_goal","_law_row","_law_names","_law_choices_here","_law_entries","_law_name","_law_piece","_law_kinds","_law_turn","_law_more"]
theorem jl:az gZ ["_law_well_here","_law_size","_law_most"] (am eZ):=fsc
abbrev gM:List Str:=["_law_lexicon_here","_law_words_here","_law_kinds","_law_found","_law_word","_law_longer","_law_choice"]
theorem jc:az gM ["_law_lexicon_here","_law_words_here"] (am eV):=fsc
abbrev xq:List Str:=["_law_lexicon_here","_law_words_here","_law_choice","_law_kinds","_law_found","_law_k"]
theorem lJ:az xq ["_law_lexicon_here","_law_words_here","_law_choice"] (am jQ):=fsc
abbrev fG:List Str:=["_law_lexicon_here","_law_words_here","_law_one","_law_other","_law_order_here","_law_goal","_law_entries","_law_kinds","_law_left","_law_k","_law_called"]
theorem m9:az fG ["_law_lexicon_here","_law_words_here","_law_one","_law_other"] (am fw):=fsc
abbrev eC:List Str:=["_law_well_here","_law_names","_law_found"]
theorem gc:az eC ["_law_well_here","_law_names"] (am cR):=fsc
abbrev g6:List Str:=["_law_lexicon_here","_law_words_here","_law_kinds"]
theorem om:az g6 ["_law_lexicon_here","_law_words_here"] (am ib):=fsc
abbrev wa:List Str:=["_law_well_here","_law_lexicon_here","_law_above_here","_law_names","_law_words_here","_law_one","_law_due","_law_choice","_law_row","_law_told"]
theorem mS:az wa ["_law_well_here"] (am kA):=fsc
abbrev zP:List Str:=["_law_script"]
theorem zY:az zP ["_law_script"] (am vm):=fsc
abbrev xg:List Str:=["self","order","kinds","place"]
theorem mR:az xg ["self","order","kinds"] (am kf):=fsc
structure jz(K:PySem.W.Frag) (C:Addr):Prop where
 c:Cls K C
 n_kinds:cT K C "kinds"
 n_end:cT K C "end"
 n_steps:cT K C "steps"
 n_counts:cT K C "counts"
structure Txt(K:PySem.W.Frag) (mg:Str->Option Value):Prop where
 g_START:yc K mg "START" [.inl (-1),.inl (0),.inl (0)]
 b_isinstance:mg "isinstance"=none
 b_str:mg "str"=none
 b_all:mg "all"=none
 b_len:mg "len"=none
 b_enumerate:mg "enumerate"=none
 b_range:mg "range"=none
 b_max:mg "max"=none
 b_list:mg "list"=none
 b_abs:mg "abs"=none
 b_divmod:mg "divmod"=none
 b_tuple:mg "tuple"=none
 b_zip:mg "zip"=none
 b_min:mg "min"=none
 b_dict:mg "dict"=none
 b_int:mg "int"=none
 b_sum:mg "sum"=none
 b_bool:mg "bool"=none
 b_reversed:mg "reversed"=none
 g_SMALL_LETTERS:∃t,mg "SMALL_LETTERS"=some (.str "abcdefghijklmnopqrstuvwxyz" t)
 g_MOST_LETTERS:∃t,mg "MOST_LETTERS"=some (.int 8 t)
set_option hygiene false in
local macro_rules|`(tactic| walk_at "rd")=>`(tactic| simp only[Ep,CP,GE,xb,xS,ya,El,zS,uP,zD,rA,ph,tF,vI,uv,uI,yV,DQ,tQ,y9,tM,vc,DU,xf,zc,eD,dC,Bu,uQ,zW,xr,xI,dOp,dUn,jv,Dx,uY,yS,dCB,fB,kn,E7,zh,wW,Ek,BD,uG,E9,EJ,DL,dIf,iJ,As,qj,yY,sH,Ff,EM,t9,yn,CQ,yL,qv,Ef,BZ,zV,uq,dDT,tX,yW,BN,v9,qK,zw,tI,Ej,sZ,HD.dKr.injEq,E8,B6,HD.dT.injEq,HD.dK.injEq,GP,Hz,DM,Fj,ud,o9,zB,dLc,sL,EW,
 pW,Fo,lC,BS,AZ,AH,Ay,BG,D1,Bb,px,AU,pE,FQ,G0,G8,HH,GZ,G3,z9,Dq,Fq,DP,DG,EB,E1,CZ,D3,Eb,Fh,Fb,Hr,GG,FI,Gy,Fi,Dj,GK,Hx,GQ,zZ,yd,xv,zu,FE,Hb,FZ,Hf,He,Hh,GR,Cv,GO,qp,vT,Fd,aj,aF,
 iX,List.map_cons,List.map_nil,List.cons_append,List.nil_append,List.length_cons,List.length_nil,List.replicate,List.set_cons_zero,List.set_cons_succ,List.getElem?_cons_zero,List.getElem?_cons_succ,Option.some.injEq,exists_eq_left',exists_eq_left,D.int.injEq,D.bl.injEq,D.str.injEq,D.ref.injEq,D.tup.injEq,D.lst.injEq,true_and,and_true,if_true,decide_eq_true_eq,exists_and_left,Nat.zero_add,Nat.reduceAdd,Nat.reduceSub,zT,Gq,xR,Hl,HD.lst.injEq,List.cons.injEq,or_true,true_or,and_self,↓reduceIte,Int.reduceLT,Int.reduceLE,Int.reducePow,Int.reduceNeg,Int.reduceToNat,Nat.reducePow,Nat.reduceLT,Nat.reduceLeDiff,Int.reduceAdd,Int.reduceMul,Int.reduceSub,Bool.false_eq_true,Bool.true_eq_false,if_false])
section
variable{P:Program}{w:World}{K:PySem.W.Frag}{mg:Str->Option Value}{base:Heap}
def aN(x:Str×Str):D:=.tup [.str x.1,.str x.2]
theorem eA{ao:List Str}{v:Int}(h0:0<=v) (h1:v<(ao.length:Int)):∃m∈ao,atI (ao.map D.str) v=some (.str m):=by
 obtain⟨n,rfl⟩:=Int.eq_ofNat_of_zero_le h0
 have hn:n<ao.length:=by omega
 exact⟨ao[n],List.getElem_mem hn,bN (by simp[hn])⟩
theorem bJ{M:DH}{p q:Addr}{a b:HD}(h:p≠q):aw (aw M p a) q b=aw (aw M q b) p a:=by
 funext c
 unfold aw
 by_cases h1:c=q
 ·subst h1;simp[Ne.symm h]
 ·by_cases h2:c=p
  ·subst h2;simp[h]
  ·simp[h1,h2]
end
section
variable{P:Program}{w:World}{K:PySem.W.Frag}{mg:Str->Option Value}{base:Heap}
theorem pS{xs:List D}{n:Nat}:L2.cC xs none (some (n:Int))=xs.take n:=by
 unfold L2.cC
 rw[HT.sIx_none,HT.sIx_nat,List.drop_zero,Nat.sub_zero]
 by_cases h:n<=xs.length
 ·rw[Nat.min_eq_left h]
 ·rw[Nat.min_eq_right (by omega),List.take_length,List.take_of_length_le (by omega)]
theorem qJ{xs:List D}{n:Nat}:L2.cC xs (some (n:Int)) none=xs.drop n:=by
 unfold L2.cC
 rw[HT.sIx_none,HT.sIx_nat]
 by_cases h:n<=xs.length
 ·rw[Nat.min_eq_left h,List.take_of_length_le (by simp)]
 ·rw[Nat.min_eq_right (by omega),Nat.sub_self,List.take_zero,List.drop_of_length_le (by omega)]
theorem bv{lo:Int}{n:Nat}:(hV lo n).length=n:=by simp[hV]
end
section
variable{P:Program}{w:World}{K:PySem.W.Frag}{mg:Str->Option Value}{base:Heap}
inductive cK (ord:List (Str×Str)) (a:Str):Str->Prop
 |refl:cK ord a a
 |step {b c:Str}:cK ord a b->(b,c)∈ord->cK ord a c
theorem mY{ord:List (Str×Str)}{a x:Str}{L:List Str}(h0:a∈L) (hc:∀y∈ord,y.1∈L->y.2∈L) (h:cK ord a x):x∈L:=by
 induction h with
 |refl=>exact h0
 |step _ hm ih=>exact hc _ hm ih
def fC:SpD:=fun ds M R=>∃(ord:List (Str×Str)) (a:Str),ds=[.tup (ord.map aN),.str a]/\ord.length<=500 /\
 ∀L:List Str,a∈L->(∀y∈ord,y.1∈L->y.2∈L)->(∀x∈L,cK ord a x)->L.length<=ord.length+1->R (.lst (L.map .str)) M
abbrev tIn:TSd:=Bu (uY (jv (dOp eqF (eD 4) (dOp ixD (eD 2) (eD 3)))) (jv (dOp (inE true) (eD 5) (eD 2)))) (uG (BD (eD 2) (eD 5))) uQ
theorem iw{q:Addr}{E:iG}{M:DH}(hq:M q=none) (ps:D) (a:Str) (ord:List (Str×Str)) (hord:ord.length<=500) (i:Nat) (L0:List Str) (hi:i<L0.length):∀(todo done:List (Str×Str)) (x4 x5:Option D) (L:List Str),ord=done++todo->(∃t,L=L0++t)->L.Nodup->(∀x∈L,cK ord a x)->(∀x∈L,x∈a::ord.map (·.2))->(∀y∈done,y.1=L0[i]->y.2∈L) ->
  (∀(y4 y5:Option D) (L':List Str),(∃t,L'=L0++t)->L'.Nodup->(∀x∈L',cK ord a x)->(∀x∈L',x∈a::ord.map (·.2))->(∀y∈ord,y.1=L0[i]->y.2∈L')->E.nx [some ps,some (.str a),some (.ref q),some (.int i),y4,y5] (aw M q (.lst (L'.map .str)))) ->
  cZ (iK (eF (bf 4) (eF (bf 5) kK)) 2) tIn E (todo.map aN) [some ps,some (.str a),some (.ref q),some (.int i),x4,x5] (aw M q (.lst (L.map .str)))
 |[],done,x4,x5,L,ho,ht,hn,hs,hb,hd,k=>by
  simp only[List.map_nil,cZ]
  exact k x4 x5 L ht hn hs hb (by rw[ho,List.append_nil];exact hd)
 |(b,c)::todo,done,x4,x5,L,ho,⟨t,ht⟩,hn,hs,hb,hd,k=>by
  have hiL:i<L.length:=by rw[ht];simp;omega
  have eL:L[i]=L0[i]:=by subst ht;simp[hi]
  have eat:atI (L.map D.str) (i:Int)=some (.str L[i]):=bN (by simp[hiL])
  have bj:L.length<=ord.length+1:=by
   have:=cL L (a::ord.map (·.2)) hn hb
   simpa using this
  simp only[List.map_cons,aN,cZ,iK,eF,bf,kK,Option.bind_some]
  refine⟨_,rfl,?_⟩
  walk_at "rd"
  refine⟨_,eat,?_⟩
  walk_at "rd"
  have ho':ord=(done++[(b,c)])++todo:=by rw[ho];simp
  have hmem:(b,c)∈ord:=by rw[ho];simp
  refine cE (fun h=>?_) (fun h=>?_)
  ·have hbe:b=L0[i]:=by rw[<-eL];simpa using h
   refine⟨_,if_pos ⟨rfl,r8⟩,_,rfl,?_⟩
   rw[mx]
   by_cases hc:c∈L
   ·simp only[hc,decide_true,Bool.xor_true,Bool.not_true,Bool.false_eq_true,if_false]
    exact iw hq ps a ord hord i L0 hi todo (done++[(b,c)]) _ _ L ho' ⟨t,ht⟩ hn hs hb (fun y hy hy1=>by
     rcases List.mem_append.mp hy with h|h
     ·exact hd y h hy1
     ·have:y=(b,c):=by simpa using h
      subst this;exact hc) k
   ·simp only[hc,decide_false,Bool.xor_false,if_true]
    refine⟨by rw[List.length_map];exact Nat.lt_of_lt_of_le (by omega:L.length<1000) (sz3 1000),?_⟩
    have ea:L.map D.str++[D.str c]=(L++[c]).map D.str:=by simp
    rw[ea]
    refine iw hq ps a ord hord i L0 hi todo (done++[(b,c)]) _ _ (L++[c]) ho' ⟨t++[c],by rw[ht];simp⟩ ?_ (fun x hx=>?_) (fun x hx=>?_) (fun y hy hy1=>?_) k
    ·rw[List.nodup_append]
     refine⟨hn,by simp,fun u hu v hv=>?_⟩
     have:v=c:=by simpa using hv
     subst this
     rintro rfl
     exact hc hu
    ·rcases List.mem_append.mp hx with h|h
     ·exact hs x h
     ·have:x=c:=by simpa using h
      subst this
      exact cK.step (hs b (by rw[hbe,<-eL];exact List.getElem_mem hiL)) hmem
    ·rcases List.mem_append.mp hx with h|h
     ·exact hb x h
     ·have:x=c:=by simpa using h
      subst this
      exact List.mem_cons_of_mem _ (List.mem_map.mpr ⟨_,hmem,rfl⟩)
    ·rcases List.mem_append.mp hy with h|h
     ·exact List.mem_append_left _ (hd y h hy1)
     ·have:y=(b,c):=by simpa using h
      subst this;simp
  ·exact iw hq ps a ord hord i L0 hi todo (done++[(b,c)]) _ _ L ho' ⟨t,ht⟩ hn hs hb (fun y hy hy1=>by
    rcases List.mem_append.mp hy with h'|h'
    ·exact hd y h' hy1
    ·have:y=(b,c):=by simpa using h'
     subst this
     exact absurd (by rw[eL];simpa using hy1) h) k
theorem jI{f:Addr}{fd:FuncData}(F:Fun K "reached_from" "reached_from" c8 f fd) (T:Txt K mg) :ba P w K mg base CX0 1 f fd ["pairs","mark"] (spD K 2 fC):=by
 have nd:=fb.nd
 refine F.okQ rfl fb (fun cdv A outer s H E hr=>⟨_,(ai (aJ (i:=2) nd rfl (Or.inl rfl) (fj (aa (ab 1) ag)))
   (ai (aJ (i:=3) nd rfl (Or.inl rfl) ak)
   (ai (uF PassesOwn.never (bh wO (ab 3) (aB br rfl T.b_len (by kernel_rfl) (aa (ab 2) ag)) nbh) (ai (cc PassesOwn.never rfl (cj (ab 0)) (gq rfl (bc (aH (i:=4) nd rfl (Or.inl rfl)) (bc (aH (i:=5) nd rfl (Or.inl rfl)) gn))) (av (cf (xh (qh (bh (gx hr.units) (ab 4) (aX aV (ab 2) (ab 3) (fun _ _=>rfl)) nbh) (lA (bh xF (ab 5) (ab 2) rfl)))) (av (fR (oV (ab 2) (ab 5)))) bz)))
   (av (Hw (i:=3) nd rfl (Or.inl rfl) ak C3))))
   (av (xQ (ab 2)))))),fun ds M R hl hS=>?_⟩)
 obtain⟨ord,a,rfl,ho,k⟩:=hS
 walk_at "rd"
 refine⟨sz3 1,fun q hq=>?_⟩
 refine⟨fun m Δ M'=>∃(i:Nat) (L:List Str) (x4 x5:Option D),Δ=[some (D.tup (ord.map aN)),some (D.str a),some (D.ref q),some (D.int i),x4,x5]/\M'=aw M q (.lst (L.map .str))/\i<=L.length/\L.Nodup/\a∈L/\(∀x∈L,cK ord a x)/\(∀x∈L,x∈a::ord.map (·.2))/\(∀y∈ord,∀j,j<i->L[j]?=some y.1->y.2∈L)/\m=ord.length+1-i,
  ⟨_,0,[a],none,none,rfl,rfl,Nat.zero_le _,by simp,by simp,fun x hx=>by
   have:x=a:=by simpa using hx
   subst this;exact cK.refl,fun x hx=>by
   have:x=a:=by simpa using hx
   subst this;simp,fun y _ j hj=>absurd hj (by omega),rfl⟩,?_⟩
 rintro m Δ M' ⟨i,L,x4,x5,rfl,rfl,hiL,hn,ha,hs,hb,hp,rfl⟩
 have bj:L.length<=ord.length+1:=by
  have:=cL L (a::ord.map (·.2)) hn hb
  simpa using this
 walk_at "rd"
 rw[List.length_map]
 refine cE (fun h=>?_) (fun h=>?_)
 ·have hi:i<L.length:=by omega
  intro hz
  refine iw hq _ a ord ho i L hi ord [] x4 x5 L rfl ⟨[],by simp⟩ hn hs hb (fun y hy=>absurd hy (by simp)) (fun y4 y5 L' hL' hn' hs' hb' hd'=>?_)
  obtain⟨t,rfl⟩:=hL'
  walk_at "rd"
  refine⟨ord.length+1-(i+1),by omega,i+1,L++t,y4,y5,?_,rfl,by simp;omega,hn',List.mem_append_left _ ha,hs',hb',fun y hy j hj hjy=>?_,rfl⟩
  ·simp
  ·by_cases hji:j=i
   ·subst hji
    refine hd' y hy ?_
    rw[List.getElem?_append_left hi,List.getElem?_eq_getElem hi]at hjy
    exact(Option.some.inj hjy).symm
   ·rw[List.getElem?_append_left (by omega)]at hjy
    exact List.mem_append_left _ (hp y hy j (by omega) hjy)
 ·rw[dn hq]
  refine k L ha (fun y hy hy1=>?_) hs bj
  obtain⟨j,hj,e⟩:=List.mem_iff_getElem.mp hy1
  exact hp y hy j (by omega) (by rw[List.getElem?_eq_getElem hj,e])
end
section
variable{P:Program}{w:World}{K:PySem.W.Frag}{mg:Str->Option Value}{base:Heap}
def aE(x:Str×Int):D:=.tup [.str x.1,.int x.2]
theorem pe{α:Type}{f:α->D}(hf:∀x y,f x=f y->x=y):∀{xs ys:List α},xs.map f=ys.map f->xs=ys
 |[],[],_=>rfl
 |[],_::_,h=>by simp at h
 |_::_,[],h=>by simp at h
 |x::xs,y::ys,h=>by
  simp only[List.map_cons,List.cons.injEq]at h
  rw[hf _ _ h.1,pe hf h.2]
theorem oQ:∀x y,aN x=aN y->x=y:=fun⟨a,b⟩ ⟨c,d⟩ h=>by simpa[aN]using h
def rO(ord:List (Str×Str)) (t:Int) (a b:Str):Prop:=if t % 2=0 then cK ord a b else cK ord b a
open Classical in
def rB(ord:List (Str×Str)) (a b:Str):Bool:=decide (cK ord a b)
open Classical in
def lB(ord:List (Str×Str)) (t:Int) (a b:Str):Bool:=decide (rO ord t a b)
theorem mT{ord:List (Str×Str)}{a b:Str}:rB ord a b=true↔cK ord a b:=by simp[rB]
theorem tO{ord:List (Str×Str)}{t:Int}{a b:Str}:lB ord t a b=true↔rO ord t a b:=by simp[lB]
theorem vN{ord:List (Str×Str)}{t:Int}{a b:Str}(h:t % 2=0):lB ord t a b=rB ord a b:=by rw[Bool.eq_iff_iff,tO,mT,rO,if_pos h]
theorem yA{ord:List (Str×Str)}{t:Int}{a b:Str}(h:¬ t % 2=0):lB ord t a b=rB ord b a:=by rw[Bool.eq_iff_iff,tO,mT,rO,if_neg h]
def gI:SpD:=fun ds M R=>∃(ord:List (Str×Str)) (a b:Str),ds=[.tup (ord.map aN),.str a,.str b]/\ord.length<=500/\R (.bl (rB ord a b)) M
def ef:SpD:=fun ds M R=>∃(ord:List (Str×Str)) (t:Int) (a b:Str),ds=[.tup (ord.map aN),.int t,.str a,.str b]/\ord.length<=500/\R (.bl (lB ord t a b)) M
def mD:SpD:=fun ds M R=>∃(ord:List (Str×Str)) (x y:Str×Int),ds=[.tup (ord.map aN),aE x,aE y]/\ord.length<=500/\R (.bl (x.2+1==y.2&&lB ord x.2 x.1 y.1)) M
theorem nu{ord:List (Str×Str)}{a b:Str}{M:DH}{R:D->DH->Prop}:gI [.tup (ord.map aN),.str a,.str b] M R↔ord.length<=500/\R (.bl (rB ord a b)) M :=
 ⟨fun⟨o,c,d,e,h1,h2⟩=>by
  simp only[List.cons.injEq,D.tup.injEq,D.str.injEq,and_true]at e
  obtain⟨e1,e2,e3⟩:=e
  rw[pe oQ e1,e2,e3];exact⟨h1,h2⟩,fun h=>⟨ord,a,b,rfl,h⟩⟩
theorem j9{ord:List (Str×Str)}{t:Int}{a b:Str}{M:DH}{R:D->DH->Prop}:ef [.tup (ord.map aN),.int t,.str a,.str b] M R↔ord.length<=500/\R (.bl (lB ord t a b)) M :=
 ⟨fun⟨o,u,c,d,e,h1,h2⟩=>by
  simp only[List.cons.injEq,D.tup.injEq,D.str.injEq,D.int.injEq,and_true]at e
  obtain⟨e1,e0,e2,e3⟩:=e
  rw[pe oQ e1,e0,e2,e3];exact⟨h1,h2⟩,fun h=>⟨ord,t,a,b,rfl,h⟩⟩
theorem qw{f:Addr}{fd:FuncData}(F:Fun K "at_most" "at_most" hJ f fd) (T:Txt K mg) (g_p_reached_from:FnD P w K mg base "reached_from" 1 2 fC):ba P w K mg base CX0 2 f fd ["order","one","other"] (spD K 3 gI):=by
 have nd:=jk.nd
 refine F.okQ rfl jk (fun cdv A outer s H E hr=>⟨_,(av (aT (iH zt (ab 2) (qd g_p_reached_from hr (aa (ab 0) (aa (ab 1) ag))) rfl))),fun ds M R hl hS=>?_⟩)
 obtain⟨ord,a,b,rfl,ho,k⟩:=hS
 walk_at "rd"
 refine⟨ord,a,rfl,ho,fun L h1 h2 h3 h4=>?_⟩
 refine⟨_,if_pos ⟨rfl,r8⟩,?_⟩
 rw[mx]
 have e:(false ^^ decide (b∈L))=rB ord a b:=by
  rw[Bool.false_xor,Bool.eq_iff_iff,mT,decide_eq_true_eq]
  exact⟨fun h=>h3 b h,fun h=>mY h1 h2 h⟩
 rw[e]
 exact k
theorem kT{f:Addr}{fd:FuncData}(F:Fun K "mark_leads" "mark_leads" er f fd) (T:Txt K mg) (g_p_at_most:FnD P w K mg base "at_most" 2 3 gI):ba P w K mg base CX0 3 f fd ["order","turn","one","other"] (spD K 4 ef):=by
 have nd:=gk.nd
 refine F.okQ rfl gk (fun cdv A outer s H E hr=>⟨_,(ai (cf (bh (gx hr.units) (aM eX (ab 1) ak) ak nbh) (av (aT (qd g_p_at_most hr (aa (ab 0) (aa (ab 2) (aa (ab 3) ag)))))) bz)
   (av (aT (qd g_p_at_most hr (aa (ab 0) (aa (ab 3) (aa (ab 2) ag))))))),fun ds M R hl hS=>?_⟩)
 obtain⟨ord,t,a,b,rfl,ho,k⟩:=hS
 walk_at "rd"
 simp only[nu]
 refine cE (fun h=>?_) (fun h=>?_)
 ·have h':t % 2=0:=by simpa using h
  rw[vN h']at k
  exact⟨ho,k⟩
 ·have h':¬ t % 2=0:=by simpa using h
  rw[yA h']at k
  exact⟨ho,k⟩
theorem rh{f:Addr}{fd:FuncData}(F:Fun K "cancel" "cancel" iP f fd) (T:Txt K mg) (g_p_mark_leads:FnD P w K mg base "mark_leads" 3 4 ef):ba P w K mg base CX0 4 f fd ["order","one","other"] (spD K 3 mD):=by
 have nd:=kE.nd
 refine F.okQ rfl kE (fun cdv A outer s H E hr=>⟨_,(av (aT (jL (iH (gx hr.units) (aM aR (aX aV (ab 1) ak (fun _ _=>rfl)) ak) (aX aV (ab 2) ak (fun _ _=>rfl)) nbh) (nX (qd g_p_mark_leads hr (aa (ab 0) (aa (aX aV (ab 1) ak (fun _ _=>rfl)) (aa (aX aV (ab 1) ak (fun _ _=>rfl)) (aa (aX aV (ab 2) ak (fun _ _=>rfl)) ag))))))))),fun ds M R hl hS=>?_⟩)
 obtain⟨ord,⟨a,t⟩,⟨b,u⟩,rfl,ho,k⟩:=hS
 simp only[aE]
 walk_at "rd"
 simp only[j9]
 refine cE (fun h=>?_) (fun h=>?_)
 ·simp only[h,Bool.true_and]at k;exact⟨ho,k⟩
 ·simp only[h,Bool.false_and]at k;exact k
end
section
variable{P:Program}{w:World}{K:PySem.W.Frag}{mg:Str->Option Value}{base:Heap}
theorem Bp{ord:List (Str×Str)}{t:Int}{a:Str}:lB ord t a a=true:=by
 rw[tO,rO];split<;>exact cK.refl
end
section
variable{P:Program}{w:World}{K:PySem.W.Frag}{mg:Str->Option Value}{base:Heap}
abbrev Row:=List (Str×Int)
def aP(r:Row):D:=.tup (r.map aE)
def cH(ks:List Row):D:=.tup (ks.map aP)
def cP(e:Str×List Row):D:=.tup [.str e.1,cH e.2]
def dE(ord:List (Str×Str)) (ax:Str) (af:List (Str×List Row)):D:=.tup [.tup (ord.map aN),.str ax,.tup (af.map cP)]
def kin(af:List (Str×List Row)) (w:Str):List Row:=(af.lookup w).getD []
theorem bq{α:Type}{g:GD}{tc:TTd}{te:TEd}{M:DH}{Q:List D->DH->Prop}(enc:α->D) (b:α->Bool) (y:α->D) (Ok:DE->Prop):∀(xs:List α) (Δ:DE) (acc:List D),
  (∀x∈xs,∀ Δ,Ok Δ->∃ Δ',g (enc x) Δ=some Δ'/\Ok Δ'/\(∀Q1:Bool->DH->Prop,Q1 (b x) M->tc Δ' M Q1)/\(b x=true->∀Q2:D->DH->Prop,Q2 (y x) M->te Δ' M Q2))->Ok Δ ->
  Q (acc++(xs.filter b).map y) M->eR g tc te (xs.map enc) Δ M acc Q
 |[],Δ,acc,_,_,q=>by simpa[eR]using q
 |x::xs,Δ,acc,h,hΔ,q=>by
  rw[List.map_cons]
  simp only[eR]
  obtain⟨Δ',e,hΔ',h1,h2⟩:=h x (.head _) Δ hΔ
  refine⟨Δ',e,h1 _ ?_⟩
  have ih:=fun acc' q'=>bq (Q:=Q) enc b y Ok xs Δ' acc' (fun z hz=>h z (.tail _ hz)) hΔ' q'
  cases hb:b x with
  |true =>
   simp only[if_true]
   refine h2 hb _ (ih _ ?_)
   rw[List.filter_cons_of_pos hb]at q
   simpa using q
  |false =>
   simp only[Bool.false_eq_true,if_false]
   refine ih _ ?_
   rw[List.filter_cons_of_neg (by simp[hb])]at q
   exact q
theorem mZ{α:Type}(f:α->D) (hf:∀x,dLe (f x) 59=true) {a:List α}:cx (a.map f) 59=true:=by
 rw[jd]
 intro d hd
 obtain⟨x,_,rfl⟩:=List.mem_map.mp hd
 exact hf x
end
section
variable{P:Program}{w:World}{K:PySem.W.Frag}{mg:Str->Option Value}{base:Heap}
def eE(x:Str):Prop:=1<=x.length/\x.length<=8/\∀c∈x.cps.toList,c∈AX
theorem xk{α:Type}(l:List α):yI (.lst (l.map fun _=>D.bl true))=some (.bl true):=by
 have h1:(l.map fun _=>D.bl true).all Aa=true:=by rw[List.all_map,List.all_eq_true];intro _ _;rfl
 have h2:(l.map fun _=>D.bl true).all vV=true:=by rw[List.all_map,List.all_eq_true];intro _ _;rfl
 simp only[yI,h1,h2,if_true]
def eS:SpD:=fun ds M R=>∃x:Str,ds=[.str x]/\eE x/\R (.bl true) M
theorem iS{f:Addr}{fd:FuncData}(F:Fun K "is_short_word" "is_short_word" cp f fd) (T:Txt K mg) :ba P w K mg base CX0 1 f fd ["thing"] (spD K 1 eS):=by
 have nd:=eh.nd
 refine F.okQ rfl eh (fun cdv A outer s H E hr=>⟨_,(av (aT (jL (yh (Tn:="str") (by decide) rfl T.b_isinstance rfl T.b_str (by kernel_rfl) (ab 0)) (jL (AN ER ER ak (aB br rfl T.b_len (by kernel_rfl) (aa (ab 0) ag)) (yR rfl T.g_MOST_LETTERS)) (nX (aB (CC rfl) rfl T.b_all (by kernel_rfl) (aa (iz (ms:=[false]) (ah:=["letter"]) (aQ (n0:=0) rfl (show aZ (am cp) cV _ _=true from by decide +kernel)) rfl (cj (ab 0)) (aU (i:=1) (show(cV++_).Nodup from by decide +kernel) rfl rfl) (fun _ _ _ _=>bY) (fun _ _ _ _=>(iH zt (ab 1) (yb rfl T.g_SMALL_LETTERS) rfl))) ag))))))),fun ds M R hl hS=>?_⟩)
 obtain⟨x,rfl,⟨h1,h2,h3⟩,k⟩:=hS
 walk_at "rd"
 refine⟨true,rfl,?_⟩
 walk_at "rd"
 refine⟨_,if_pos (szB _ (by omega)),true,?_,?_⟩
 ·show some (D.bl (decide ((1:Int)<=(x.length:Int))))=_
  rw[decide_eq_true (by omega)]
 rw[if_pos rfl]
 refine⟨_,rfl,true,?_,?_⟩
 ·rw[decide_eq_true (by omega)]
 rw[if_pos rfl]
 refine⟨_,if_pos (szB _ (by omega)),fun hz=>⟨hz,?_⟩⟩
 refine bq (fun(c:Nat)=>D.str (tx [c])) (fun _=>true) (fun _=>D.bl true) (fun Δ=>∃x,Δ=[none,x]) x.cps.toList _ _ (fun c hc Δ hΔ=>?_) ⟨none,rfl⟩ ?_
 ·obtain⟨x1,rfl⟩:=hΔ
  refine⟨_,rfl,⟨_,rfl⟩,fun Q1 q=>q,fun _ Q2 q=>?_⟩
  walk_at "rd"
  simp only[Cv,Option.some.injEq,exists_eq_left',Bool.false_xor]
  rw[show(Str.ofString "abcdefghijklmnopqrstuvwxyz")=abc from rfl,Fe,BC,decide_eq_true (h3 c hc)]
  exact q
 ·rw[List.nil_append,List.filter_eq_self.mpr (fun _ _=>rfl)]
  exact⟨_,xk _,k⟩
def fM:SpD:=fun ds M R=>∃(ord:List (Str×Str)) (ax:Str) (af:List (Str×List Row)),ds=[dE ord ax af]/\af.length<=8/\R (.lst (af.map fun e=>D.str e.1)) M
theorem ny{f:Addr}{fd:FuncData}(F:Fun K "words_of" "words_of" dJ f fd) (T:Txt K mg) :ba P w K mg base CX0 1 f fd ["lexicon"] (spD K 1 fM):=by
 have nd:=iD.nd
 refine F.okQ rfl iD (fun cdv A outer s H E hr=>⟨_,(av (aT (iz (ms:=[false]) (ah:=["word","kinds"]) (aQ (n0:=0) rfl (show aZ (am dJ) dQ _ _=true from by decide +kernel)) rfl (cj (aX aV (ab 0) ak (fun _ _=>rfl))) (p0 (n:=2) rfl (eU (aU (i:=1) (show(dQ++_).Nodup from by decide +kernel) rfl rfl) (eU (aU (i:=2) (show(dQ++_).Nodup from by decide +kernel) rfl rfl) pL))) (fun _ _ _ _=>bY) (fun _ _ _ _=>(ab 1))))),fun ds M R hl hS=>?_⟩)
 obtain⟨ord,ax,af,rfl,hl,k⟩:=hS
 simp only[dE]
 walk_at "rd"
 refine fun hz=>⟨hz,?_⟩
 refine bq cP (fun _=>true) (fun e=>D.str e.1) (fun Δ=>∃x y,Δ=[none,x,y]) af _ _ (fun e he Δ hΔ=>?_) ⟨none,none,rfl⟩ ?_
 ·obtain⟨x,y,rfl⟩:=hΔ
  refine⟨_,rfl,⟨_,_,rfl⟩,fun Q1 q=>q,fun _ Q2 q=>?_⟩
  walk_at "rd"
  exact q
 ·rw[List.nil_append,List.filter_eq_self.mpr (fun _ _=>rfl)]
  exact k
theorem Bf{w:Str}{af:List (Str×List Row)}:((af.map fun e=>D.str e.1).any fun d=>eqD d (.str w))=decide (w∈af.map (·.1)):=by
 rw[Bool.eq_iff_iff,List.any_map,List.any_eq_true,decide_eq_true_eq,List.mem_map]
 constructor
 ·rintro⟨e,he,h⟩;exact⟨e,he,by simpa[eqD]using h⟩
 ·rintro⟨e,he,h⟩;exact⟨e,he,by simp[eqD,h]⟩
theorem vW{af:List (Str×List Row)}:(af.map fun e=>D.str e.1).all bw=true:=by rw[List.all_map,List.all_eq_true];intro _ _;rfl
def jm:SpD:=fun ds M R=>∃(ord:List (Str×Str)) (ax:Str) (af:List (Str×List Row)) (w:Str),ds=[dE ord ax af,.str w]/\af.length<=8/\w∈af.map (·.1)/\eE w/\R (.bl true) M
theorem nI{f:Addr}{fd:FuncData}(F:Fun K "has_word" "has_word" fP f fd) (T:Txt K mg) (g_p_is_short_word:FnD P w K mg base "is_short_word" 1 1 eS) (g_p_words_of:FnD P w K mg base "words_of" 1 1 fM):ba P w K mg base CX0 2 f fd ["lexicon","thing"] (spD K 2 jm):=by
 have nd:=iI.nd
 refine F.okQ rfl iI (fun cdv A outer s H E hr=>⟨_,(av (aT (jL (qd g_p_is_short_word hr (aa (ab 1) ag)) (nX (iH zt (ab 1) (qd g_p_words_of hr (aa (ab 0) ag)) rfl))))),fun ds M R hl hS=>?_⟩)
 obtain⟨ord,ax,af,w,rfl,hl,hw,ok,k⟩:=hS
 walk_at "rd"
 refine⟨w,rfl,ok,_,rfl,?_⟩
 rw[if_pos rfl]
 refine⟨ord,ax,af,rfl,hl,?_⟩
 walk_at "rd"
 refine⟨_,if_pos ⟨rfl,vW⟩,?_⟩
 rw[Bf,decide_eq_true hw]
 exact k
theorem yC{w:Str}:∀{af:List (Str×List Row)},af.length<2 ^ 62->w∈af.map (·.1)->∃j e,tE (af.map fun e=>D.str e.1) (.str w)=some j/\af[j]?=some e/\e.2=kin af w:=by
 intro af hl hw
 have hd:cx (af.map fun e=>D.str e.1) 59=true:=mZ _ fun _=>rfl
 have h1:dLe (.str w) 59=true:=rfl
 unfold tE
 rw[if_pos ⟨h1,hd,by rw[List.length_map];exact hl⟩]
 clear hd h1 hl
 induction af with
 |nil=>cases hw
 |cons e l ih =>
  obtain⟨a,ks⟩:=e
  rw[List.map_cons,List.findIdx?_cons]
  by_cases h:a=w
  ·subst h
   exact⟨0,_,by simp[eqD],rfl,by simp[kin]⟩
  ·have hne:eqD (.str a) (.str w)=false:=by simp[eqD,h]
   have hw':w∈l.map (·.1):=by
    rw[List.map_cons]at hw
    rcases List.mem_cons.mp hw with q|q
    ·exact absurd q.symm h
    ·exact q
   obtain⟨j,e,q1,q2,q3⟩:=ih hw'
   refine⟨j+1,e,?_,by rw[List.getElem?_cons_succ];exact q2,?_⟩
   ·simp only[hne,Bool.false_eq_true,if_false]
    rw[q1];rfl
   ·rw[q3]
    unfold kin
    rw[List.lookup_cons]
    have:(w==a)=false:=by simpa using fun q:w=a=>h q.symm
    rw[this]
def jP:SpD:=fun ds M R=>∃(ord:List (Str×Str)) (ax:Str) (af:List (Str×List Row)) (w:Str),ds=[dE ord ax af,.str w]/\af.length<=8/\w∈af.map (·.1)/\eE w/\R (cH (kin af w)) M
theorem nE{f:Addr}{fd:FuncData}(F:Fun K "kinds_of" "kinds_of" fZ f fd) (T:Txt K mg) (g_p_has_word:FnD P w K mg base "has_word" 2 2 jm) (g_p_words_of:FnD P w K mg base "words_of" 1 1 fM):ba P w K mg base CX0 3 f fd ["lexicon","word"] (spD K 2 jP):=by
 have nd:=iL.nd
 refine F.okQ rfl iL (fun cdv A outer s H E hr=>⟨_,(ai (cf (ze (lX (qd g_p_has_word hr (aa (ab 0) (aa (ab 1) ag))))) (av Bh) bz)
   (av (aT (aX aV (aX aV (aX aV (ab 0) ak (fun _ _=>rfl)) (EC hr.units (qd g_p_words_of hr (aa (ab 0) ag)) (ab 1)) (fun _ _=>rfl)) ak (fun _ _=>rfl))))),fun ds M R hl hS=>?_⟩)
 obtain⟨ord,ax,af,w,rfl,hl,hw,ok,k⟩:=hS
 walk_at "rd"
 refine⟨ord,ax,af,w,rfl,hl,hw,ok,_,rfl,?_⟩
 simp only[dE]
 rw[if_neg (by simp)]
 walk_at "rd"
 refine⟨ord,ax,af,rfl,hl,⟨_,rfl⟩,_,rfl,?_⟩
 obtain⟨j,e,q1,q2,q3⟩:=yC (Nat.lt_of_le_of_lt hl (by decide)) hw
 refine⟨j,q1,?_⟩
 refine⟨_,bN (by rw[List.getElem?_map,q2];rfl),?_⟩
 simp only[cP]
 walk_at "rd"
 rw[q3];exact k
def gA:SpD:=fun ds M R=>∃(ord:List (Str×Str)) (ax:Str) (af:List (Str×List Row)),ds=[dE ord ax af]/\R (aP [(ax,1)]) M
theorem k9{f:Addr}{fd:FuncData}(F:Fun K "goals_wish" "goals_wish" et f fd) (T:Txt K mg) :ba P w K mg base CX0 1 f fd ["lexicon"] (spD K 1 gA):=by
 have nd:=gd.nd
 refine F.okQ rfl gd (fun cdv A outer s H E hr=>⟨_,(av (aT (bU (aa (bU (aa (aX aV (ab 0) ak (fun _ _=>rfl)) (aa ak ag))) ag)))),fun ds M R hl hS=>?_⟩)
 obtain⟨ord,ax,af,rfl,k⟩:=hS
 simp only[dE]
 walk_at "rd"
 exact⟨sz3 2,sz3 1,k⟩
end
section
variable{P:Program}{w:World}{K:PySem.W.Frag}{mg:Str->Option Value}{base:Heap}
abbrev KD:=List (Int×List Row)
abbrev Pl:=Int×Int×Int
def plD(p:Pl):D:=nA [.inl p.1,.inl p.2.1,.inl p.2.2]
def kdP(kd:KD):List (Key×D):=kd.map fun p=>(.inl p.1,.tup (p.2.map aP))
def kdD(kd:KD):D:=gy (kdP kd)
def look(kd:KD) (n:Int):Option (List Row):=(kd.find? fun p=>decide (p.1=n)).map (·.2)
theorem uo{n:Int}:∀{kd:KD},bp (kdP kd) (.inl n)=(look kd n).map fun rs=>.tup (rs.map aP)
 |[]=>rfl
 |p::kd=>by
  by_cases h:p.1=n
  ·have:bp (kdP (p::kd)) (.inl n)=some (.tup (p.2.map aP)):=bQ (by show Sum.inl p.1=_;rw[h])
   rw[this];simp[look,h]
  ·have e:bp (kdP (p::kd)) (.inl n)=bp (kdP kd) (.inl n):=bL (fun z=>h (by injection z))
   rw[e,uo (kd:=kd)];simp[look,h]
theorem tU{M:DH}{kd:KD}:asK M (kdD kd)=some (kdP kd):=jN
theorem Du{p:Pl}:plD p=.box .key [.int p.1,.int p.2.1,.int p.2.2]:=rfl
theorem zx{p:Pl}{P:List D->Prop}:(∃ds,plD p=.box .key ds/\P ds)↔P [.int p.1,.int p.2.1,.int p.2.2] :=
 ⟨fun⟨ds,e,h⟩=>by rw[Du]at e;injection e with _ e;rw[e];exact h,fun h=>⟨_,rfl,h⟩⟩
def gB:SpD:=fun ds M R=>∃p:Pl,ds=[plD p]/\R (plD (p.1,p.2.1,p.2.2+1)) M
theorem k8{f:Addr}{fd:FuncData}(F:Fun K "next_place" "next_place" eG f fd) (T:Txt K mg) :ba P w K mg base CX0 1 f fd ["place"] (spD K 1 gB):=by
 have nd:=gi.nd
 refine F.okQ rfl gi (fun cdv A outer s H E hr=>⟨_,(ai (ot (yM (ab 0)) (gq rfl (bc (aH (i:=1) nd rfl (Or.inl rfl)) (bc (aH (i:=2) nd rfl (Or.inl rfl)) (bc (aH (i:=3) nd rfl (Or.inl rfl)) gn)))))
   (av (aT (vi (aa (ab 1) (aa (ab 2) (aa (aM aR (ab 3) ak) ag))))))),fun ds M R hl hS=>?_⟩)
 obtain⟨p,rfl,k⟩:=hS
 walk_at "rd"
 simp only[zx,iK,eF,bf,kK,Option.bind_some]
 refine⟨_,if_pos rfl,?_⟩
 exact⟨_,rfl,_,rfl,_,rfl,_,rfl,by rw[sizeLine_eq];decide,k⟩
theorem jA{kd:KD}{n:Int}{rs:List Row}(h:look kd n=some rs):(n,rs)∈kd:=by
 obtain⟨p,hp,e⟩:=Option.map_eq_some_iff.mp h
 have h1:=List.find?_some hp
 have h2:=List.mem_of_find?_eq_some hp
 have:p.1=n:=by simpa using h1
 rw[<-this,<-e];exact h2
def eW:SpD:=fun ds M R=>∃(kd:KD) (p:Pl),ds=[kdD kd,plD p]/\(∀q∈kd,q.2.length<=1000)/\R (.lst ((List.range ((look kd (p.1+1)).getD []).length).map fun(k:Nat)=>plD (p.1+1,(k:Int),0))) M
theorem iZ{f:Addr}{fd:FuncData}(F:Fun K "begins_behind" "begins_behind" ck f fd) (T:Txt K mg) :ba P w K mg base CX0 1 f fd ["kinds","place"] (spD K 2 eW):=by
 have nd:=eN.nd
 refine F.okQ rfl eN (fun cdv A outer s H E hr=>⟨_,(ai (aJ (i:=2) nd rfl (Or.inr rfl) (aM aR (aX aV (yM (ab 1)) ak (fun _ _=>rfl)) ak))
   (av (aT (iz (ms:=[false,false,true]) (ah:=["kind"]) (aQ rfl (show aZ (am ck) cQ _ _=true from by decide +kernel)) rfl (bx rfl T.b_range (aa (aB br rfl T.b_len (by kernel_rfl) (aa (Bn hr.units1 (ab 0) (ab 2) (bU ag) ⟨rfl,rfl,rfl,rfl⟩) ag)) ag)) (aU (i:=3) (show(cQ++_).Nodup from by decide +kernel) rfl rfl) (fun _ _ _ _=>bY) (fun _ _ _ _=>(vi (aa (ab 2) (aa (ab 3) (aa ak ag))))))))),fun ds M R hl hS=>?_⟩)
 obtain⟨kd,p,rfl,hb,k⟩:=hS
 walk_at "rd"
 simp only[zx]
 refine⟨_,rfl,_,rfl,by rw[tU];rfl,Nat.zero_le _,_,tU,.inl (p.1+1),rfl,?_⟩
 have e:(bp (kdP kd) (.inl (p.1+1))).getD (.tup [])=.tup (((look kd (p.1+1)).getD []).map aP):=by
  rw[uo]
  cases look kd (p.1+1)<;>rfl
 have hn:((look kd (p.1+1)).getD []).length<=1000:=by
  cases h:look kd (p.1+1)with
  |none=>exact Nat.zero_le _
  |some rs=>exact hb _ (jA h)
 rw[e]
 generalize (look kd (p.1+1)).getD []=rs at *
 refine⟨.int (rs.length:Int),by simp[rdM,fW],_,rfl,by omega,by omega,?_,?_⟩
 ·simp only[hV,List.length_map,List.length_range,Int.toNat_natCast]
  rw[sizeLine_eq];omega
 ·have hc:eQ [false,false,true] 1 [some (kdD kd),some (plD p),some (D.int (p.1+1))]=[none,none,some (D.int (p.1+1)),none]:=rfl
  rw[hc,hV,Int.toNat_natCast]
  refine bq (fun(k:Nat)=>D.int (0+(k:Int))) (fun _=>true) (fun k=>plD (p.1+1,(k:Int),0)) (fun Δ=>∃x,Δ=[none,none,some (D.int (p.1+1)),x]) _ _ _ ?_ ⟨_,rfl⟩ ?_
  ·rintro k hk Δ ⟨x,rfl⟩
   refine⟨_,rfl,⟨_,rfl⟩,fun Q1 q=>q,fun _ Q2 q=>?_⟩
   simp only[zS,fB,eD,dC,kn]
   refine⟨_,rfl,_,rfl,by simp only[List.length_cons,List.length_nil];rw[sizeLine_eq];decide,?_⟩
   rw[Int.zero_add];exact q
  ·rw[List.filter_eq_self.mpr (fun _ _=>rfl),List.nil_append];exact k
def gN:SpD:=fun ds M R=>∃(kd:KD) (m:Int),ds=[kdD kd]/\BW (kd.map (·.1))=some m/\R (plD (m,0,1)) M
theorem kY{f:Addr}{fd:FuncData}(F:Fun K "last_place" "last_place" eB f fd) (T:Txt K mg) :ba P w K mg base CX0 1 f fd ["kinds"] (spD K 1 gN):=by
 have nd:=gj.nd
 refine F.okQ rfl gj (fun cdv A outer s H E hr=>⟨_,(av (aT (vi (aa (aB (D7 rfl) rfl T.b_max (by kernel_rfl) (aa (bF (Bo rfl) rfl T.b_list (by kernel_rfl) (aa (ab 0) ag)) ag)) (aa ak (aa ak ag)))))),fun ds M R hl hS=>?_⟩)
 obtain⟨kd,m,rfl,hm,k⟩:=hS
 walk_at "rd"
 have e:vG (rdM M (kdD kd))=some (.lst ((kd.map (·.1)).map D.int)):=by
  show vG (gy (kdP kd))=_
  rw[vc,kdP,List.map_map,List.map_map];rfl
 exact⟨_,e,.int m,by rw[show rdM M (D.lst ((kd.map (·.1)).map D.int))=D.lst ((kd.map (·.1)).map D.int)from rfl,Dm,hm];rfl,by rw[sizeLine_eq];decide,k⟩
def dG:SpD:=fun ds M R=>∃(kd:KD) (p:Pl) (rows:List Row) (row:Row) (i j:Nat),ds=[kdD kd,plD p]/\p.2=((i:Int),(j:Int))/\look kd p.1=some rows/\rows[i]?=some row/\R ((row[j]?).elim .non aE) M
theorem kq{f:Addr}{fd:FuncData}(F:Fun K "sign_behind" "sign_behind" dA f fd) (T:Txt K mg) :ba P w K mg base CX0 1 f fd ["kinds","place"] (spD K 2 dG):=by
 have nd:=fF.nd
 refine F.okQ rfl fF (fun cdv A outer s H E hr=>⟨_,(ai (ot (yM (ab 1)) (gq rfl (bc (aH (i:=2) nd rfl (Or.inl rfl)) (bc (aH (i:=3) nd rfl (Or.inl rfl)) (bc (aH (i:=4) nd rfl (Or.inl rfl)) gn)))))
   (ai (aJ (i:=5) nd rfl (Or.inl rfl) (aX aV (o6 hr.units1 (ab 0) (ab 2) (fun _ _=>rfl)) (ab 3) (fun _ _=>rfl)))
   (av (aT (Ih (bh wO (ab 4) (aB br rfl T.b_len (by kernel_rfl) (aa (ab 5) ag)) nbh) (aX aV (ab 5) (ab 4) (fun _ _=>rfl)) uX))))),fun ds M R hl hS=>?_⟩)
 obtain⟨kd,p,rows,row,i,j,rfl,hp,hl,hr',k⟩:=hS
 walk_at "rd"
 simp only[zx,iK,eF,bf,kK,Option.bind_some]
 refine⟨_,if_pos rfl,?_⟩
 have h1:p.2.1=(i:Int):=by rw[hp]
 have h2:p.2.2=(j:Int):=by rw[hp]
 have hv:bp (kdP kd) (.inl p.1)=some (.tup (rows.map aP)):=by rw[uo,hl];rfl
 have hx:ixD (D.tup (rows.map aP)) (D.int p.2.1)=some (aP row):=by
  rw[h1];exact bN (by rw[List.getElem?_map,hr'];rfl)
 refine⟨_,rfl,_,rfl,_,tU,.inl p.1,rfl,_,hv,_,rfl,_,hx,_,rfl,_,rfl,.int (row.length:Int),by simp[rdM,aP,fW],?_⟩
 refine⟨_,rfl,_,rfl,?_⟩
 by_cases hj:j<row.length
 ·rw[if_pos (by rw[h2];simp[hj])]
  rw[List.getElem?_eq_getElem hj]at k
  refine⟨_,rfl,_,rfl,aE row[j],?_,k⟩
  show atI (row.map aE) p.2.2=_
  rw[h2];exact bN (by simp[hj])
 ·rw[if_neg (by rw[h2];simp;omega)]
  rw[List.getElem?_eq_none (by omega)]at k
  exact k
theorem ir{α:Type}{g:GD}{B:BKd}{M:DH}(enc:α->D) (out:α->List D) (Ok:DE->Prop):∀(xs:List α) (Δ:DE) (acc:List D) (Q:List D->DE->DH->Prop),
  (∀x∈xs,∀ Δ,Ok Δ->∃ Δ',g (enc x) Δ=some Δ'/\∀(acc:List D) (Q2:List D->DE->DH->Prop),acc.length+(out x).length<=sizeLine->(∀ Δ'',Ok Δ''->Q2 (acc++out x) Δ'' M)->B Δ' M acc Q2)->Ok Δ ->
  acc.length+(xs.flatMap out).length<=sizeLine->(∀ Δ',Ok Δ'->Q (acc++xs.flatMap out) Δ' M)->gX g qz B (xs.map enc) Δ M acc Q
 |[],Δ,acc,Q,_,ok,_,q=>by
  simp only[List.map_nil,gX]
  have:=q Δ ok
  rwa [List.flatMap_nil,List.append_nil]at this
 |x::xs,Δ,acc,Q,h,ok,hz,q=>by
  rw[List.flatMap_cons,List.length_append]at hz
  rw[List.map_cons]
  simp only[gX,qz,if_true]
  obtain⟨Δ',e,h1⟩:=h x (.head _) Δ ok
  refine⟨Δ',e,h1 acc _ (by omega) fun Δ'' ok'=>⟨by rw[List.length_append];omega,?_⟩⟩
  refine ir enc out Ok xs Δ'' _ Q (fun z hz=>h z (.tail _ hz)) ok' (by rw[List.length_append];omega) fun Δ3 ok3=>?_
  have:=q Δ3 ok3
  rwa [List.flatMap_cons,<-List.append_assoc]at this
theorem mj{α β:Type}{f:α->β}:∀l:List α,(l.flatMap fun a=>[f a])=l.map f
 |[]=>rfl
 |a::l=>by rw[List.flatMap_cons,mj l];rfl
theorem m8{α:Type}{f:α->D}:∀{xs:List α}{n:Nat},nP n (xs.map f)=(xs.zipIdx n).map fun q=>D.tup [D.int (q.2:Int),f q.1]
 |[],_=>rfl
 |x::xs,n=>by
  rw[List.map_cons,List.zipIdx_cons,List.map_cons,<-m8]
  rfl
def gb(n:Int) (q:Row×Nat):List Pl:=(List.range (q.1.length+1)).map fun(a:Nat)=>(n,(q.2:Int),(a:Int))
def fV(q:Int×List Row):List Pl:=q.2.zipIdx.flatMap (gb q.1)
def ar(kd:KD):List Pl:=kd.flatMap fV
def iE:SpD:=fun ds M R=>∃kd:KD,ds=[kdD kd]/\(ar kd).length<=1000000/\R (.lst ((ar kd).map plD)) M
theorem mw{f:Addr}{fd:FuncData}(F:Fun K "places_of" "places_of" dg f fd) (T:Txt K mg) :ba P w K mg base CX0 1 f fd ["kinds"] (spD K 1 iE):=by
 have nd:=gH.nd
 refine F.okQ rfl gH (fun cdv A outer s H E hr=>⟨_,(av (aT (GC (ms:=[false]) (ah:=["number","rows","kind","row","at"]) (aQ (n0:=0) rfl (show aZ (am dg) bR _ _=true from by decide +kernel)) rfl (DV (ab 0)) (p0 (n:=2) rfl (eU (aU (i:=1) (show(bR++_).Nodup from by decide +kernel) rfl rfl) (eU (aU (i:=2) (show(bR++_).Nodup from by decide +kernel) rfl rfl) pL))) (fun _ _ _ _=>bY) (fun _ _ _ _=>(uz rfl T.b_enumerate (aa (ab 2) ag))) (p0 (n:=2) rfl (eU (aU (i:=3) (show(bR++_).Nodup from by decide +kernel) rfl rfl) (eU (aU (i:=4) (show(bR++_).Nodup from by decide +kernel) rfl rfl) pL))) (fun _ _ _ _=>bY) (fun _ _ _ _=>(bx rfl T.b_range (aa (aM aR (aB br rfl T.b_len (by kernel_rfl) (aa (ab 4) ag)) ak) ag))) (aU (i:=5) (show(bR++_).Nodup from by decide +kernel) rfl rfl) (fun _ _ _ _=>bY) (fun _ _ _ _=>(vi (aa (ab 1) (aa (ab 3) (aa (ab 5) ag)))))))),fun ds M R hl hS=>?_⟩)
 obtain⟨kd,rfl,hz,k⟩:=hS
 walk_at "rd"
 refine⟨kdP kd,rfl,?_⟩
 have hc:eQ [false] 5 [some (kdD kd)]=[none,none,none,none,none,none]:=rfl
 have hm:((kdP kd).map fun p=>D.tup [kD p.1,p.2])=kd.map fun q=>D.tup [D.int q.1,D.tup (q.2.map aP)]:=by
  rw[kdP,List.map_map];rfl
 have ho:(kd.flatMap fun q=>(fV q).map plD)=(ar kd).map plD:=by
  rw[ar,List.map_flatMap]
 rw[hc,hm]
 refine ir _ (fun q=>(fV q).map plD) (fun Δ=>∃a b c d e,Δ=[none,a,b,c,d,e]) kd _ _ _ ?_ ⟨_,_,_,_,_,rfl⟩ (by rw[ho,List.length_map,sizeLine_eq];simp;omega) (by rintro Δ' -;rw[ho,List.nil_append];exact k)
 rintro q hq Δ ⟨a,b,c,d,e,rfl⟩
 refine⟨_,rfl,fun acc Q2 hz2 k2=>?_⟩
 have hk:(q.2.zipIdx.flatMap fun r=>(gb q.1 r).map plD)=(fV q).map plD:=by rw[fV,List.map_flatMap]
 simp only[lU,qv,fB,eD,kn]
 refine⟨_,rfl,_,rfl,fun hle=>?_⟩
 rw[m8]
 refine ir _ (fun r=>(gb q.1 r).map plD) (fun Δ=>∃c d e,Δ=[none,some (D.int q.1),some (D.tup (q.2.map aP)),c,d,e]) q.2.zipIdx _ _ _ ?_ ⟨_,_,_,rfl⟩ (by rw[hk];exact hz2) (by rintro Δ' ⟨c,d,e,rfl⟩;rw[hk];exact k2 _ ⟨_,_,_,_,_,rfl⟩)
 rintro r hr' Δ ⟨c,d,e,rfl⟩
 refine⟨_,rfl,fun acc3 Q3 hz3 k3=>?_⟩
 simp only[lU,qj,fB,eD,kn,dOp,dCB,dC]
 have hl3:(gb q.1 r).length=r.1.length+1:=by simp[gb]
 have ho3:((List.range (r.1.length+1)).flatMap fun(a:Nat)=>[plD (q.1,(r.2:Int),(a:Int))])=(gb q.1 r).map plD:=by
  rw[mj,gb,List.map_map];rfl
 have hz4:=hz3
 rw[List.length_map,hl3,sizeLine_eq]at hz4
 refine⟨_,rfl,.int (r.1.length:Int),by simp[jH,rdM,aP,fW],.int ((r.1.length:Int)+1),rfl,_,rfl,by omega,by omega,?_⟩
 have hj:((r.1.length:Int)+1).toNat=r.1.length+1:=by omega
 rw[hj,hV]
 refine ir (fun(a:Nat)=>D.int (0+(a:Int))) (fun a=>[plD (q.1,(r.2:Int),(a:Int))]) (fun Δ=>∃e,Δ=[none,some (D.int q.1),some (D.tup (q.2.map aP)),some (D.int (r.2:Int)),some (aP r.1),e]) _ _ _ _ ?_ ⟨_,rfl⟩ (by rw[ho3];exact hz3) (by rintro Δ' ⟨e,rfl⟩;rw[ho3];exact k3 _ ⟨_,_,_,rfl⟩)
 rintro a ha Δ ⟨e,rfl⟩
 refine⟨_,rfl,fun acc4 Q4 hz5 k4=>?_⟩
 simp only[sY,zS,fB,eD,kn]
 refine⟨_,rfl,_,rfl,_,rfl,by simp only[List.length_cons,List.length_nil];rw[sizeLine_eq];decide,?_⟩
 rw[Int.zero_add]
 exact k4 _ ⟨_,rfl⟩
end
section
variable{P:Program}{w:World}{K:PySem.W.Frag}{mg:Str->Option Value}{base:Heap}
abbrev jK:=Option Pl×Pl×Int
def plK(p:Pl):List Key:=[.inl p.1,.inl p.2.1,.inl p.2.2]
theorem jn{p q:Pl}(h:plK p=plK q):p=q:=by
 obtain⟨a,b,c⟩:=p
 obtain⟨d,e,f⟩:=q
 simpa[plK]using h
def cO(l:List (Pl×Int)):List (List Key×D):=l.map fun z=>(plK z.1,.int z.2)
def cnK(cn:List (Pl×List (Pl×Int))):List (List Key×D):=cn.map fun p=>(plK p.1,ix (cO p.2))
def ju(s:jK):D:=.tup [s.1.elim .non plD,plD s.2.1,.int s.2.2]
def stK(st:List (Pl×List jK)):List (List Key×D):=st.map fun p=>(plK p.1,.lst (p.2.map ju))
def lkP{α:Type}(l:List (Pl×α)) (p:Pl):Option α:=(l.find? fun z=>decide (z.1=p)).map (·.2)
theorem iO{α:Type}(f:α->D) {p:Pl}:∀{l:List (Pl×α)},bp (l.map fun z=>(plK z.1,f z.2)) (plK p)=(lkP l p).map f
 |[]=>rfl
 |z::l=>by
  rw[List.map_cons]
  by_cases h:z.1=p
  ·rw[bQ (by show plK z.1=_;rw[h])];simp[lkP,h]
  ·rw[bL (fun e=>h (jn e)),iO f];simp[lkP,h]
def lr(M:DH) (C q:Addr) (kd:KD) (e:Pl) (st:List (Pl×List jK)) (cn:List (Pl×List (Pl×Int))):Prop :=
 ∃s c,s≠c/\M q=some (.ins C [("kinds",kdD kd),("end",plD e),("steps",.ref s),("counts",.ref c)])/\M s=some (.dT (stK st))/\M c=some (.dT (cnK cn))
def nxt(p:Pl):Pl:=(p.1,p.2.1,p.2.2+1)
def oj(kd:KD) (p:Pl):Prop:=∃(rows:List Row) (row:Row) (i j:Nat),p.2=((i:Int),(j:Int))/\look kd p.1=some rows/\rows[i]?=some row
def cm(kd:KD) (p:Pl):Option (Str×Int):=((look kd p.1).bind (·[p.2.1.toNat]?)).bind (·[p.2.2.toNat]?)
def bA(kd:KD) (p:Pl):List Pl:=(List.range ((look kd (p.1+1)).getD []).length).map fun(k:Nat)=>(p.1+1,(k:Int),0)
def ff(ord:List (Str×Str)) (x:Str×Int) (o:Option (Str×Int)):Bool:=o.elim false fun y=>x.2+1==y.2&&lB ord x.2 x.1 y.1
def ie:SpD:=fun ds M R=>∃(ord:List (Str×Str)) (x:Str×Int) (o:Option (Str×Int)),ds=[.tup (ord.map aN),aE x,o.elim .non aE]/\ord.length<=500/\R (.bl (ff ord x o)) M
theorem kX{f:Addr}{fd:FuncData}(F:Fun K "are_joined" "are_joined" eJ f fd) (T:Txt K mg) (g_p_cancel:FnD P w K mg base "cancel" 4 3 mD):ba P w K mg base CX0 5 f fd ["order","sign","other"] (spD K 3 ie):=by
 have nd:=gf.nd
 refine F.okQ rfl gf (fun cdv A outer s H E hr=>⟨_,(av (aT (jL (iH Bj (ab 2) uX nbh) (nX (qd g_p_cancel hr (aa (ab 0) (aa (ab 1) (aa (ab 2) ag)))))))),fun ds M R hl hS=>?_⟩)
 obtain⟨ord,x,o,rfl,ho,k⟩:=hS
 walk_at "rd"
 cases o with
 |none=>rw[if_neg (by simp[rdM,oq])];exact k
 |some y=>rw[if_pos (by simp[aE,rdM,oq])];exact⟨ord,x,y,rfl,ho,k⟩
theorem q0{kd:KD}{p:Pl}{rows:List Row}{row:Row}{i j:Nat}(hp:p.2=((i:Int),(j:Int))) (hlk:look kd p.1=some rows) (hrow:rows[i]?=some row):cm kd p=row[j]?:=by
 have h1:p.2.1.toNat=i:=by rw[hp];rfl
 have h2:p.2.2.toNat=j:=by rw[hp];rfl
 simp[cm,hlk,h1,h2,hrow]
theorem uu{kd:KD}{p:Pl}{M:DH}{R:D->DH->Prop}(hv:oj kd p) (k:R ((cm kd p).elim .non aE) M):dG [kdD kd,plD p] M R:=by
 obtain⟨rows,row,i,j,hp,hlk,hrow⟩:=hv
 rw[q0 hp hlk hrow]at k
 exact⟨kd,p,rows,row,i,j,rfl,hp,hlk,hrow,k⟩
def bu(ord:List (Str×Str)) (kd:KD) (p:Pl) (l:List (Pl×Int)):List jK:=match cm kd p with
 |none=>(bA kd p).map fun b=>(none,b,1)
 |some x=>(l.filter fun z=>ff ord x (cm kd z.1)).map fun z=>(some z.1,nxt z.1,z.2)
def gh(C:Addr):SpD:=fun ds M R=>∃(ord:List (Str×Str)) (q:Addr) (p:Pl) (kd:KD) (e:Pl) (st:List (Pl×List jK)) (cn:List (Pl×List (Pl×Int))) (l:List (Pl×Int)),ds=[.tup (ord.map aN),.ref q,plD p]/\ord.length<=500/\lr M C q kd e st cn /\
 (∀q∈kd,q.2.length<=1000)/\oj kd p/\((cm kd p).isSome->lkP cn (nxt p)=some l)/\(∀z∈l,oj kd z.1)/\l.length<=100000/\R (.lst ((bu ord kd p l).map ju)) M
theorem kc{f:Addr}{fd:FuncData}(F:Fun K "first_steps" "first_steps" cb f fd) (T:Txt K mg) {C:Addr} (Z:jz K C) (g_p_sign_behind:FnD P w K mg base "sign_behind" 1 2 dG) (g_p_next_place:FnD P w K mg base "next_place" 1 1 gB) (g_p_are_joined:FnD P w K mg base "are_joined" 5 3 ie) (g_p_begins_behind:FnD P w K mg base "begins_behind" 1 2 eW):ba P w K mg base CX0 6 f fd ["order","chart","place"] (spD K 3 (gh C)):=by
 have nd:=fH.nd
 refine F.okQ rfl fH (fun cdv A outer s H E hr=>⟨_,(ai (aJ (i:=3) nd rfl (Or.inr rfl) (qd g_p_sign_behind hr (aa (iB Z.c Z.n_kinds (ab 1)) (aa (ab 2) ag))))
   (ai (cf (bh HY (ab 3) uX nbh) (av (aT (iz (ms:=[false,false,false,false]) (ah:=["begin"]) (aQ rfl (show aZ (am cb) bI _ _=true from by decide +kernel)) rfl (cj (qd g_p_begins_behind hr (aa (iB Z.c Z.n_kinds (ab 1)) (aa (ab 2) ag)))) (aU (i:=4) (show(bI++_).Nodup from by decide +kernel) rfl rfl) (fun _ _ _ _=>bY) (fun _ _ _ _=>(bU (aa uX (aa (ab 4) (aa ak ag)))))))) bz)
   (av (aT (iz (ms:=[true,true,false,true]) (ah:=["mate","inner"]) (aQ rfl (show aZ (am cb) bI _ _=true from by decide +kernel)) rfl (Af (t5 hr.units1 (iB Z.c Z.n_counts (ab 1)) (qd g_p_next_place hr (aa (ab 2) ag)) (fun _ _=>rfl))) (p0 (n:=2) rfl (eU (aU (i:=4) (show(bI++_).Nodup from by decide +kernel) rfl rfl) (eU (aU (i:=5) (show(bI++_).Nodup from by decide +kernel) rfl rfl) pL))) (fun _ _ _ _=>(pJ (lX (qd g_p_are_joined hr (aa (ab 0) (aa (ab 3) (aa (qd g_p_sign_behind hr (aa (iB Z.c Z.n_kinds (ab 1)) (aa (ab 4) ag))) ag))))))) (fun _ _ _ _=>(bU (aa (ab 4) (aa (qd g_p_next_place hr (aa (ab 4) ag)) (aa (ab 5) ag)))))))))),fun ds M R hl hS=>?_⟩)
 obtain⟨ord,q,p,kd,e,st,cn,l,rfl,ho,hC,hb,hv,hl,hlv,hll,k⟩:=hS
 obtain⟨s,c,hsc,hq,hs,hc⟩:=hC
 walk_at "rd"
 refine⟨_,hq,_,rfl,uu hv ?_⟩
 unfold bu at k
 cases hx:cm kd p with
 |none =>
  simp only[hx]at k
  rw[if_pos (by rfl)]
  refine⟨_,hq,_,rfl,kd,p,rfl,hb,_,rfl,fun hz=>⟨hz,?_⟩⟩
  have hm:((List.range ((look kd (p.1+1)).getD []).length).map fun(k:Nat)=>plD (p.1+1,(k:Int),0))=(bA kd p).map plD:=by rw[bA,List.map_map];rfl
  have hc:eQ [false,false,false,false] 1 [some (D.tup (ord.map aN)),some (D.ref q),some (plD p),some ((none:Option (Str×Int)).elim .non aE)]=[none,none,none,none,none]:=rfl
  rw[hm,hc]
  refine bq plD (fun _=>true) (fun b=>ju (none,b,1)) (fun Δ=>∃x,Δ=[none,none,none,none,x]) _ _ _ ?_ ⟨_,rfl⟩ ?_
  ·rintro b hb' Δ ⟨x,rfl⟩
   refine⟨_,rfl,⟨_,rfl⟩,fun Q1 q=>q,fun _ Q2 q=>?_⟩
   simp only[wW,fB,eD,dC,kn]
   exact⟨_,rfl,by simp only[List.length_cons,List.length_nil];rw[sizeLine_eq];decide,q⟩
  ·rw[List.filter_eq_self.mpr (fun _ _=>rfl),List.nil_append]
   rw[List.map_map]at k
   exact k
 |some x =>
  simp only[hx]at k
  rw[if_neg (by simp[aE,rdM,oq])]
  have hlk:=hl (by rw[hx];rfl)
  have hval:bp (cnK cn) (plK (nxt p))=some (ix (cO l)):=by
   rw[cnK,iO (fun l=>ix (cO l)),hlk];rfl
  have hm:((cO l).map fun z=>D.tup [nA z.1,z.2])=l.map fun z=>D.tup [plD z.1,D.int z.2]:=by rw[cO,List.map_map];rfl
  refine⟨_,hq,_,rfl,p,rfl,_,iu hc,plK (nxt p),rfl,_,hval,_,rfl,?_,?_⟩
  ·rw[hm,List.length_map,sizeLine_eq];omega
  have hc2:eQ [true,true,false,true] 2 [some (D.tup (ord.map aN)),some (D.ref q),some (plD p),some ((some x).elim .non aE)]=[some (D.tup (ord.map aN)),some (D.ref q),none,some (aE x),none,none]:=rfl
  rw[hm,hc2]
  refine bq (fun z:Pl×Int=>D.tup [plD z.1,D.int z.2]) (fun z=>ff ord x (cm kd z.1)) (fun z=>ju (some z.1,nxt z.1,z.2)) (fun Δ=>∃a b,Δ=[some (D.tup (ord.map aN)),some (D.ref q),none,some (aE x),a,b]) _ _ _ ?_ ⟨_,_,rfl⟩ ?_
  ·rintro z hz Δ ⟨a,b,rfl⟩
   refine⟨_,rfl,⟨_,_,rfl⟩,fun Q1 q1=>?_,fun _ Q2 q1=>?_⟩
   ·simp only[jv,iJ,fB,eD,kn,xb]
    exact⟨_,rfl,_,rfl,_,rfl,q,_,_,rfl,hq,rfl,_,rfl,rfl,uu (hlv z hz) ⟨rfl,ord,x,cm kd z.1,rfl,ho,_,rfl,q1⟩⟩
   ·simp only[wW,iJ,fB,eD,kn]
    exact⟨_,rfl,_,rfl,rfl,z.1,rfl,_,rfl,by simp only[List.length_cons,List.length_nil];rw[sizeLine_eq];decide,q1⟩
  ·rw[List.nil_append]
   rw[List.map_map]at k
   exact k
def vY(l:List (Pl×Int)) (e:Pl) (v:Int):List (Pl×Int):=if(l.any fun z=>decide (z.1=e))=true then l.map fun z=>if z.1=e then(z.1,v)else z else l++[(e,v)]
theorem AL{l:List (Pl×Int)}{e:Pl}{v:Int}:eP (cO l) (plK e) (.int v)=cO (vY l e v):=by
 have h1:((cO l).any fun kv=>decide (kv.1=plK e))=l.any fun z=>decide (z.1=e):=by
  rw[cO,List.any_map]
  congr 1;funext z
  exact decide_eq_decide.mpr ⟨jn,fun h=>congrArg plK h⟩
 unfold eP vY
 rw[h1]
 split
 ·rw[cO,cO,List.map_map,List.map_map]
  congr 1;funext z
  show(if plK z.1=plK e then _ else _)=_
  by_cases h:z.1=e
  ·rw[if_pos (by rw[h])];simp[h]
  ·rw[if_neg (fun q=>h (jn q))];simp[h]
 ·rw[cO,cO,List.map_append];rfl
theorem zC(l:List (Pl×Int)) (e:Pl) (v:Int):(vY l e v).length<=l.length+1:=by
 unfold vY
 split
 ·rw[List.length_map];omega
 ·simp
def Ae(l:List (Pl×Int)) (e:Pl) (v:Int):List (Pl×Int):=vY l e ((lkP l e).getD 0+v)
def dF(i:Int) (l more:List (Pl×Int)):List (Pl×Int):=more.foldl (fun a z=>Ae a z.1 (i*z.2)) l
def bD(p:Pl) (ss:List jK) (cn:List (Pl×List (Pl×Int))):List (Pl×Int):=ss.foldl (fun a s=>dF s.2.2 a ((lkP cn s.2.1).getD [])) [(p,1)]
def gg(C:Addr):SpD:=fun ds M R=>∃(q:Addr) (p:Pl) (kd:KD) (e:Pl) (st:List (Pl×List jK)) (cn:List (Pl×List (Pl×Int))) (ss:List jK),ds=[.ref q,plD p]/\lr M C q kd e st cn /\
 lkP st p=some ss/\ss.length<=1000/\(∀s∈ss,∃l,lkP cn s.2.1=some l/\l.length<=1000/\∀z∈l,jM s.2.2 z.2)/\R (ix (cO (bD p ss cn))) M
theorem j0{f:Addr}{fd:FuncData}(F:Fun K "counts_from" "counts_from" dB f fd) (T:Txt K mg) {C:Addr} (Z:jz K C) :ba P w K mg base CX0 1 f fd ["chart","place"] (spD K 2 (gg C)):=by
 have nd:=fm.nd
 refine F.okQ rfl fm (fun cdv A outer s H E hr=>⟨_,(ai (aJ (i:=2) nd rfl (Or.inl rfl) (An hr.units1 (ab 1) ak))
   (ai (cc PassesOwn.never rfl (cj (t5 hr.units1 (iB Z.c Z.n_steps (ab 0)) (ab 1) (fun _ _=>rfl))) (gq rfl (bc (aH (i:=3) nd rfl (Or.inl rfl)) (bc (aH (i:=4) nd rfl (Or.inl rfl)) (bc (aH (i:=5) nd rfl (Or.inl rfl)) gn)))) (av (cc PassesOwn.never rfl (Af (t5 hr.units1 (iB Z.c Z.n_counts (ab 0)) (ab 4) (fun _ _=>rfl))) (gq rfl (bc (aH (i:=6) nd rfl (Or.inl rfl)) (bc (aH (i:=7) nd rfl (Or.inl rfl)) gn))) (av (sI hr.units1 (ab 2) (ab 6) (aM aR (vv hr.units1 (ab 2) (ab 6) ak ⟨rfl,rfl,rfl,rfl⟩) (aM xK (ab 5) (ab 7))))))))
   (av (aT (DZ (ab 2)))))),fun ds M R hl hS=>?_⟩)
 obtain⟨q,p,kd,e,st,cn,ss,rfl,hC,hp,hsl,hn,k⟩:=hS
 obtain⟨s,c,hsc,hq,hs,hc⟩:=hC
 walk_at "rd"
 intro a ha
 have hqa:q≠a:=fun z=>by rw[z,ha]at hq;cases hq
 have hsa:s≠a:=fun z=>by rw[z,ha]at hs;cases hs
 have hca:c≠a:=fun z=>by rw[z,ha]at hc;cases hc
 have hval:bp (stK st) (plK p)=some (.lst (ss.map ju)):=by rw[stK,iO (fun l:List jK=>D.lst (l.map ju)),hp];rfl
 refine⟨plK p,rfl,_,by rw[au hqa];exact hq,_,rfl,_,iu (by rw[au hsa];exact hs),plK p,rfl,_,hval,_,rfl,fun hz=>?_⟩
 refine aK (fun i Δ M'=>∃x3 x4 x5 x6 x7 l,Δ=[some (D.ref q),some (plD p),some (D.ref a),x3,x4,x5,x6,x7]/\l=bD p (ss.take i) cn/\l.length<=1+i*1000/\M'=aw M a (.dT (cO l))) ⟨_,_,_,_,_,[(p,1)],rfl,by simp[bD],by simp,rfl⟩ ?_ ?_
 ·rintro i d Δ M' X hd ⟨x3,x4,x5,x6,x7,l0,rfl,hl0,bj,rfl⟩ k'
  obtain⟨t,ht,rfl⟩:=cF hd
  have htm:=List.mem_of_getElem? ht
  have hi:i<ss.length:=(List.getElem?_eq_some_iff.mp ht).1
  obtain⟨l,hl,hll,hmul⟩:=hn t htm
  have hnext:bD p (ss.take (i+1)) cn=dF t.2.2 l0 l:=by
   rw[List.take_add_one,ht,hl0]
   simp[bD,hl]
  have hval2:bp (cnK cn) (plK t.2.1)=some (ix (cO l)):=by rw[cnK,iO (fun l=>ix (cO l)),hl];rfl
  simp only[ju]
  refine⟨_,rfl,?_⟩
  simp only[As,uI,uP,xb,eD]
  refine⟨_,rfl,q,_,_,rfl,by rw[au hqa];exact hq,rfl,_,rfl,_,plK t.2.1,_,iu (by rw[au hca];exact hc),rfl,hval2,cO l,rfl,?_⟩
  have hm:((cO l).map fun z=>D.tup [nA z.1,z.2])=l.map fun z=>D.tup [plD z.1,D.int z.2]:=by rw[cO,List.map_map];rfl
  rw[hm]
  refine aK (fun j Δ M'=>∃x6 x7 l1,Δ=[some (D.ref q),some (plD p),some (D.ref a),some (t.1.elim D.non plD),some (plD t.2.1),some (D.int t.2.2),x6,x7]/\l1=dF t.2.2 l0 (l.take j)/\l1.length<=1+i*1000+j/\M'=aw M a (.dT (cO l1))) ⟨_,_,l0,rfl,by simp[dF],by omega,rfl⟩ ?_ ?_
  ·rintro j d2 Δ M' X2 hd2 ⟨y6,y7,l1,rfl,hl1,hlen1,rfl⟩ k2
   obtain⟨z,hz2,rfl⟩:=cF hd2
   have hzm:=List.mem_of_getElem? hz2
   have hj:j<l.length:=(List.getElem?_eq_some_iff.mp hz2).1
   refine⟨_,rfl,?_⟩
   simp only[rA,dOp,ph,eD,dC]
   have hv1:(bp (cO l1) (plK z.1)).getD (D.int 0)=D.int ((lkP l1 z.1).getD 0):=by
    rw[cO,iO D.int]
    cases lkP l1 z.1<;>rfl
   refine⟨_,rfl,by rw[iu aj];rfl,_,rfl,_,plK z.1,iu aj,rfl,_,rfl,_,rfl,.int (t.2.2*z.2),by simp[rdM,iOp,hmul z hzm],?_⟩
   rw[hv1]
   refine⟨.int ((lkP l1 z.1).getD 0+t.2.2*z.2),rfl,_,rfl,_,rfl,a,_,plK z.1,rfl,aj,rfl,?_,k2 _ _ ⟨_,_,Ae l1 z.1 (t.2.2*z.2),rfl,?_,?_,?_⟩⟩
   ·rw[cO,List.length_map,sizeLine_eq];omega
   ·rw[List.take_add_one,hz2,hl1];simp[dF]
   ·have:=zC l1 z.1 ((lkP l1 z.1).getD 0+t.2.2*z.2)
    show(vY _ _ _).length<=_
    omega
   ·rw[aF,AL];rfl
  ·rintro Δ M' ⟨y6,y7,l1,rfl,hl1,hlen1,rfl⟩
   rw[List.length_map,List.take_length]at hl1
   rw[List.length_map]at hlen1
   exact k' _ _ ⟨_,_,_,_,_,l1,rfl,by rw[hnext];exact hl1,by omega,rfl⟩
 ·rintro Δ M' ⟨x3,x4,x5,x6,x7,l0,rfl,hl0,bj,rfl⟩
  rw[List.length_map,List.take_length]at hl0
  simp only[zW,vI,eD]
  refine⟨_,rfl,a,_,rfl,aj,?_⟩
  rw[dn ha,hl0]
  exact k
end
section
variable{P:Program}{w:World}{K:PySem.W.Frag}{mg:Str->Option Value}{base:Heap}
def fh{α:Type}(l:List (Pl×α)) (e:Pl) (v:α):List (Pl×α):=if(l.any fun z=>decide (z.1=e))=true then l.map fun z=>if z.1=e then(z.1,v)else z else l++[(e,v)]
theorem ye{α:Type}(f:α->D) {l:List (Pl×α)}{e:Pl}{v:α}:eP (l.map fun z=>(plK z.1,f z.2)) (plK e) (f v)=(fh l e v).map fun z=>(plK z.1,f z.2):=by
 have h1:((l.map fun z=>(plK z.1,f z.2)).any fun kv=>decide (kv.1=plK e))=l.any fun z=>decide (z.1=e):=by
  rw[List.any_map]
  congr 1;funext z
  exact decide_eq_decide.mpr ⟨jn,fun h=>congrArg plK h⟩
 unfold eP fh
 rw[h1]
 split
 ·rw[List.map_map,List.map_map]
  congr 1;funext z
  show(if plK z.1=plK e then _ else _)=_
  by_cases h:z.1=e
  ·rw[if_pos (by rw[h])];simp[h]
  ·rw[if_neg (fun q=>h (jn q))];simp[h]
 ·rw[List.map_append];rfl
theorem rf{α:Type}(l:List (Pl×α)) (e:Pl) (v:α):(fh l e v).length<=l.length+1:=by
 unfold fh
 split
 ·rw[List.length_map];omega
 ·simp
abbrev ChS:=List (Pl×List jK)×List (Pl×List (Pl×Int))
def i7(ord:List (Str×Str)) (kd:KD) (S:ChS) (p:Pl):ChS :=
 let ss:=bu ord kd p ((lkP S.2 (nxt p)).getD [])
 (fh S.1 p ss,fh S.2 p (bD p ss S.2))
def cD(ord:List (Str×Str)) (kd:KD) (ps:List Pl):ChS:=ps.foldl (i7 ord kd) ([],[])
def Dw(ord:List (Str×Str)) (kd:KD) (cn:List (Pl×List (Pl×Int))) (p:Pl):Prop :=
 oj kd p/\((cm kd p).isSome->(lkP cn (nxt p)).isSome=true)/\(∀z∈(lkP cn (nxt p)).getD [],oj kd z.1)/\((lkP cn (nxt p)).getD []).length<=100000 /\
 (bu ord kd p ((lkP cn (nxt p)).getD [])).length<=1000/\∀s∈bu ord kd p ((lkP cn (nxt p)).getD []),∃l,lkP cn s.2.1=some l/\l.length<=1000/\∀z∈l,jM s.2.2 z.2
def B0(ord:List (Str×Str)) (kd:KD) (m:Int):Prop:=ord.length<=500/\(∀q∈kd,q.2.length<=1000)/\BW (kd.map (·.1))=some m/\(ar kd).length<=100000 /\
 ∀i p,(ar kd).reverse[i]?=some p->Dw ord kd (cD ord kd ((ar kd).reverse.take i)).2 p
def chM(M:DH) (C q s c:Addr) (kd:KD) (e:Pl) (S:ChS):DH :=
 aw (aw (aw M q (.ins C [("kinds",kdD kd),("end",plD e),(("steps":Str),.ref s),(("counts":Str),.ref c)])) s (.dT (stK S.1))) c (.dT (cnK S.2))
section
variable{M:DH}{C q s c:Addr}{kd:KD}{e:Pl}{S:ChS}
theorem yN(h1:q≠s) (h2:q≠c):chM M C q s c kd e S q=some (.ins C [("kinds",kdD kd),("end",plD e),(("steps":Str),.ref s),(("counts":Str),.ref c)]):=by
 unfold chM;rw[au h2,au h1,aj]
theorem CL(h:s≠c):chM M C q s c kd e S s=some (.dT (stK S.1)):=by
 unfold chM;rw[au h,aj]
theorem CV:chM M C q s c kd e S c=some (.dT (cnK S.2)):=aj
theorem sD(h1:q≠s) (h2:q≠c) (h:s≠c):lr (chM M C q s c kd e S) C q kd e S.1 S.2:=⟨s,c,h,yN h1 h2,CL h,CV⟩
theorem xW(h:s≠c) {x:List (Pl×List jK)}:aw (chM M C q s c kd e S) s (.dT (stK x))=chM M C q s c kd e (x,S.2):=by
 unfold chM
 rw[bJ (Ne.symm h),aF]
theorem zI{y:List (Pl×List (Pl×Int))}:aw (chM M C q s c kd e S) c (.dT (cnK y))=chM M C q s c kd e (S.1,y):=by
 unfold chM
 rw[aF]
end
theorem xE{α:Type}{p:Pl}{v:α}:∀{l:List (Pl×α)},lkP (fh l p v) p=some v:=by
 intro l
 unfold fh
 split
 ·rename_i h
  induction l with
  |nil=>simp at h
  |cons z l ih =>
   by_cases hz:z.1=p
   ·simp[lkP,hz]
   ·have h':(l.any fun z=>decide (z.1=p))=true:=by simpa[hz]using h
    have:=ih h'
    simpa[lkP,hz]using this
 ·rename_i h
  have:∀z∈l,z.1≠p:=fun z hz e=>h (List.any_eq_true.mpr ⟨z,hz,by simp[e]⟩)
  induction l with
  |nil=>simp[lkP]
  |cons z l ih =>
   have hz:=this z (.head _)
   have:=ih (fun h2=>h (by simp[h2])) (fun w hw=>this w (.tail _ hw))
   simpa[lkP,hz]using this
def j6(C:Addr):SpD:=fun ds M R=>∃(ord:List (Str×Str)) (kd:KD) (m:Int) (q:Addr),ds=[.ref q,.tup (ord.map aN),kdD kd]/\M q=some (.ins C [])/\B0 ord kd m /\
 ∀s c,M s=none->M c=none->s≠c->R .non (chM M C q s c kd (m,0,1) (cD ord kd (ar kd).reverse))
theorem sE{f:Addr}{fd:FuncData}(F:Fun K "__init__" "Chart.__init__" kf f fd) (T:Txt K mg) {C:Addr} (Z:jz K C) (g_p_last_place:FnD P w K mg base "last_place" 1 1 gN) (g_p_places_of:FnD P w K mg base "places_of" 1 1 iE) (g_p_first_steps:FnD P w K mg base "first_steps" 6 3 ((gh C))) (g_p_counts_from:FnD P w K mg base "counts_from" 1 2 ((gg C))):ba P w K mg base CX0 7 f fd ["self","order","kinds"] (spD K 3 (j6 C)):=by
 have nd:=mR.nd
 refine F.okQ rfl mR (fun cdv A outer s H E hr=>⟨_,(ai (pM Z.c Z.n_kinds (ab 0) (ab 2))
   (ai (pM Z.c Z.n_end (ab 0) (qd g_p_last_place hr (aa (ab 2) ag)))
   (ai (pM Z.c Z.n_steps (ab 0) Cc)
   (ai (pM Z.c Z.n_counts (ab 0) Cc)
   (av (cc PassesOwn.never rfl (Cj rfl T.b_reversed (aa (qd g_p_places_of hr (aa (ab 2) ag)) ag)) (aH (i:=3) nd rfl (Or.inl rfl)) (ai (sI hr.units1 (iB Z.c Z.n_steps (ab 0)) (ab 3) (qd g_p_first_steps hr (aa (ab 1) (aa (ab 0) (aa (ab 3) ag)))))
   (av (sI hr.units1 (iB Z.c Z.n_counts (ab 0)) (ab 3) (qd g_p_counts_from hr (aa (ab 0) (aa (ab 3) ag)))))))))))),fun ds M R hl hS=>?_⟩)
 obtain⟨ord,kd,m,q,rfl,hq,⟨ho,hb,hm,hz,hst⟩,k⟩:=hS
 walk_at "rd"
 have p2:rJ "end" (plD (m,0,1)) [(("kinds":Str),kdD kd)]=[(("kinds":Str),kdD kd),(("end":Str),plD (m,0,1))]:=rfl
 refine⟨[],hq,by simp,kd,m,rfl,hm,[(("kinds":Str),kdD kd)],aj,by simp,fun s hs=>?_⟩
 rw[p2]at hs ⊢
 rw[aF]at hs ⊢
 have hqs:q≠s:=fun z=>by rw[<-z,aj]at hs;cases hs
 have hs0:M s=none:=by rw[au (Ne.symm hqs)]at hs;exact hs
 refine⟨[(("kinds":Str),kdD kd),(("end":Str),plD (m,0,1))],by rw[au hqs,aj],by simp,fun c hc=>?_⟩
 have p3:rJ "steps" (.ref s) [(("kinds":Str),kdD kd),(("end":Str),plD (m,0,1))]=[(("kinds":Str),kdD kd),(("end":Str),plD (m,0,1)),(("steps":Str),.ref s)]:=rfl
 rw[p3]at hc ⊢
 have hqc:q≠c:=fun z=>by rw[<-z,aj]at hc;cases hc
 rw[au (Ne.symm hqc)]at hc
 have hsc:s≠c:=fun z=>by rw[<-z,aj]at hc;cases hc
 have hc0:M c=none:=by rw[au (Ne.symm hsc),au (Ne.symm hqc)]at hc;exact hc
 refine⟨[(("kinds":Str),kdD kd),(("end":Str),plD (m,0,1)),(("steps":Str),.ref s)],by rw[au hqc,aj],by simp,?_⟩
 have p4:rJ "counts" (.ref c) [(("kinds":Str),kdD kd),(("end":Str),plD (m,0,1)),(("steps":Str),.ref s)]=[(("kinds":Str),kdD kd),(("end":Str),plD (m,0,1)),(("steps":Str),.ref s),(("counts":Str),.ref c)]:=rfl
 rw[p4]
 have hM:aw (aw (aw (aw (aw M q (.ins C [(("kinds":Str),kdD kd),(("end":Str),plD (m,0,1))])) s (.dT [])) q (.ins C [(("kinds":Str),kdD kd),(("end":Str),plD (m,0,1)),(("steps":Str),.ref s)])) c (.dT [])) q (.ins C [(("kinds":Str),kdD kd),(("end":Str),plD (m,0,1)),(("steps":Str),.ref s),(("counts":Str),.ref c)])=chM M C q s c kd (m,0,1) ([],[]):=by
  unfold chM
  rw[bJ (Ne.symm hqc),aF,bJ (Ne.symm hqs),aF]
  rfl
 rw[hM]
 refine⟨kd,rfl,by omega,_,rfl,fun hle=>?_⟩
 rw[<-List.map_reverse]
 refine aK (fun i Δ M'=>∃x S,Δ=[some (D.ref q),some (D.tup (ord.map aN)),some (kdD kd),x]/\S=cD ord kd ((ar kd).reverse.take i)/\S.1.length<=i/\S.2.length<=i/\M'=chM M C q s c kd (m,0,1) S) ⟨_,([],[]),rfl,by simp[cD],by simp,by simp,rfl⟩ ?_ ?_
 ·rintro i d Δ M' X hd ⟨x,S,rfl,hS,h1,h2,rfl⟩ k'
  obtain⟨p,hp,rfl⟩:=cF hd
  have hi:i<(ar kd).reverse.length:=(List.getElem?_eq_some_iff.mp hp).1
  rw[List.length_reverse]at hi
  have hok:=hst i p hp
  rw[<-hS]at hok
  obtain⟨hv,hsome,hzv,hll,hss,hstep⟩:=hok
  refine⟨_,rfl,?_⟩
  simp only[xf,rA,xb,iJ,fB,eD,kn]
  refine⟨_,rfl,_,rfl,_,rfl,rfl,ord,q,p,kd,(m,0,1),S.1,S.2,(lkP S.2 (nxt p)).getD [],rfl,ho,sD hqs hqc hsc,hb,hv,fun h=>?_,hzv,hll,?_⟩
  ·obtain⟨l,hl⟩:=Option.isSome_iff_exists.mp (hsome h)
   rw[hl];rfl
  refine⟨_,rfl,q,_,_,rfl,yN hqs hqc,rfl,_,rfl,s,_,plK p,rfl,CL hsc,rfl,by rw[stK,List.length_map,sizeLine_eq];omega,?_⟩
  generalize hss0:bu ord kd p ((lkP S.2 (nxt p)).getD [])=ss at *
  have hput:eP (stK S.1) (plK p) (D.lst (ss.map ju))=stK (fh S.1 p ss):=ye (fun l:List jK=>D.lst (l.map ju))
  have hput2:eP (cnK S.2) (plK p) (ix (cO (bD p ss S.2)))=cnK (fh S.2 p (bD p ss S.2)):=ye (fun l=>ix (cO l))
  rw[hput,xW hsc]
  refine⟨_,rfl,_,rfl,rfl,q,p,kd,(m,0,1),fh S.1 p ss,S.2,ss,rfl,sD hqs hqc hsc,xE,hss,hstep,?_⟩
  refine⟨_,rfl,q,_,_,rfl,yN hqs hqc,rfl,_,rfl,c,cnK S.2,plK p,rfl,CV,rfl,by rw[cnK,List.length_map,sizeLine_eq];omega,?_⟩
  rw[hput2,zI]
  refine k' _ _ ⟨_,_,rfl,?_,?_,?_,rfl⟩
  ·rw[List.take_add_one,hp,cD,List.foldl_append]
   show _=i7 ord kd (cD ord kd ((ar kd).reverse.take i)) p
   rw[<-hS]
   simp only[i7,hss0]
  ·have:=rf S.1 p ss
   show(fh S.1 p ss).length<=_
   omega
  ·have:=rf S.2 p (bD p ss S.2)
   show(fh S.2 p _).length<=_
   omega
 ·rintro Δ M' ⟨x,S,rfl,hS,h1,h2,rfl⟩
  rw[List.length_map,List.take_length]at hS
  rw[hS]
  exact k s c hs0 hc0 hsc
def cN:Pl:=(-1,0,0)
def fJ(C:Addr):SpD:=fun ds M R=>∃(q:Addr) (kd:KD) (e:Pl) (st:List (Pl×List jK)) (cn:List (Pl×List (Pl×Int))) (l:List (Pl×Int)),ds=[.ref q]/\lr M C q kd e st cn/\lkP cn cN=some l/\R (.int ((lkP l e).getD 0)) M
theorem jO{f:Addr}{fd:FuncData}(F:Fun K "count_of_all" "count_of_all" cX f fd) (T:Txt K mg) {C:Addr} (Z:jz K C) :ba P w K mg base CX0 1 f fd ["chart"] (spD K 1 (fJ C)):=by
 have nd:=eY.nd
 refine F.okQ rfl eY (fun cdv A outer s H E hr=>⟨_,(av (aT (vv hr.units1 (Eh hr.units1 (iB Z.c Z.n_counts (ab 0)) (vw rfl T.g_START) (fun _ _=>rfl)) (iB Z.c Z.n_end (ab 0)) ak ⟨rfl,rfl,rfl,rfl⟩))),fun ds M R hl hS=>?_⟩)
 obtain⟨q,kd,e,st,cn,l,rfl,hC,hl,k⟩:=hS
 obtain⟨s,c,hsc,hq,hs,hc⟩:=hC
 walk_at "rd"
 have hval:bp (cnK cn) (plK cN)=some (ix (cO l)):=by rw[cnK,iO (fun l=>ix (cO l)),hl];rfl
 refine⟨_,hq,_,rfl,_,iu hc,plK cN,rfl,_,hval,by rw[qW];rfl,_,hq,_,rfl,_,qW,plK e,rfl,?_⟩
 have:(bp (cO l) (plK e)).getD (D.int 0)=D.int ((lkP l e).getD 0):=by
  rw[cO,iO D.int]
  cases lkP l e<;>rfl
 rw[this];exact k
end
section
variable{P:Program}{w:World}{K:PySem.W.Frag}{mg:Str->Option Value}{base:Heap}
def cw(af:List (Str×List Row)) (ws:List Str):KD:=ws.zipIdx.map fun q=>((q.2:Int),kin af q.1)
def bT(af:List (Str×List Row)) (ax:Str) (ws:List Str):KD:=(-1,[[]])::cw af ws++[((ws.length:Int),[[(ax,1)]])]
theorem uB{kd:KD}{n:Int}{rs:List Row}(h:∀p∈kd,p.1≠n):eP (kdP kd) (.inl n) (cH rs)=kdP (kd++[(n,rs)]):=by
 have:((kdP kd).any fun kv=>decide (kv.1=.inl n))=false:=by
  rw[List.any_eq_false]
  intro x hx
  obtain⟨p,hp,rfl⟩:=List.mem_map.mp hx
  have:=h p hp
  simpa using this
 unfold eP
 rw[this,if_neg (by simp),kdP,kdP,List.map_append]
 rfl
theorem uE{af:List (Str×List Row)}{ws:List Str}{n:Int}{r:List Row}(h0:(-1:Int)≠n) (h:(ws.length:Int)<=n):∀p∈((-1,r)::cw af ws:KD),p.1≠n:=by
 intro p hp
 rcases List.mem_cons.mp hp with e|hp
 ·rw[e];exact h0
 ·obtain⟨t,ht,rfl⟩:=List.mem_map.mp hp
  have:=List.mem_zipIdx ht
  show(t.2:Int)≠n
  omega
def dH:SpD:=fun ds M R=>∃(ord:List (Str×Str)) (ax:Str) (af:List (Str×List Row)) (ws:List Str),ds=[dE ord ax af,.tup (ws.map .str)]/\af.length<=8/\ws.length<=100/\(∀w∈ws,w∈af.map (·.1)/\eE w)/\R (kdD (bT af ax ws)) M
theorem gT{f:Addr}{fd:FuncData}(F:Fun K "kinds_by_number" "kinds_by_number" cB f fd) (T:Txt K mg) (g_p_kinds_of:FnD P w K mg base "kinds_of" 3 2 jP) (g_p_goals_wish:FnD P w K mg base "goals_wish" 1 1 gA):ba P w K mg base CX0 4 f fd ["lexicon","words"] (spD K 2 dH):=by
 have nd:=dq.nd
 refine F.okQ rfl dq (fun cdv A outer s H E hr=>⟨_,(ai (aJ (i:=2) nd rfl (Or.inl rfl) (uR (aX aV (vw rfl T.g_START) ak (fun _ _=>rfl)) (bU (aa (bU ag) ag))))
   (ai (cc PassesOwn.never rfl (uz rfl T.b_enumerate (aa (ab 1) ag)) (gq rfl (bc (aH (i:=3) nd rfl (Or.inl rfl)) (bc (aH (i:=4) nd rfl (Or.inl rfl)) gn))) (av (tZ hr.units1 (ab 2) (ab 3) (qd g_p_kinds_of hr (aa (ab 0) (aa (ab 4) ag))))))
   (ai (tZ hr.units1 (ab 2) (aB br rfl T.b_len (by kernel_rfl) (aa (ab 1) ag)) (bU (aa (qd g_p_goals_wish hr (aa (ab 0) ag)) ag)))
   (av (aT (DF (ab 2))))))),fun ds M R hl hS=>?_⟩)
 obtain⟨ord,ax,af,ws,rfl,hl,hw,hws,k⟩:=hS
 walk_at "rd"
 intro a ha
 refine⟨Nat.zero_le _,by rw[sizeLine_eq];decide,.inl (-1),rfl,fun hz=>?_⟩
 rw[m8]
 refine aK (fun i Δ M'=>∃x3 x4,Δ=[some (dE ord ax af),some (D.tup (ws.map D.str)),some (D.ref a),x3,x4]/\M'=aw M a (.dK (kdP ((-1,[[]])::cw af (ws.take i))))) ⟨_,_,rfl,rfl⟩ ?_ ?_
 ·rintro i d Δ M' X hd ⟨x3,x4,rfl,rfl⟩ k'
  obtain⟨t,ht,rfl⟩:=cF hd
  have hti:ws[i]?=some t.1/\t.2=i:=by
   rw[List.getElem?_zipIdx]at ht
   cases hw':ws[i]? with
   |none=>rw[hw']at ht;cases ht
   |some x=>rw[hw']at ht;cases ht;exact⟨rfl,by simp⟩
  have hmem:=List.mem_of_getElem? hti.1
  have hi:i<ws.length:=(List.getElem?_eq_some_iff.mp hti.1).1
  refine⟨_,rfl,?_⟩
  simp only[qK,iJ,fB,eD,kn]
  refine⟨_,rfl,_,rfl,rfl,ord,ax,af,t.1,rfl,hl,(hws _ hmem).1,(hws _ hmem).2,?_⟩
  refine⟨_,rfl,_,rfl,a,_,.inl (t.2:Int),rfl,aj,rfl,?_,?_⟩
  ·rw[kdP,List.length_map,List.length_cons,cw,List.length_map,List.length_zipIdx,List.length_take,sizeLine_eq];omega
  rw[aF,uB (uE (by omega) (by rw[hti.2,List.length_take];omega) )]
  refine k' _ _ ⟨_,_,rfl,?_⟩
  rw[List.take_add_one,hti.1,hti.2]
  simp[cw,List.zipIdx_append,List.length_take,Nat.min_eq_left (Nat.le_of_lt hi)]
 ·rintro Δ M' ⟨x3,x4,rfl,rfl⟩
  rw[List.length_map,List.length_zipIdx,List.take_length]
  simp only[xf,qK,iJ,fB,eD,kn,dCB,wW,zW,uv]
  refine⟨_,rfl,rfl,ord,ax,af,rfl,by simp only[List.length_cons,List.length_nil];rw[sizeLine_eq];decide,_,rfl,_,rfl,.int (ws.length:Int),?_,a,_,.inl (ws.length:Int),rfl,aj,rfl,?_,_,rfl,a,_,rfl,aj,?_⟩
  ·simp[jH,rdM,fW]
  ·rw[kdP,List.length_map,List.length_cons,cw,List.length_map,List.length_zipIdx,sizeLine_eq];omega
  ·rw[aF,dn ha]
   have:=uB (kd:=(-1,[[]])::cw af ws) (n:=(ws.length:Int)) (rs:=[[(ax,1)]]) (uE (by omega) (Int.le_refl _))
   rw[show D.tup [aP [(ax,1)]]=cH [[(ax,1)]]from rfl,this]
   exact k
def i9(C:Addr):SpD:=fun ds M R=>∃(ord:List (Str×Str)) (ax:Str) (af:List (Str×List Row)) (ws:List Str) (m:Int),ds=[dE ord ax af,.tup (ws.map .str)]/\af.length<=8/\ws.length<=100/\(∀w∈ws,w∈af.map (·.1)/\eE w)/\B0 ord (bT af ax ws) m /\
 ∀q s c,M q=none->M s=none->M c=none->q≠s->q≠c->s≠c->R (.ref q) (chM M C q s c (bT af ax ws) (m,0,1) (cD ord (bT af ax ws) (ar (bT af ax ws)).reverse))
theorem nz{f:Addr}{fd:FuncData}(F:Fun K "chart_of" "chart_of" fS f fd) (T:Txt K mg) {C:Addr} (g_p_Chart:MkD P w K mg base "Chart" C 7 3 ((j6 C))) (g_p_kinds_by_number:FnD P w K mg base "kinds_by_number" 4 2 dH):ba P w K mg base CX0 9 f fd ["lexicon","words"] (spD K 2 (i9 C)):=by
 have nd:=iC.nd
 refine F.okQ rfl iC (fun cdv A outer s H E hr=>⟨_,(av (aT (EZ g_p_Chart (hr.mono (by decide)) rfl (aa (aX aV (ab 0) ak (fun _ _=>rfl)) (aa (qd g_p_kinds_by_number hr (aa (ab 0) (aa (ab 1) ag))) ag))))),fun ds M R hl hS=>?_⟩)
 obtain⟨ord,ax,af,ws,m,rfl,hl,hw,hws,hok,k⟩:=hS
 have hx:dE ord ax af=D.tup [D.tup (ord.map aN),D.str ax,D.tup (af.map cP)]:=rfl
 rw[hx]
 walk_at "rd"
 refine⟨ord,ax,af,ws,rfl,hl,hw,hws,fun q hq=>⟨ord,_,m,q,rfl,aj,hok,fun s c hs hc hsc=>⟨rfl,?_⟩⟩⟩
 have hqs:q≠s:=fun z=>by rw[<-z,aj]at hs;cases hs
 have hqc:q≠c:=fun z=>by rw[<-z,aj]at hc;cases hc
 rw[au (Ne.symm hqs)]at hs
 rw[au (Ne.symm hqc)]at hc
 have:=k q s c hq hs hc hqs hqc hsc
 unfold chM at this ⊢
 rw[aF]
 exact this
def xX(ord:List (Str×Str)) (ax:Str) (af:List (Str×List Row)) (ws:List Str) (n:Int):Prop:=af.length<=8/\ws.length<=100/\(∀w∈ws,w∈af.map (·.1)/\eE w) /\
 ∃m l,B0 ord (bT af ax ws) m/\lkP (cD ord (bT af ax ws) (ar (bT af ax ws)).reverse).2 cN=some l/\n=(lkP l (m,0,1)).getD 0
def qC:SpD:=fun ds M R=>∃(ord:List (Str×Str)) (ax:Str) (af:List (Str×List Row)) (ws:List Str) (n:Int),ds=[dE ord ax af,.tup (ws.map .str)]/\xX ord ax af ws n/\R (.int n) M
theorem xo{f:Addr}{fd:FuncData}(F:Fun K "many" "many" m5 f fd) (T:Txt K mg) {C:Addr} (g_p_count_of_all:FnD P w K mg base "count_of_all" 1 1 ((fJ C))) (g_p_chart_of:FnD P w K mg base "chart_of" 9 2 ((i9 C))):ba P w K mg base CX0 10 f fd ["lexicon","words"] (spD K 2 qC):=by
 have nd:=oS.nd
 refine F.okQ rfl oS (fun cdv A outer s H E hr=>⟨_,(av (i8 (qd g_p_count_of_all hr (aa (qd g_p_chart_of hr (aa (ab 0) (aa (ab 1) ag))) ag)))),fun ds M R hl hS=>?_⟩)
 obtain⟨ord,ax,af,ws,n,rfl,⟨hl,hw,hws,m,l,hok,hst,hn⟩,k⟩:=hS
 walk_at "rd"
 refine⟨ord,ax,af,ws,m,rfl,hl,hw,hws,hok,fun q s c hq hs hc hqs hqc hsc=>?_⟩
 refine⟨q,_,_,_,_,l,rfl,sD hqs hqc hsc,hst,M,fun a u e=>?_,by rw[hn]at k;exact k⟩
 have h1:a≠q:=fun z=>by rw[z,hq]at e;cases e
 have h2:a≠s:=fun z=>by rw[z,hs]at e;cases e
 have h3:a≠c:=fun z=>by rw[z,hc]at e;cases e
 unfold chM
 rw[au h3,au h2,au h1];exact e
end
section
variable{P:Program}{w:World}{K:PySem.W.Frag}{mg:Str->Option Value}{base:Heap}
def aS(l:List D):Prop:=∃a b:Int,l=[.int a,.int b]
def qB:SpD:=fun ds M R=>∃(ns:List Int) (k:Int),ds=[.scr (ns.map .int),.int k]/\ns.length<=63/\0<=k/\k<=100/\∀p l,M p=none->aS l->R (.ref p) (aw M p (.lst l))
def cq:SpD:=fun ds M R=>∃p l n,ds=[.ref p,.int n]/\M p=some (.lst l)/\aS l/\0<n/\n<1073741824/\∀v l',0<=v->v<n->aS l'->R (.int v) (aw M p (.lst l'))
theorem zH{ms:List Int}{i:Nat}{d:D}(h:(ms.map D.int)[i]?=some d):∃c,c∈ms/\d=.int c:=by
 rw[List.getElem?_map]at h
 cases q:ms[i]? with
 |none=>rw[q]at h;cases h
 |some c=>rw[q]at h;cases h;exact⟨c,List.mem_of_getElem? q,rfl⟩
theorem BR{ns:List Int}{lo hi:Option Int}:∃ms:List Int,L2.cC (ns.map D.int) lo hi=ms.map D.int/\ms.length<=ns.length:=by
 refine⟨(ns.drop (HT.sIx (ns.map D.int).length 0 lo)).take (HT.sIx (ns.map D.int).length (ns.map D.int).length hi-HT.sIx (ns.map D.int).length 0 lo),?_,?_⟩
 ·unfold L2.cC
  rw[List.map_take,List.map_drop]
 ·simp;omega
theorem we{f:Addr}{fd:FuncData}(F:Fun K "_law_well" "_law_well" mf f fd) (T:Txt K mg) :ba P w K mg base CX0 1 f fd ["_law_script","_law_place"] (spD K 2 qB):=by
 have nd:=oI.nd
 refine F.okQ rfl oI (fun cdv A outer s H E hr=>⟨_,(ai (aJ (i:=2) nd rfl (Or.inl rfl) ak)
   (ai (cc PassesOwn.never rfl (cj (eK (ab 0) (dI (ab 1)) (dI (aM aR (ab 1) ak)))) (aH (i:=3) nd rfl (Or.inl rfl)) (av (aJ (i:=2) nd rfl (Or.inl rfl) (ab 3))))
   (ai (cf (xh (Cs (bh wO (ab 2) ak nbh) (Ad (bh HJ (ab 2) (aM Gm ak ak) nbh)))) (av (aT (fj (aa ak (aa (aB Gc rfl T.b_abs (by kernel_rfl) (aa (ab 2) ag)) ag))))) bz)
   (av (aT (fj (aa ak (aa (aM aR (aM eX (aM aR (aM eX (ab 2) ak) (aM cW ak (ab 1))) ak) ak) ag)))))))),fun ds M R hl hS=>?_⟩)
 obtain⟨ns,k0,rfl,hl,h0,h1,k⟩:=hS
 walk_at "rd"
 obtain⟨ms,hms,hml⟩:=BR (ns:=ns) (lo:=some k0) (hi:=some (k0+1))
 rw[hms]
 intro hz
 refine aK (fun i Δ M'=>∃(x:Int) (y:Option D),Δ=[some (D.scr (List.map D.int ns)),some (D.int k0),some (D.int x),y]/\M'=M) ⟨0,none,rfl,rfl⟩ ?_ ?_
 ·rintro i d Δ M' X hd ⟨x,y,rfl,rfl⟩ k'
  obtain⟨c,hc,rfl⟩:=zH hd
  simp only[bf]
  walk_at "rd"
  exact k' _ _ ⟨_,_,rfl,rfl⟩
 ·rintro Δ M' ⟨x,y,rfl,rfl⟩
  walk_at "rd"
  exact cE (fun _=>⟨sz3 2,fun p hp=>k p _ hp ⟨_,_,rfl⟩⟩) (fun _=>cE (fun _=>⟨sz3 2,fun p hp=>k p _ hp ⟨_,_,rfl⟩⟩) (fun _=>⟨sz3 2,fun p hp=>k p _ hp ⟨_,_,rfl⟩⟩))
theorem xl{f:Addr}{fd:FuncData}(F:Fun K "_law_draw" "_law_draw" me f fd) (T:Txt K mg) :ba P w K mg base CX0 1 f fd ["_law_well_here","_law_top"] (spD K 2 cq):=by
 have nd:=oi.nd
 refine F.okQ rfl oi (fun cdv A outer s H E hr=>⟨_,(ai (cf (bh (gx hr.units) (aX aV (ab 0) ak (fun _ _=>rfl)) ak nbh) (ai (aJ (i:=2) nd rfl (Or.inl rfl) (aM eX (aX aV (ab 0) ak (fun _ _=>rfl)) (ab 1)))
   (ai (uV (ab 0) ak (aM tq (aX aV (ab 0) ak (fun _ _=>rfl)) (ab 1)))
   (av (aT (ab 2))))) bz)
   (ai (cc PassesOwn.never rfl (bx rfl T.b_range (aa ak ag)) (aH (i:=3) nd rfl (Or.inl rfl)) (ai (ot (aB yF rfl T.b_divmod (by kernel_rfl) (aa (aX aV (ab 0) ak (fun _ _=>rfl)) (aa ak ag))) (gq rfl (bc (aH (i:=4) nd rfl (Or.inl rfl)) (bc (aH (i:=5) nd rfl (Or.inl rfl)) gn))))
   (av (uV (ab 0) ak (aM eX (aM aR (aM aR (aM cW (ab 5) ak) (aM cW (ab 4) ak)) ak) ak)))))
   (av (aT (aM eX (aM tq (aX aV (ab 0) ak (fun _ _=>rfl)) ak) (ab 1)))))),fun ds M R hl hS=>?_⟩)
 obtain⟨p,l,n,rfl,hM,⟨a,b,rfl⟩,h0,h1,k⟩:=hS
 have hrd:=dN hM
 have hcd:∀x,mX x n:=fun x=>⟨h0,h1⟩
 walk_at "rd"
 simp only[hrd,hM,hcd]
 walk_at "rd"
 have m1:∀x:Int,0<=x % n:=fun x=>Int.emod_nonneg _ (by omega)
 have m2:∀x:Int,x % n<n:=fun x=>Int.emod_lt_of_pos _ h0
 refine cE (fun _=>⟨_,if_pos h0,_,if_pos (hcd b),k _ _ (m1 _) (m2 _) ⟨_,_,rfl⟩⟩) (fun _=>?_)
 refine aK (fun i Δ M'=>∃(x3 x4 x5:Option D) (b':Int),Δ=[some (D.ref p),some (D.int n),none,x3,x4,x5]/\M'=aw M p (.lst [.int a,.int b'])) ⟨_,_,_,b,rfl,(nS hM).symm⟩ ?_ ?_
 ·rintro i d Δ M' X hd ⟨x3,x4,x5,b',rfl,rfl⟩ k'
  simp only[bf]
  walk_at "rd"
  simp only[iK,eF,bf,kK,Option.bind_some]
  refine⟨_,if_pos rfl,?_⟩
  walk_at "rd"
  exact k' _ _ ⟨_,_,_,_,rfl,rfl⟩
 ·rintro Δ M' ⟨x3,x4,x5,b',rfl,rfl⟩
  walk_at "rd"
  refine⟨_,if_pos h0,k _ _ (m1 _) (m2 _) ⟨_,_,rfl⟩⟩
end
section
variable{P:Program}{w:World}{K:PySem.W.Frag}{mg:Str->Option Value}{base:Heap}
/-! ### how many drawings a row has -/
section
variable{σ:Type}
def jX:List σ->List (List σ×σ×List σ)
 |[]=>[]
 |y::ys=>([],y,ys)::(jX ys).map fun c=>(y::c.1,c.2.1,c.2.2)
theorem je{xs:List σ}:∀{c:List σ×σ×List σ},c∈jX xs->c.1.length+c.2.2.length+1=xs.length:=by
 induction xs with
 |nil=>intro c h;cases h
 |cons y ys ih =>
  intro c h
  rcases List.mem_cons.mp h with rfl|h
  ·simp
  ·obtain⟨d,hd,rfl⟩:=List.mem_map.mp h
   have:=ih hd
   simp;omega
def Wf(R:σ->σ->Bool):Nat->List σ->Nat
 |_,[]=>1
 |0,_::_=>0
 |k+1,x::xs=>((jX xs).map fun c=>if R x c.2.1 then Wf R k c.1*Wf R k c.2.2 else 0).sum
def W(R:σ->σ->Bool) (xs:List σ):Nat:=Wf R xs.length xs
theorem CA{R:σ->σ->Bool}:∀{k:Nat}{xs:List σ},xs.length<=k->Wf R k xs=W R xs:=by
 have key:∀(n k j:Nat) (xs:List σ),xs.length<=n->xs.length<=k->xs.length<=j->Wf R k xs=Wf R j xs:=by
  intro n
  induction n with
  |zero =>
   intro k j xs h _ _
   have:xs=[]:=List.eq_nil_of_length_eq_zero (by omega)
   subst this
   simp[Wf]
  |succ n ih =>
   intro k j xs h hk hj
   cases xs with
   |nil=>simp[Wf]
   |cons x xs =>
    simp only[List.length_cons]at h hk hj
    obtain⟨k,rfl⟩:∃m,k=m+1:=⟨k-1,by omega⟩
    obtain⟨j,rfl⟩:∃m,j=m+1:=⟨j-1,by omega⟩
    simp only[Wf]
    congr 1
    apply List.map_congr_left
    intro c hc
    have:=je hc
    rw[ih k j c.1 (by omega) (by omega) (by omega),ih k j c.2.2 (by omega) (by omega) (by omega)]
 intro k xs h
 exact key k k xs.length xs h h (Nat.le_refl _)
theorem qZ{R:σ->σ->Bool}:W R []=1:=by simp[W,Wf]
theorem pq{R:σ->σ->Bool}{x:σ}{xs:List σ}:W R (x::xs)=((jX xs).map fun c=>if R x c.2.1 then W R c.1*W R c.2.2 else 0).sum:=by
 show Wf R (xs.length+1) (x::xs)=_
 simp only[Wf]
 congr 1
 apply List.map_congr_left
 intro c hc
 have:=je hc
 rw[CA (by omega),CA (by omega)]
theorem rn{α:Type}{f:α->Nat}{m:Nat}:∀{l:List α},(l.map f).sum*m=(l.map fun x=>f x*m).sum
 |[]=>by simp
 |x::l=>by simp only[List.map_cons,List.sum_cons,Nat.add_mul,rn (l:=l)]
theorem sh{α:Type}{f:α->Nat}{m:Nat}:∀{l:List α},m*(l.map f).sum=(l.map fun x=>m*f x).sum
 |[]=>by simp
 |x::l=>by simp only[List.map_cons,List.sum_cons,Nat.mul_add,sh (l:=l)]
theorem ly{α:Type}{f g:α->Nat}:∀{l:List α},(l.map fun x=>f x+g x).sum=(l.map f).sum+(l.map g).sum
 |[]=>by simp
 |x::l=>by simp only[List.map_cons,List.sum_cons,ly (l:=l)];omega
theorem dw{α:Type}{f:α->Nat}:∀{l:List α},(∀x∈l,f x=0)->(l.map f).sum=0
 |[],_=>by simp
 |x::l,h=>by
  simp only[List.map_cons,List.sum_cons,h x (.head _),dw fun y hy=>h y (.tail _ hy)]
theorem rN{R:σ->σ->Bool}:∀(n:Nat) (xs:List σ),xs.length<=n->xs.length % 2=1->W R xs=0:=by
 intro n
 induction n with
 |zero=>intro xs h o;omega
 |succ n ih =>
  intro xs h o
  cases xs with
  |nil=>simp at o
  |cons x xs =>
   simp only[List.length_cons]at h o
   rw[pq]
   refine dw fun c hc=>?_
   have:=je hc
   by_cases e:c.1.length % 2=1
   ·rw[ih c.1 (by omega) e];simp
   ·rw[ih c.2.2 (by omega) (by omega)];simp
theorem c9{α:Type}{f:α->Nat}{m:Nat}:∀{l:List α},(∀x∈l,f x<=m)->(l.map f).sum<=l.length*m
 |[],_=>by simp
 |x::l,h=>by
  simp only[List.map_cons,List.sum_cons,List.length_cons,Nat.add_mul,Nat.one_mul]
  have:=c9 (l:=l) fun y hy=>h y (.tail _ hy)
  have:=h x (.head _)
  omega
theorem rM{xs:List σ}:(jX xs).length=xs.length:=by
 induction xs with
 |nil=>rfl
 |cons x xs ih=>simp[jX,ih]
theorem CK{R:σ->σ->Bool}:∀(n:Nat) (xs:List σ),xs.length<=n->n<=100->W R xs<=100 ^ xs.length:=by
 intro n
 induction n with
 |zero =>
  intro xs h _
  have:xs=[]:=List.eq_nil_of_length_eq_zero (by omega)
  subst this
  simp[qZ]
 |succ n ih =>
  intro xs h hn
  cases xs with
  |nil=>simp[qZ]
  |cons x xs =>
   simp only[List.length_cons]at h ⊢
   rw[pq]
   refine Nat.le_trans (c9 (m:=100 ^ xs.length) fun c hc=>?_) ?_
   ·have:=je hc
    by_cases e:R x c.2.1=true
    ·rw[if_pos e]
     refine Nat.le_trans (Nat.mul_le_mul (ih c.1 (by omega) (by omega)) (ih c.2.2 (by omega) (by omega))) ?_
     rw[<-Nat.pow_add]
     exact Nat.pow_le_pow_right (by decide) (by omega)
    ·rw[if_neg e];exact Nat.zero_le _
   ·rw[rM,Nat.pow_succ,Nat.mul_comm]
    exact Nat.mul_le_mul_left _ (by omega)
end
end
section
variable{P:Program}{w:World}{K:PySem.W.Frag}{mg:Str->Option Value}{base:Heap}
/-! ### all stretches from a place to another one,and how many drawings they have -/
theorem qE{α β:Type}{f:α->β->Nat}:∀{l:List α}{m:List β},(l.map fun a=>(m.map fun b=>f a b).sum).sum=(m.map fun b=>(l.map fun a=>f a b).sum).sum
 |[],m=>by simp[dw]
 |a::l,m=>by simp only[List.map_cons,List.sum_cons,qE (l:=l),<-ly]
theorem nk{α:Type}{f:α->Nat}:∀{l:List α},(l.map fun x=>((f x:Nat):Int)).sum=(((l.map f).sum:Nat):Int)
 |[]=>rfl
 |x::l=>by simp only[List.map_cons,List.sum_cons,nk (l:=l),Int.natCast_add]
theorem jE{α β:Type}{g:β->Nat}{f:α->List β}:∀{l:List α},((l.flatMap f).map g).sum=(l.map fun a=>((f a).map g).sum).sum
 |[]=>rfl
 |a::l=>by rw[List.flatMap_cons,List.map_append,List.sum_append,jE (l:=l)];rfl
theorem uT{α:Type} [DecidableEq α] {f:α->Nat}{p:α}:∀{A:List α},A.Nodup->p∈A->(A.map fun m=>if p=m then f m else 0).sum=f p
 |[],_,h=>by cases h
 |a::A,hn,h=>by
  rw[List.nodup_cons]at hn
  rw[List.map_cons,List.sum_cons]
  by_cases e:p=a
  ·subst e
   rw[if_pos rfl,dw fun m hm=>if_neg fun z=>hn.1 (by rw[z];exact hm)];rfl
  ·rw[if_neg e,uT hn.2 ((List.mem_cons.mp h).resolve_left e),Nat.zero_add]
theorem vK{α:Type}{f:α->Nat}:∀{B A:List α},B.Nodup->A.Nodup->(∀x∈B,x∈A)->(∀x∈A,x∉B->f x=0)->(A.map f).sum=(B.map f).sum
 |[],A,_,_,_,h=>by rw[dw fun x hx=>h x hx (by simp)];rfl
 |b::B,A,hB,hA,hs,h=>by
  obtain⟨A1,A2,rfl⟩:=List.append_of_mem (hs b (.head _))
  rw[List.nodup_cons]at hB
  have hA2:(b::(A1++A2)).Nodup:=(List.perm_middle.nodup_iff).mp hA
  rw[List.nodup_cons]at hA2
  have ih:=vK (f:=f) (B:=B) (A:=A1++A2) hB.2 hA2.2 (fun x hx=>by
   have h1:=hs x (.tail _ hx)
   have h2:x≠b:=fun z=>hB.1 (by rw[<-z];exact hx)
   simp only[List.mem_append,List.mem_cons]at h1 ⊢
   rcases h1 with h1|h1|h1
   ·exact .inl h1
   ·exact absurd h1 h2
   ·exact .inr h1) (fun x hx hb=>h x (by simp only[List.mem_append,List.mem_cons]at hx ⊢;rcases hx with q|q;exact .inl q;exact .inr (.inr q)) fun z=>by
    rcases List.mem_cons.mp z with q|q
    ·exact hA2.1 (by rw[<-q];exact hx)
    ·exact hb q)
  rw[List.map_append,List.map_cons,List.sum_append,List.sum_cons,List.map_cons,List.sum_cons,<-ih,List.map_append,List.sum_append]
  omega
section
variable{π σ:Type} [DecidableEq π]
structure Net(π σ:Type) where
 sg:π->Option σ
 nx:π->π
 bg:π->List π
def St(N:Net π σ):Nat->π->π->List (List σ)
 |0,_,_=>[]
 |f+1,p,q=>(if p=q then[[]]else[])++match N.sg p with
  |some x=>(St N f (N.nx p) q).map (x::·)
  |none=>(N.bg p).flatMap fun b=>St N f b q
structure jB(N:Net π σ) (A:List π) (rk:π->Nat):Prop where
 sg:∀p∈A,(N.sg p).isSome->N.nx p∈A/\rk (N.nx p)<rk p
 bg:∀p∈A,N.sg p=none->∀b∈N.bg p,b∈A/\rk b<rk p
variable{N:Net π σ}{A:List π}{rk:π->Nat}
theorem cG{α β:Type}{f g:α->List β}:∀{l:List α},(∀x∈l,f x=g x)->l.flatMap f=l.flatMap g
 |[],_=>rfl
 |x::l,h=>by rw[List.flatMap_cons,List.flatMap_cons,h x (.head _),cG fun y hy=>h y (.tail _ hy)]
theorem p7(F:jB N A rk):∀(f g:Nat) (p q:π),p∈A->rk p<f->rk p<g->St N f p q=St N g p q
 |0,_,_,_,_,h,_=>absurd h (Nat.not_lt_zero _)
 |_,0,_,_,_,_,h=>absurd h (Nat.not_lt_zero _)
 |f+1,g+1,p,q,hp,hf,hg=>by
  unfold St
  cases h:N.sg p with
  |some x =>
   obtain⟨h1,h2⟩:=F.sg p hp (by rw[h];rfl)
   simp only[]
   rw[p7 F f g (N.nx p) q h1 (by omega) (by omega)]
  |none =>
   simp only[]
   congr 1
   refine cG fun b hb=>?_
   obtain⟨h1,h2⟩:=F.bg p hp h b hb
   exact p7 F f g b q h1 (by omega) (by omega)
def Sts(N:Net π σ) (rk:π->Nat) (p q:π):List (List σ):=St N (rk p+1) p q
theorem zb(F:jB N A rk) {f:Nat}{p q:π}(hp:p∈A) (h:rk p<f):St N f p q=Sts N rk p q:=p7 F _ _ _ _ hp h (by omega)
theorem ft(F:jB N A rk) {p q:π}{x:σ}(hp:p∈A) (h:N.sg p=some x):Sts N rk p q=(if p=q then[[]]else[])++(Sts N rk (N.nx p) q).map (x::·):=by
 obtain⟨h1,h2⟩:=F.sg p hp (by rw[h];rfl)
 unfold Sts
 rw[St,h]
 simp only[]
 rw[zb F h1 h2];rfl
theorem ia(F:jB N A rk) {p q:π}(hp:p∈A) (h:N.sg p=none):Sts N rk p q=(if p=q then[[]]else[])++(N.bg p).flatMap fun b=>Sts N rk b q:=by
 unfold Sts
 rw[St,h]
 simp only[]
 congr 1
 refine cG fun b hb=>?_
 obtain⟨h1,h2⟩:=F.bg p hp h b hb
 rw[zb F h1 h2];rfl
theorem qm(F:jB N A rk) (hA:A.Nodup):∀(f:Nat) (p q:π) (G:List σ->σ->List σ->Nat),p∈A->rk p<f ->
  ((Sts N rk p q).map fun s=>((jX s).map fun c=>G c.1 c.2.1 c.2.2).sum).sum=(A.map fun m=>match N.sg m with|none=>0|some y=>((Sts N rk p m).map fun u=>((Sts N rk (N.nx m) q).map fun v=>G u y v).sum).sum).sum
 |0,_,_,_,_,h=>absurd h (Nat.not_lt_zero _)
 |f+1,p,q,G,hp,hf=>by
  cases h:N.sg p with
  |some x =>
   obtain⟨h1,h2⟩:=F.sg p hp (by rw[h];rfl)
   have ih:=qm F hA f (N.nx p) q (fun u=>G (x::u)) h1 (by omega)
   have e1:(A.map fun m=>match N.sg m with|none=>0|some y=>((Sts N rk p m).map fun u=>((Sts N rk (N.nx m) q).map fun v=>G u y v).sum).sum)=A.map fun m=>(if p=m then((Sts N rk (N.nx p) q).map fun v=>G [] x v).sum else 0)+match N.sg m with|none=>0|some y=>((Sts N rk (N.nx p) m).map fun u=>((Sts N rk (N.nx m) q).map fun v=>G (x::u) y v).sum).sum:=by
    refine List.map_congr_left fun m hm=>?_
    by_cases e:p=m
    ·subst e
     rw[if_pos rfl,h]
     simp only[]
     rw[ft F hp h,if_pos rfl,List.map_append,List.sum_append,List.map_map]
     simp[Function.comp_def]
    ·rw[if_neg e,Nat.zero_add]
     cases N.sg m with
     |none=>rfl
     |some y =>
      simp only[]
      rw[ft F hp h,if_neg e,List.nil_append,List.map_map];rfl
   rw[e1,ly,uT (f:=fun _=>((Sts N rk (N.nx p) q).map fun v=>G [] x v).sum) hA hp,<-ih,ft F hp h,List.map_append,List.sum_append,List.map_map]
   have e2:((if p=q then[([]:List σ)]else[]).map fun s=>((jX s).map fun c=>G c.1 c.2.1 c.2.2).sum).sum=0:=by
    by_cases e:p=q
    ·rw[if_pos e];rfl
    ·rw[if_neg e];rfl
   rw[e2,Nat.zero_add,<-ly]
   congr 1
   refine List.map_congr_left fun s _=>?_
   simp[jX,Function.comp_def]
  |none =>
   have e1:(A.map fun m=>match N.sg m with|none=>0|some y=>((Sts N rk p m).map fun u=>((Sts N rk (N.nx m) q).map fun v=>G u y v).sum).sum)=A.map fun m=>((N.bg p).map fun b=>match N.sg m with|none=>0|some y=>((Sts N rk b m).map fun u=>((Sts N rk (N.nx m) q).map fun v=>G u y v).sum).sum).sum:=by
    refine List.map_congr_left fun m hm=>?_
    cases hm':N.sg m with
    |none=>exact(dw fun _ _=>rfl).symm
    |some y =>
     have e:p≠m:=fun z=>by rw[<-z,h]at hm';cases hm'
     simp only[]
     rw[ia F hp h,if_neg e,List.nil_append,jE]
   rw[e1,qE,ia F hp h,List.map_append,List.sum_append]
   have e2:((if p=q then[([]:List σ)]else[]).map fun s=>((jX s).map fun c=>G c.1 c.2.1 c.2.2).sum).sum=0:=by
    by_cases e:p=q
    ·rw[if_pos e];rfl
    ·rw[if_neg e];rfl
   rw[e2,Nat.zero_add,jE]
   congr 1
   refine List.map_congr_left fun b hb=>?_
   obtain⟨h1,h2⟩:=F.bg p hp h b hb
   exact qm F hA f b q G h1 (by omega)
def cnt(R:σ->σ->Bool) (N:Net π σ) (rk:π->Nat) (p q:π):Nat:=((Sts N rk p q).map (W R)).sum
variable{R:σ->σ->Bool}
theorem xO(F:jB N A rk) {p q:π}(hp:p∈A) (h:N.sg p=none):cnt R N rk p q=(if p=q then 1 else 0)+((N.bg p).map fun b=>cnt R N rk b q).sum:=by
 unfold cnt
 rw[ia F hp h,List.map_append,List.sum_append,jE]
 congr 1
 by_cases e:p=q
 ·rw[if_pos e,if_pos e];simp[qZ]
 ·rw[if_neg e,if_neg e];rfl
theorem zm(F:jB N A rk) (hA:A.Nodup) {p q:π}{x:σ}(hp:p∈A) (h:N.sg p=some x):cnt R N rk p q=(if p=q then 1 else 0)+(A.map fun m=>if(N.sg m).elim false (R x)=true then cnt R N rk (N.nx p) m*cnt R N rk (N.nx m) q else 0).sum:=by
 obtain⟨h1,h2⟩:=F.sg p hp (by rw[h];rfl)
 have e0:cnt R N rk p q=(if p=q then 1 else 0)+((Sts N rk (N.nx p) q).map fun s=>W R (x::s)).sum:=by
  unfold cnt
  rw[ft F hp h,List.map_append,List.sum_append,List.map_map]
  congr 1
  by_cases e:p=q
  ·rw[if_pos e,if_pos e];simp[qZ]
  ·rw[if_neg e,if_neg e];rfl
 rw[e0]
 congr 1
 have e1:((Sts N rk (N.nx p) q).map fun s=>W R (x::s))=(Sts N rk (N.nx p) q).map fun s=>((jX s).map fun c=>(fun u y v=>if R x y=true then W R u*W R v else 0) c.1 c.2.1 c.2.2).sum:=List.map_congr_left fun s _=>pq
 rw[e1,qm F hA _ (N.nx p) q (fun u y v=>if R x y=true then W R u*W R v else 0) h1 (Nat.lt_succ_self _)]
 congr 1
 refine List.map_congr_left fun m _=>?_
 cases N.sg m with
 |none=>rfl
 |some y =>
  by_cases e:R x y=true
  ·rw[if_pos (show(some y).elim false (R x)=true from e)]
   unfold cnt
   rw[rn]
   show List.sum _=_
   congr 1
   refine List.map_congr_left fun u _=>?_
   rw[sh]
   congr 1
   exact List.map_congr_left fun v _=>by rw[if_pos e]
  ·rw[if_neg (show ¬ (some y).elim false (R x)=true from e)]
   exact dw fun u _=>dw fun v _=>by rw[if_neg e]
theorem tK:∀{f:Nat}{p q:π}{s:List σ},s∈St N f p q->s.length<=f
 |0,_,_,_,h=>by cases h
 |f+1,p,q,s,h=>by
  unfold St at h
  rcases List.mem_append.mp h with h|h
  ·split at h
   ·rw[List.mem_singleton.mp h];exact Nat.zero_le _
   ·cases h
  ·cases hx:N.sg p with
   |some x =>
    rw[hx]at h
    obtain⟨t,ht,rfl⟩:=List.mem_map.mp h
    have:=tK ht
    simp;omega
   |none =>
    rw[hx]at h
    obtain⟨b,hb,ht⟩:=List.mem_flatMap.mp h
    have:=tK ht
    omega
theorem t6{k:Nat}(hb:∀p,(N.bg p).length<=k):∀{f:Nat}{p q:π},(St N f p q).length<=(k+2) ^ f
 |0,_,_=>by simp[St]
 |f+1,p,q=>by
  unfold St
  rw[List.length_append]
  have h1:(if p=q then[([]:List σ)]else[]).length<=1:=by split<;>simp
  have hp:1<=(k+2) ^ f:=Nat.one_le_pow _ _ (by omega)
  have h3:(k+2) ^ (f+1)=(k+1)*(k+2) ^ f+(k+2) ^ f:=by rw[Nat.pow_succ,Nat.mul_comm,Nat.succ_mul]
  cases hx:N.sg p with
  |some x =>
   simp only[]
   rw[List.length_map]
   have:=t6 hb (f:=f) (p:=N.nx p) (q:=q)
   have h4:(k+2) ^ f<=(k+1)*(k+2) ^ f:=Nat.le_mul_of_pos_left _ (by omega)
   omega
  |none =>
   simp only[]
   rw[List.length_flatMap]
   have h5:=c9 (f:=fun b=>(St N f b q).length) (m:=(k+2) ^ f) (l:=N.bg p) fun b _=>t6 hb
   have h6:=Nat.mul_le_mul_right ((k+2) ^ f) (hb p)
   rw[Nat.succ_mul]at h3
   omega
theorem A6{k f:Nat}(hb:∀p,(N.bg p).length<=k) {p q:π}(hr:rk p<f) (hf:f<=100):cnt R N rk p q<=(k+2) ^ f*100 ^ f:=by
 unfold cnt
 refine Nat.le_trans (c9 (m:=100 ^ f) fun s hs=>?_) ?_
 ·have h1:=tK hs
  exact Nat.le_trans (CK 100 s (by omega) (Nat.le_refl _)) (Nat.pow_le_pow_right (by decide) (by omega))
 ·exact Nat.mul_le_mul_right _ (Nat.le_trans (t6 hb) (Nat.pow_le_pow_right (by omega) (by omega)))
end
end
section
variable{P:Program}{w:World}{K:PySem.W.Frag}{mg:Str->Option Value}{base:Heap}
/-! ### the chart's counts -/
def rel(ord:List (Str×Str)) (x y:Str×Int):Bool:=x.2+1==y.2&&lB ord x.2 x.1 y.1
def bB(kd:KD):Net Pl (Str×Int):=⟨cm kd,nxt,bA kd⟩
structure gU(kd:KD) (N:Int) (K B:Nat):Prop where
 up:kd.Pairwise fun a b=>a.1<b.1
 bd:∀q∈kd,-1<=q.1/\q.1<=N/\q.2.length<=K/\∀r∈q.2,r.length<=B
def fu(N:Int) (B:Nat) (p:Pl):Nat:=((N+1-p.1)*((B:Int)+1)-p.2.2).toNat
def plt(p q:Pl):Prop:=p.1<q.1∨(p.1=q.1/\(p.2.1<q.2.1∨(p.2.1=q.2.1/\p.2.2<q.2.2)))
theorem ik{p q r:Pl}(h:plt p q) (h':plt q r):plt p r:=by unfold plt at *;omega
theorem pf{p:Pl}(h:plt p p):False:=by unfold plt at h;omega
theorem iq{p:Pl}:plt p (nxt p):=by unfold plt nxt;dsimp only;omega
theorem bH{kd:KD}{p:Pl}:p∈ar kd↔∃q∈kd,∃(i:Nat) (row:Row) (j:Nat),q.2[i]?=some row/\j<=row.length/\p=(q.1,(i:Int),(j:Int)):=by
 unfold ar fV gb
 simp only[List.mem_flatMap,List.mem_map,List.mem_range]
 constructor
 ·rintro⟨q,hq,r,hr,j,hj,rfl⟩
  have h:=List.mem_zipIdx_iff_getElem?.mp hr
  exact⟨q,hq,r.2,r.1,j,h,by omega,rfl⟩
 ·rintro⟨q,hq,i,row,j,hr,hj,rfl⟩
  exact⟨q,hq,(row,i),List.mem_zipIdx_iff_getElem?.mpr hr,j,Nat.lt_succ_of_le hj,rfl⟩
theorem vF{n:Nat}(h:n<=(2 ^ 4) ^ 100*(2 ^ 7) ^ 100):Few (n:Int):=by
 unfold Few
 rw[intBits_le_iff,Int.natAbs_natCast]
 refine Nat.lt_of_le_of_lt h ?_
 rw[<-Nat.pow_mul,<-Nat.pow_mul,<-Nat.pow_add]
 exact Nat.pow_lt_pow_right (by decide) (by decide)
section
variable{kd:KD}{N:Int}{K B:Nat}
theorem lu(h:kd.Pairwise fun a b=>a.1<b.1) {q:Int×List Row}(hq:q∈kd):look kd q.1=some q.2:=by
 unfold look
 induction kd with
 |nil=>cases hq
 |cons a l ih =>
  rw[List.pairwise_cons]at h
  rcases List.mem_cons.mp hq with e|e
  ·rw[e,List.find?_cons_of_pos (by simp)];rfl
  ·have:=h.1 q e
   rw[List.find?_cons_of_neg (by simp;omega)]
   exact ih h.2 e
theorem gU.sgn(ok:gU kd N K B) {q:Int×List Row}(hq:q∈kd) {i j:Nat}{row:Row}(hr:q.2[i]?=some row):cm kd (q.1,(i:Int),(j:Int))=row[j]? :=
 q0 rfl (lu ok.up hq) hr
theorem gU.valid(ok:gU kd N K B) {p:Pl}(hp:p∈ar kd):oj kd p:=by
 obtain⟨q,hq,i,row,j,hr,hj,rfl⟩:=bH.mp hp
 exact⟨q.2,row,i,j,rfl,lu ok.up hq,hr⟩
theorem ni{p b:Pl}(h:b∈bA kd p):∃rows,(p.1+1,rows)∈kd/\∃(k:Nat) (row:Row),rows[k]?=some row/\b=(p.1+1,(k:Int),0):=by
 unfold bA at h
 obtain⟨k,hk,rfl⟩:=List.mem_map.mp h
 cases hl:look kd (p.1+1)with
 |none=>rw[hl]at hk;simp at hk
 |some rows =>
  rw[hl]at hk
  have hk':k<rows.length:=by simpa using hk
  exact⟨rows,jA hl,k,rows[k],by simp[hk'],rfl⟩
theorem gU.falls(ok:gU kd N K B):jB (bB kd) (ar kd) (fu N B) where
 sg:=by
  intro p hp hs
  obtain⟨q,hq,i,row,j,hr,hj,rfl⟩:=bH.mp hp
  have hs':(row[j]?).isSome:=by rw[<-ok.sgn hq hr];exact hs
  have hj':j<row.length:=by simpa using hs'
  refine⟨bH.mpr ⟨q,hq,i,row,j+1,hr,hj',rfl⟩,?_⟩
  obtain⟨_,h1,_,h2⟩:=ok.bd q hq
  have h3:=h2 row (List.mem_of_getElem? hr)
  show((N+1-q.1)*((B:Int)+1)-((j:Int)+1)).toNat<((N+1-q.1)*((B:Int)+1)-(j:Int)).toNat
  have h4:(1:Int)*((B:Int)+1)<=(N+1-q.1)*((B:Int)+1):=Int.mul_le_mul_of_nonneg_right (by omega) (by omega)
  omega
 bg:=by
  intro p hp hs b hb
  obtain⟨q,hq,i,row,j,hr,hj,rfl⟩:=bH.mp hp
  obtain⟨rows,hm,k,row',hk,rfl⟩:=ni hb
  refine⟨bH.mpr ⟨_,hm,k,row',0,hk,Nat.zero_le _,rfl⟩,?_⟩
  obtain⟨_,_,_,h2⟩:=ok.bd q hq
  obtain⟨_,h1,_,_⟩:=ok.bd _ hm
  have h3:=h2 row (List.mem_of_getElem? hr)
  show((N+1-(q.1+1))*((B:Int)+1)-0).toNat<((N+1-q.1)*((B:Int)+1)-(j:Int)).toNat
  have h5:(N+1-q.1)*((B:Int)+1)=(N+1-(q.1+1))*((B:Int)+1)+((B:Int)+1):=by
   rw[show N+1-q.1=(N+1-(q.1+1))+1 by omega,Int.add_mul,Int.one_mul]
  have h6:0<=(N+1-(q.1+1))*((B:Int)+1):=Int.mul_nonneg (by simp only[]at h1;omega) (by omega)
  omega
theorem gU.bgl(ok:gU kd N K B) (p:Pl):((bB kd).bg p).length<=K:=by
 show(bA kd p).length<=K
 unfold bA
 rw[List.length_map,List.length_range]
 cases h:look kd (p.1+1)with
 |none=>exact Nat.zero_le _
 |some rows=>exact(ok.bd _ (jA h)).2.2.1
theorem gU.rk(ok:gU kd N K B) {p:Pl}(hp:p∈ar kd):(fu N B p:Int)<=(N+2)*((B:Int)+1):=by
 obtain⟨q,hq,i,row,j,hr,hj,rfl⟩:=bH.mp hp
 obtain⟨h0,h1,_,h2⟩:=ok.bd q hq
 have h4:(N+1-q.1)*((B:Int)+1)<=(N+2)*((B:Int)+1):=Int.mul_le_mul_of_nonneg_right (by omega) (by omega)
 have h6:0<=(N+1-q.1)*((B:Int)+1):=Int.mul_nonneg (by omega) (by omega)
 show((((N+1-q.1)*((B:Int)+1)-(j:Int)).toNat:Nat):Int)<=_
 omega
theorem jZ(h:kd.Pairwise fun a b=>a.1<b.1):(ar kd).Pairwise plt:=by
 unfold ar
 rw[List.pairwise_flatMap]
 constructor
 ·intro q _
  unfold fV
  rw[List.pairwise_flatMap]
  constructor
  ·intro r _
   unfold gb
   rw[List.pairwise_map]
   refine List.Pairwise.imp ?_ List.pairwise_lt_range
   intro a b hab
   unfold plt;dsimp only;omega
  ·rw[List.pairwise_iff_getElem]
   intro a b ha hb hab x hx y hy
   unfold gb at hx hy
   obtain⟨j,_,rfl⟩:=List.mem_map.mp hx
   obtain⟨k,_,rfl⟩:=List.mem_map.mp hy
   simp only[List.getElem_zipIdx]
   unfold plt;dsimp only;omega
 ·refine List.Pairwise.imp ?_ h
  intro a b hab x hx y hy
  unfold fV gb at hx hy
  simp only[List.mem_flatMap,List.mem_map]at hx hy
  obtain⟨_,_,_,_,rfl⟩:=hx
  obtain⟨_,_,_,_,rfl⟩:=hy
  exact .inl hab
theorem qt(h:kd.Pairwise fun a b=>a.1<b.1):(ar kd).Nodup :=
 List.Pairwise.imp (fun {a b} (hab:plt a b)=>fun e=>pf (by rw[e]at hab;exact hab)) (jZ h)
theorem nr{l:List Pl}(h:l.Pairwise plt) {i:Nat}{p q:Pl}(hi:l.reverse[i]?=some p) (hq:q∈l) (hpq:plt p q):q∈l.reverse.take i:=by
 have hr:l.reverse.Pairwise fun a b=>plt b a:=List.pairwise_reverse.mpr h
 obtain⟨hl,e⟩:=List.getElem?_eq_some_iff.mp hi
 rw[<-List.mem_reverse,<-List.take_append_drop i l.reverse,List.mem_append]at hq
 rcases hq with hq|hq
 ·exact hq
 ·rw[List.drop_eq_getElem_cons hl]at hq
  rcases List.mem_cons.mp hq with c|c
  ·rw[e]at c;rw[c]at hpq;exact(pf hpq).elim
  ·have h2:=hr.sublist (List.drop_sublist i _)
   rw[List.drop_eq_getElem_cons hl,List.pairwise_cons,e]at h2
   exact(pf (ik hpq (h2.1 q c))).elim
theorem vA{α:Type}{p m:Pl}{v:α}:∀{l:List (Pl×α)},lkP (fh l p v) m=if p=m then some v else lkP l m:=by
 intro l
 have key:∀l:List (Pl×α),lkP (l.map fun z=>if z.1=p then(z.1,v)else z) m=if p=m then(lkP l m).map fun _=>v else lkP l m:=by
  intro l
  induction l with
  |nil=>simp[lkP]
  |cons z l ih =>
   unfold lkP at ih ⊢
   rw[List.map_cons]
   by_cases h1:z.1=p
   ·rw[if_pos h1]
    by_cases h2:p=m
    ·rw[if_pos h2,List.find?_cons_of_pos (by simp[h1,h2]),List.find?_cons_of_pos (by simp[h1,h2])];rfl
    ·rw[List.find?_cons_of_neg (by simp[h1,h2]),List.find?_cons_of_neg (by simp[h1,h2]),ih]
   ·rw[if_neg h1]
    by_cases h2:z.1=m
    ·rw[List.find?_cons_of_pos (by simp[h2]),List.find?_cons_of_pos (by simp[h2])]
     rw[if_neg (fun e=>h1 (by rw[h2,e]))]
    ·rw[List.find?_cons_of_neg (by simp[h2]),List.find?_cons_of_neg (by simp[h2]),ih]
 have find:∀l:List (Pl×α),(l.any fun z=>decide (z.1=p))=(lkP l p).isSome:=by
  intro l
  induction l with
  |nil=>rfl
  |cons z l ih =>
   unfold lkP at ih ⊢
   rw[List.any_cons,ih]
   by_cases h:z.1=p
   ·rw[List.find?_cons_of_pos (by simp[h])];simp[h]
   ·rw[List.find?_cons_of_neg (by simp[h])];simp[h]
 unfold fh
 rw[find]
 split
 ·rename_i h
  rw[key]
  by_cases e:p=m
  ·subst e
   obtain⟨u,hu⟩:=Option.isSome_iff_exists.mp h
   rw[if_pos rfl,if_pos rfl,hu];rfl
  ·rw[if_neg e,if_neg e]
 ·rename_i h
  have h':lkP l p=none:=by simpa using h
  unfold lkP at h' ⊢
  rw[List.find?_append]
  by_cases e:p=m
  ·subst e
   rw[if_pos rfl,Option.map_eq_none_iff.mp h']
   simp
  ·rw[if_neg e]
   cases List.find? (fun z=>decide (z.1=m)) l with
   |some u=>rfl
   |none=>simp[e]
theorem rL{α:Type}{p:Pl}{v:α}{l:List (Pl×α)}:(fh l p v).map (·.1)=if p∈l.map (·.1)then l.map (·.1)else l.map (·.1)++[p]:=by
 have h:(l.any fun z=>decide (z.1=p))=true↔p∈l.map (·.1):=by
  rw[List.any_eq_true,List.mem_map]
  simp only[decide_eq_true_eq]
 unfold fh
 by_cases c:(l.any fun z=>decide (z.1=p))=true
 ·rw[if_pos c,if_pos (h.mp c),List.map_map]
  refine List.map_congr_left fun z _=>?_
  simp only[Function.comp_def]
  split<;>rfl
 ·rw[if_neg c,if_neg (fun z=>c (h.mpr z)),List.map_append];rfl
theorem wC{α:Type}{p:Pl}{v:α}{l:List (Pl×α)}(h:(l.map (·.1)).Nodup):((fh l p v).map (·.1)).Nodup:=by
 rw[rL]
 split
 ·exact h
 ·rename_i c
  rw[List.nodup_append]
  exact⟨h,by simp,fun a ha b hb e=>c (by rw[List.mem_singleton.mp hb]at e;rw[<-e];exact ha)⟩
theorem jx{α:Type}{p m:Pl}{v:α}{l:List (Pl×α)}(h:m∈(fh l p v).map (·.1)):m=p∨m∈l.map (·.1):=by
 rw[rL]at h
 split at h
 ·exact .inr h
 ·rcases List.mem_append.mp h with h|h
  ·exact .inr h
  ·exact .inl (List.mem_singleton.mp h)
theorem B7{l:List (Pl×Int)}{e m:Pl}{v:Int}:(lkP (Ae l e v) m).getD 0=(lkP l m).getD 0+if e=m then v else 0:=by
 show(lkP (fh l e ((lkP l e).getD 0+v)) m).getD 0=_
 rw[vA]
 by_cases c:e=m
 ·rw[if_pos c,if_pos c,c];rfl
 ·rw[if_neg c,if_neg c,Int.add_zero]
theorem js{α:Type}{m:Pl}:∀{l:List (Pl×α)},m∉l.map (·.1)->lkP l m=none
 |[],_=>rfl
 |z::l,h=>by
  unfold lkP
  rw[List.find?_cons_of_neg (by simp;exact fun e=>h (by rw[<-e];exact .head _))]
  exact js fun q=>h (.tail _ q)
theorem lW{α:Type}{m:Pl}{z:Pl×α}{l:List (Pl×α)}:lkP (z::l) m=if z.1=m then some z.2 else lkP l m:=by
 unfold lkP
 by_cases h:z.1=m
 ·rw[if_pos h,List.find?_cons_of_pos (by simp[h])];rfl
 ·rw[if_neg h,List.find?_cons_of_neg (by simp[h])]
theorem nj{i:Int}{m:Pl}:∀{more l:List (Pl×Int)},(more.map (·.1)).Nodup->(lkP (dF i l more) m).getD 0=(lkP l m).getD 0+i*(lkP more m).getD 0
 |[],l,_=>by show _=_+i*0;rw[Int.mul_zero,Int.add_zero];rfl
 |z::more,l,h=>by
  rw[List.map_cons,List.nodup_cons]at h
  show(lkP (dF i (Ae l z.1 (i*z.2)) more) m).getD 0=_
  rw[nj h.2,B7,lW]
  by_cases c:z.1=m
  ·rw[if_pos c,if_pos c,js (l:=more) (by rw[<-c];exact h.1)]
   show _+i*0=_+i*z.2
   rw[Int.mul_zero,Int.add_zero]
  ·rw[if_neg c,if_neg c,Int.add_zero]
theorem kC{i:Int}{Ok:Pl->Prop}:∀{more l:List (Pl×Int)},(∀z∈more,Ok z.1)->(l.map (·.1)).Nodup/\(∀z∈l,Ok z.1)->((dF i l more).map (·.1)).Nodup/\∀z∈dF i l more,Ok z.1
 |[],l,_,h=>h
 |z::more,l,hm,h=>by
  show((dF i (Ae l z.1 (i*z.2)) more).map (·.1)).Nodup/\_
  refine kC (fun y hy=>hm y (.tail _ hy)) ⟨wC h.1,fun y hy=>?_⟩
  rcases jx (List.mem_map.mpr ⟨y,hy,rfl⟩)with e|e
  ·rw[e];exact hm z (.head _)
  ·obtain⟨u,hu,e⟩:=List.mem_map.mp e
   have:=h.2 u hu
   rw[<-e];exact this
def nc(ord:List (Str×Str)) (kd:KD) (N:Int) (B:Nat) (p:Pl) (l:List (Pl×Int)):Prop :=
 (l.map (·.1)).Nodup/\(∀z∈l,z.1∈ar kd/\(z.1=p∨plt p z.1))/\∀m,(lkP l m).getD 0=(cnt (rel ord) (bB kd) (fu N B) p m:Int)
theorem ox{ord:List (Str×Str)}{p:Pl}{Ok:Pl->Prop}{cn:List (Pl×List (Pl×Int))}{g:Pl->Pl->Nat}(m:Pl):∀{ss:List jK}{a:List (Pl×Int)},
  (∀s∈ss,∃l,lkP cn s.2.1=some l/\(l.map (·.1)).Nodup/\(∀z∈l,Ok z.1)/\(lkP l m).getD 0=(g s.2.1 m:Int))->(a.map (·.1)).Nodup/\(∀z∈a,Ok z.1) ->
  let r:=ss.foldl (fun a s=>dF s.2.2 a ((lkP cn s.2.1).getD [])) a
  ((r.map (·.1)).Nodup/\∀z∈r,Ok z.1)/\(lkP r m).getD 0=(lkP a m).getD 0+(ss.map fun s=>s.2.2*(g s.2.1 m:Int)).sum
 |[],a,_,h=>⟨h,by simp⟩
 |s::ss,a,hs,h=>by
  obtain⟨l,h1,h2,h3,h4⟩:=hs s (.head _)
  simp only[List.foldl_cons,List.map_cons,List.sum_cons]
  have hk:=kC (i:=s.2.2) (Ok:=Ok) (more:=l) h3 h
  have e:(lkP cn s.2.1).getD []=l:=by rw[h1];rfl
  rw[e]
  obtain⟨q1,q2⟩:=ox (ord:=ord) (p:=p) (Ok:=Ok) (g:=g) m (a:=dF s.2.2 a l) (fun t ht=>hs t (.tail _ ht)) hk
  refine⟨q1,?_⟩
  rw[q2,nj h2,h4,Int.add_assoc]
theorem pD{α:Type}:∀{l:List (Pl×α)}{z:Pl×α},(l.map (·.1)).Nodup->z∈l->lkP l z.1=some z.2
 |y::l,z,hn,h=>by
  rw[List.map_cons,List.nodup_cons]at hn
  rw[lW]
  rcases List.mem_cons.mp h with e|e
  ·rw[e,if_pos rfl]
  ·rw[if_neg fun c=>hn.1 (by rw[c];exact List.mem_map.mpr ⟨z,e,rfl⟩)]
   exact pD hn.2 e
theorem vD(ok:gU kd N K B) {ord:List (Str×Str)}{cn:List (Pl×List (Pl×Int))}{p:Pl}(hp:p∈ar kd) (hcn:∀q∈ar kd,plt p q->∃l,lkP cn q=some l/\nc ord kd N B q l) :
  let ss:=bu ord kd p ((lkP cn (nxt p)).getD [])
  (∀s∈ss,s.2.1∈ar kd/\plt p s.2.1/\(s.2.2=1∨∃m,s.2.2=(cnt (rel ord) (bB kd) (fu N B) (nxt p) m:Int)/\nxt p∈ar kd))/\ss.length<=K+(ar kd).length/\nc ord kd N B p (bD p ss cn):=by
 have F:=ok.falls
 have hnd:=qt ok.up
 intro ss
 have main:(∀s∈ss,s.2.1∈ar kd/\plt p s.2.1/\(s.2.2=1∨∃m,s.2.2=(cnt (rel ord) (bB kd) (fu N B) (nxt p) m:Int)/\nxt p∈ar kd))/\ss.length<=K+(ar kd).length /\
   ∀m,(if p=m then(1:Int)else 0)+(ss.map fun s=>s.2.2*(cnt (rel ord) (bB kd) (fu N B) s.2.1 m:Int)).sum=(cnt (rel ord) (bB kd) (fu N B) p m:Int):=by
  cases hx:cm kd p with
  |none =>
   have e:ss=(bA kd p).map fun b=>(none,b,1):=by
    show bu _ _ _ _=_
    unfold bu;rw[hx]
   rw[e]
   refine⟨fun s hs=>?_,?_,fun m=>?_⟩
   ·obtain⟨b,hb,rfl⟩:=List.mem_map.mp hs
    obtain⟨h1,_⟩:=F.bg p hp hx b hb
    refine⟨h1,?_,.inl rfl⟩
    obtain⟨rows,_,k,row,_,rfl⟩:=ni hb
    exact .inl (by show p.1<p.1+1;omega)
   ·rw[List.length_map];have:=ok.bgl p;show(bA kd p).length<=_;exact Nat.le_trans this (by omega)
   ·rw[xO F hp hx,List.map_map,Int.natCast_add,<-nk]
    congr 1
    ·by_cases c:p=m
     ·rw[if_pos c,if_pos c];rfl
     ·rw[if_neg c,if_neg c];rfl
    ·show _=((bA kd p).map _).sum
     congr 1
     refine List.map_congr_left fun b _=>?_
     show(1:Int)*_=_
     rw[Int.one_mul]
  |some x =>
   obtain⟨hn,hrk⟩:=F.sg p hp (by show(cm kd p).isSome=true;rw[hx];rfl)
   obtain⟨l0,hl0,k1,k2,k3⟩:=hcn (nxt p) hn iq
   have e:ss=(l0.filter fun z=>ff ord x (cm kd z.1)).map fun z=>(some z.1,nxt z.1,z.2):=by
    show bu _ _ _ _=_
    unfold bu;rw[hx,hl0];rfl
   have hz2:∀z∈l0,z.2=(cnt (rel ord) (bB kd) (fu N B) (nxt p) z.1:Int):=fun z hz=>by
    rw[<-k3 z.1,pD k1 hz];rfl
   rw[e]
   refine⟨fun s hs=>?_,?_,fun m=>?_⟩
   ·obtain⟨z,hz,rfl⟩:=List.mem_map.mp hs
    obtain⟨hz1,hj⟩:=List.mem_filter.mp hz
    obtain⟨hzA,hzp⟩:=k2 z hz1
    have hsome:(cm kd z.1).isSome:=by
     cases h:cm kd z.1 with
     |none=>rw[h]at hj;cases hj
     |some _=>rfl
    obtain⟨h1,_⟩:=F.sg z.1 hzA hsome
    refine⟨h1,?_,.inr ⟨z.1,hz2 z hz1,hn⟩⟩
    have h2:plt p z.1:=by
     rcases hzp with h|h
     ·rw[h];exact iq
     ·exact ik iq h
    exact ik h2 iq
   ·rw[List.length_map]
    refine Nat.le_trans (List.length_filter_le _ _) ?_
    have:=cL (l0.map (·.1)) (ar kd) k1 fun y hy=>by
     obtain⟨z,hz,rfl⟩:=List.mem_map.mp hy
     exact(k2 z hz).1
    rw[List.length_map]at this
    omega
   ·rw[zm F hnd hp hx,List.map_map,Int.natCast_add]
    congr 1
    ·by_cases c:p=m
     ·rw[if_pos c,if_pos c];rfl
     ·rw[if_neg c,if_neg c];rfl
    ·rw[vK (B:=l0.map (·.1)) k1 hnd (fun y hy=>by
      obtain⟨z,hz,rfl⟩:=List.mem_map.mp hy
      exact(k2 z hz).1) (fun y _ hy=>by
      have h0:cnt (rel ord) (bB kd) (fu N B) ((bB kd).nx p) y=0:=by
       have:=k3 y
       rw[js hy]at this
       exact(Int.ofNat.inj this).symm
      rw[h0,Nat.zero_mul,ite_self]),List.map_map,<-nk]
     have e2:(l0.map fun z=>(((fun m'=>if((bB kd).sg m').elim false (rel ord x)=true then cnt (rel ord) (bB kd) (fu N B) ((bB kd).nx p) m'*cnt (rel ord) (bB kd) (fu N B) ((bB kd).nx m') m else 0)∘fun z:Pl×Int=>z.1) z:Int))=l0.map fun z=>if ff ord x (cm kd z.1)=true then z.2*(cnt (rel ord) (bB kd) (fu N B) (nxt z.1) m:Int)else 0:=by
      refine List.map_congr_left fun z hz=>?_
      simp only[Function.comp_def]
      by_cases c:ff ord x (cm kd z.1)=true
      ·rw[if_pos c,if_pos (show((bB kd).sg z.1).elim false (rel ord x)=true from c),Int.natCast_mul,hz2 z hz];rfl
      ·rw[if_neg c,if_neg (show ¬ ((bB kd).sg z.1).elim false (rel ord x)=true from c)];rfl
     rw[e2]
     clear e2 e hz2 k3 k2 k1 hl0
     induction l0 with
     |nil=>rfl
     |cons z l ih =>
      cases c:ff ord x (cm kd z.1)with
      |true=>rw[List.filter_cons_of_pos (p:=fun z:Pl×Int=>ff ord x (cm kd z.1)) c,List.map_cons,List.sum_cons,List.map_cons,List.sum_cons,if_pos c,ih];rfl
      |false=>rw[List.filter_cons_of_neg (p:=fun z:Pl×Int=>ff ord x (cm kd z.1)) (by rw[c];simp),List.map_cons,List.sum_cons,ih,if_neg (by rw[c];simp),Int.zero_add]
 obtain⟨m1,m2,m3⟩:=main
 refine⟨m1,m2,?_⟩
 have ini:(([(p,1)]:List (Pl×Int)).map (·.1)).Nodup/\∀z∈[(p,(1:Int))],z.1∈ar kd/\(z.1=p∨plt p z.1):=⟨by simp,fun z hz=>by rw[List.mem_singleton.mp hz];exact⟨hp,.inl rfl⟩⟩
 have hc:=fun m=>ox (ord:=ord) (p:=p) (Ok:=fun q=>q∈ar kd/\(q=p∨plt p q)) (cn:=cn) (g:=cnt (rel ord) (bB kd) (fu N B)) m (ss:=ss) (a:=[(p,1)]) (fun s hs=>by
  obtain⟨h1,h2,_⟩:=m1 s hs
  obtain⟨l,k0,k1,k2,k3⟩:=hcn _ h1 h2
  refine⟨l,k0,k1,fun z hz=>⟨(k2 z hz).1,.inr ?_⟩,k3 m⟩
  rcases(k2 z hz).2 with e|e
  ·rw[e];exact h2
  ·exact ik h2 e) ini
 refine⟨(hc p).1.1,(hc p).1.2,fun m=>?_⟩
 rw[<-m3 m]
 refine(hc m).2.trans ?_
 congr 1
 rw[lW]
 by_cases c:p=m
 ·rw[if_pos c,if_pos c];rfl
 ·rw[if_neg c,if_neg c];rfl
theorem zp(ok:gU kd N K B) {ord:List (Str×Str)}:∀(i:Nat),i<=(ar kd).length->∀q∈(ar kd).reverse.take i,∃l,lkP (cD ord kd ((ar kd).reverse.take i)).2 q=some l/\nc ord kd N B q l
 |0,_,q,h=>by rw[List.take_zero]at h;cases h
 |i+1,hi,q,h=>by
  have hl:i<(ar kd).reverse.length:=by rw[List.length_reverse];omega
  have hg:(ar kd).reverse[i]?=some (ar kd).reverse[i]:=List.getElem?_eq_getElem hl
  generalize (ar kd).reverse[i]=p at hg
  have hp:p∈ar kd:=List.mem_reverse.mp (List.mem_of_getElem? hg)
  have ih:=zp ok (ord:=ord) i (by omega)
  have hs:=vD ok (ord:=ord) (cn:=(cD ord kd ((ar kd).reverse.take i)).2) hp fun q hq hpq=>ih q (nr (jZ ok.up) hg hq hpq)
  have e:cD ord kd ((ar kd).reverse.take (i+1))=i7 ord kd (cD ord kd ((ar kd).reverse.take i)) p:=by
   rw[List.take_add_one,hg]
   unfold cD
   rw[List.foldl_append];rfl
  rw[e]
  have e2:(i7 ord kd (cD ord kd ((ar kd).reverse.take i)) p).2=fh (cD ord kd ((ar kd).reverse.take i)).2 p (bD p (bu ord kd p ((lkP (cD ord kd ((ar kd).reverse.take i)).2 (nxt p)).getD [])) (cD ord kd ((ar kd).reverse.take i)).2):=rfl
  rw[e2,vA]
  by_cases c:p=q
  ·rw[if_pos c]
   subst c
   exact⟨_,rfl,hs.2.2⟩
  ·rw[if_neg c]
   refine ih q ?_
   rw[List.take_add_one,hg]at h
   rcases List.mem_append.mp h with h|h
   ·exact h
   ·exact absurd (by simpa using h:q=p).symm c
theorem qL{ord:List (Str×Str)}{m:Pl}:∀(ps:List Pl) (S:ChS),m∈(ps.foldl (i7 ord kd) S).2.map (·.1)->m∈ps∨m∈S.2.map (·.1)
 |[],S,h=>.inr h
 |p::ps,S,h=>by
  rcases qL ps (i7 ord kd S p) h with h|h
  ·exact .inl (.tail _ h)
  ·rcases jx h with e|e
   ·rw[e];exact .inl (.head _)
   ·exact .inr e
theorem uf(ok:gU kd N K B):(ar kd).length<=kd.length*(K*(B+1)):=by
 unfold ar
 rw[List.length_flatMap]
 refine c9 fun q hq=>?_
 obtain⟨_,_,h1,h2⟩:=ok.bd q hq
 unfold fV
 rw[List.length_flatMap]
 refine Nat.le_trans (c9 (m:=B+1) fun r hr=>?_) ?_
 ·unfold gb
  rw[List.length_map,List.length_range]
  have:=h2 r.1 (List.fst_mem_of_mem_zipIdx hr)
  omega
 ·rw[List.length_zipIdx]
  exact Nat.mul_le_mul_right _ h1
theorem uK(ok:gU kd N K B) (hK:K<=8) (hR:(N+2)*((B:Int)+1)<100) {ord:List (Str×Str)}{p m:Pl}(hp:p∈ar kd):Few (cnt (rel ord) (bB kd) (fu N B) p m:Int):=by
 have h1:=ok.rk hp
 have h2:=A6 (R:=rel ord) (rk:=fu N B) (k:=K) (f:=100) ok.bgl (p:=p) (q:=m) (by omega) (Nat.le_refl _)
 refine vF (Nat.le_trans h2 (Nat.mul_le_mul (Nat.pow_le_pow_left (show K+2<=2 ^ 4 by omega) _) (Nat.pow_le_pow_left (show 100<=2 ^ 7 by decide) _)))
theorem yT(ok:gU kd N K B) (hK:K<=8) (hR:(N+2)*((B:Int)+1)<100) (hl:kd.length*(K*(B+1))<=900) {ord:List (Str×Str)}(ho:ord.length<=500) {rows:List Row}(hN:(N,rows)∈kd) :
  B0 ord kd N/\∀p∈ar kd,∃l,lkP (cD ord kd (ar kd).reverse).2 p=some l/\nc ord kd N B p l:=by
 have hA:(ar kd).length<=900:=Nat.le_trans (uf ok) hl
 have hr:=zp ok (ord:=ord)
 refine⟨⟨ho,fun q hq=>Nat.le_trans (ok.bd q hq).2.2.1 (by omega),?_,by omega,fun i p hi=>?_⟩,fun p hp=>?_⟩
 ·have hk:N∈kd.map (·.1):=List.mem_map.mpr ⟨_,hN,rfl⟩
  cases hm:kd.map (·.1)with
  |nil=>rw[hm]at hk;cases hk
  |cons a l =>
   obtain⟨h1,h2⟩:=j3 l a
   show some _=_
   congr 1
   rw[<-hm]at h1 h2
   have h3:=h1 N hk
   obtain⟨q,hq,e⟩:=List.mem_map.mp h2
   have h4:=(ok.bd q hq).2.1
   omega
 ·have hil:i<(ar kd).length:=by
   have:=(List.getElem?_eq_some_iff.mp hi).1
   rwa [List.length_reverse]at this
  have hp:p∈ar kd:=List.mem_reverse.mp (List.mem_of_getElem? hi)
  have hcn:∀q∈ar kd,plt p q->∃l,lkP (cD ord kd ((ar kd).reverse.take i)).2 q=some l/\nc ord kd N B q l:=fun q hq hpq=>hr i (by omega) q (nr (jZ ok.up) hi hq hpq)
  have bj:∀{q:Pl} {l:List (Pl×Int)},nc ord kd N B q l->l.length<=900:=fun {q l} h=>by
   have:=cL (l.map (·.1)) (ar kd) h.1 fun y hy=>by
    obtain⟨z,hz,rfl⟩:=List.mem_map.mp hy
    exact(h.2.1 z hz).1
   rw[List.length_map]at this
   omega
  obtain⟨s1,s2,s3⟩:=vD ok hp hcn
  have hopt:(lkP (cD ord kd ((ar kd).reverse.take i)).2 (nxt p)).getD []=[]∨∃l,lkP (cD ord kd ((ar kd).reverse.take i)).2 (nxt p)=some l/\nc ord kd N B (nxt p) l:=by
   by_cases c:nxt p∈ar kd
   ·exact .inr (hcn _ c iq)
   ·left
    rw[js fun z=>c ?_];rfl
    rcases qL _ _ z with h|h
    ·exact List.mem_reverse.mp (List.mem_of_mem_take h)
    ·cases h
  refine⟨ok.valid hp,fun hs=>?_,fun z hz=>?_,?_,by omega,fun s hs=>?_⟩
  ·obtain⟨h1,_⟩:=ok.falls.sg p hp hs
   obtain⟨l,e,_⟩:=hcn (nxt p) h1 iq
   show(lkP _ (nxt p)).isSome=true
   rw[e];rfl
  ·rcases hopt with e|⟨l,e,h⟩
   ·rw[e]at hz;cases hz
   ·rw[e]at hz
    exact ok.valid (h.2.1 z hz).1
  ·rcases hopt with e|⟨l,e,h⟩
   ·rw[e];exact Nat.zero_le _
   ·rw[e];have:=bj h;show l.length<=_;omega
  ·obtain⟨h1,h2,h3⟩:=s1 s hs
   obtain⟨l,e,h⟩:=hcn _ h1 h2
   refine⟨l,e,by have:=bj h;omega,fun z hz=>?_⟩
   have hz2:Few z.2:=by
    have:z.2=(cnt (rel ord) (bB kd) (fu N B) s.2.1 z.1:Int):=by rw[<-h.2.2 z.1,pD h.1 hz];rfl
    rw[this];exact uK ok hK hR h1
   have hs2:Few s.2.2:=by
    rcases h3 with h3|⟨m,h3,hn⟩
    ·rw[h3];exact Fz (by decide) (by decide)
    ·rw[h3];exact uK ok hK hR hn
   rw[G5 ⟨hs2,hz2⟩];trivial
 ·have:=hr _ (Nat.le_refl _) p (by rw[List.take_of_length_le (by rw[List.length_reverse];exact Nat.le_refl _)];exact List.mem_reverse.mpr hp)
  rwa [List.take_of_length_le (by rw[List.length_reverse];exact Nat.le_refl _)]at this
end
end
section
variable{P:Program}{w:World}{K:PySem.W.Frag}{mg:Str->Option Value}{base:Heap}
/-! ### the stretches from the cN to the end are the choices -/
def chR(af:List (Str×List Row)):List Str->List Row
 |[]=>[[]]
 |w::ws=>(kin af w).flatMap fun k=>(chR af ws).map fun s=>k++s
theorem ig{af:List (Str×List Row)}{w:Str}{P:List Row->Prop}(h0:P []) (h:∀e∈af,P e.2):P (kin af w):=by
 unfold kin
 induction af with
 |nil=>exact h0
 |cons e l ih =>
  rw[List.lookup_cons]
  by_cases c:(w==e.1)=true
  ·rw[c];exact h e (.head _)
  ·rw[Bool.not_eq_true]at c
   rw[c];exact ih fun x hx=>h x (.tail _ hx)
def jt(af:List (Str×List Row)) (K B:Nat):Prop:=∀e∈af,e.2.length<=K/\∀r∈e.2,r.length<=B
section
variable{af:List (Str×List Row)}{ax:Str}{ws:List Str}{K B:Nat}
theorem j7{q:Int×List Row}:q∈bT af ax ws↔q=(-1,[[]])∨(∃(i:Nat) (w:Str),ws[i]?=some w/\q=((i:Int),kin af w))∨q=((ws.length:Int),[[(ax,1)]]):=by
 unfold bT cw
 rw[List.mem_append,List.mem_cons,List.mem_map,List.mem_singleton]
 constructor
 ·rintro((h|⟨t,ht,rfl⟩)|h)
  ·exact .inl h
  ·exact .inr (.inl ⟨t.2,t.1,List.mem_zipIdx_iff_getElem?.mp ht,rfl⟩)
  ·exact .inr (.inr h)
 ·rintro(h|⟨i,w,hi,rfl⟩|h)
  ·exact .inl (.inl h)
  ·exact .inl (.inr ⟨(w,i),List.mem_zipIdx_iff_getElem?.mpr hi,rfl⟩)
  ·exact .inr h
theorem zA(he:jt af K B) (hK:1<=K) (hB:1<=B):gU (bT af ax ws) (ws.length:Int) K B where
 up:=by
  unfold bT
  rw[List.pairwise_append,List.pairwise_cons]
  have hlt:∀a∈cw af ws,0<=a.1/\a.1<(ws.length:Int):=fun a ha=>by
   obtain⟨t,ht,rfl⟩:=List.mem_map.mp ha
   have:=List.mem_zipIdx_iff_getElem?.mp ht
   have:=(List.getElem?_eq_some_iff.mp this).1
   show 0<=(t.2:Int)/\(t.2:Int)<_
   omega
  refine⟨⟨fun a ha=>?_,?_⟩,by simp,fun a ha b hb=>?_⟩
  ·have:=hlt a ha
   show(-1:Int)<a.1
   omega
  ·unfold cw
   rw[List.pairwise_map,List.pairwise_iff_getElem]
   intro i j hi hj hij
   simp only[List.getElem_zipIdx]
   omega
  ·rw[List.mem_singleton.mp hb]
   rcases List.mem_cons.mp ha with e|e
   ·rw[e];show(-1:Int)<(ws.length:Int);omega
   ·exact(hlt a e).2
 bd:=by
  intro q hq
  rcases j7.mp hq with e|⟨i,w,hi,e⟩|e
  ·rw[e]
   refine⟨Int.le_refl _,by show(-1:Int)<=_;omega,hK,fun r hr=>?_⟩
   rw[List.mem_singleton.mp hr];exact Nat.zero_le _
  ·have:=(List.getElem?_eq_some_iff.mp hi).1
   rw[e]
   have h:=ig (af:=af) (w:=w) (P:=fun rs=>rs.length<=K/\∀r∈rs,r.length<=B) ⟨Nat.zero_le _,fun _ h=>by cases h⟩ he
   exact⟨by show(-1:Int)<=(i:Int);omega,by show(i:Int)<=_;omega,h⟩
  ·rw[e]
   refine⟨by show(-1:Int)<=(ws.length:Int);omega,Int.le_refl _,hK,fun r hr=>?_⟩
   rw[List.mem_singleton.mp hr];exact hB
theorem pF{kd:KD}{N:Int}{K B:Nat}(ok:gU kd N K B) {q:Int×List Row}(hq:q∈kd) (hn:q.1≠N) {i:Nat}{row:Row}(hr:q.2[i]?=some row):∀(d j:Nat),j+d=row.length ->
  Sts (bB kd) (fu N B) (q.1,(i:Int),(j:Int)) (N,0,1)=((bA kd (q.1,(i:Int),(0:Int))).flatMap fun b=>Sts (bB kd) (fu N B) b (N,0,1)).map fun s=>row.drop j++s
 |0,j,h=>by
  have hs:(bB kd).sg (q.1,(i:Int),(j:Int))=none:=by
   show cm _ _=_
   rw[ok.sgn hq hr,List.getElem?_eq_none (by omega)]
  have hne:(q.1,(i:Int),(j:Int))≠((N,0,1):Pl):=fun e=>hn (congrArg (·.1) e)
  rw[ia ok.falls (bH.mpr ⟨q,hq,i,row,j,hr,by omega,rfl⟩) hs,if_neg hne,List.nil_append,List.drop_of_length_le (by omega)]
  simp only[List.nil_append,List.map_id']
  rfl
 |d+1,j,h=>by
  have hj:j<row.length:=by omega
  have hs:(bB kd).sg (q.1,(i:Int),(j:Int))=some row[j]:=by
   show cm _ _=_
   rw[ok.sgn hq hr,List.getElem?_eq_getElem hj]
  have hne:(q.1,(i:Int),(j:Int))≠((N,0,1):Pl):=fun e=>hn (congrArg (·.1) e)
  rw[ft ok.falls (bH.mpr ⟨q,hq,i,row,j,hr,by omega,rfl⟩) hs,if_neg hne,List.nil_append]
  have ih:=pF ok hq hn hr d (j+1) (by omega)
  have e:(bB kd).nx (q.1,(i:Int),(j:Int))=(q.1,(i:Int),((j+1:Nat):Int)):=by
   show(q.1,(i:Int),(j:Int)+1)=_
   rw[Int.natCast_add];rfl
  rw[e,ih,List.map_map,List.drop_eq_getElem_cons hj]
  rfl
theorem oy(he:jt af K B) (hK:1<=K) (hB:1<=B):∀(d n:Nat) (i:Int),n+d=ws.length ->
  ((bA (bT af ax ws) ((n:Int)-1,i,0)).flatMap fun b=>Sts (bB (bT af ax ws)) (fu (ws.length:Int) B) b ((ws.length:Int),0,1))=(chR af (ws.drop n)).map fun s=>s++[(ax,1)]
 |0,n,i,h=>by
  have ok:=zA (ax:=ax) (ws:=ws) he hK hB
  have hm:((ws.length:Int),[[(ax,1)]])∈bT af ax ws:=j7.mpr (.inr (.inr rfl))
  have hl:look (bT af ax ws) (((n:Int)-1)+1)=some [[(ax,1)]]:=by
   rw[show((n:Int)-1)+1=(ws.length:Int)by omega]
   exact lu ok.up hm
  have hl2:look (bT af ax ws) ((ws.length:Int)+1)=none:=by
   cases hx:look (bT af ax ws) ((ws.length:Int)+1)with
   |none=>rfl
   |some rs =>
    have:=(ok.bd _ (jA hx)).2.1
    exact absurd (show(ws.length:Int)+1<=ws.length from this) (by omega)
  have hb:bA (bT af ax ws) ((n:Int)-1,i,0)=[((ws.length:Int),0,0)]:=by
   unfold bA
   show(List.range ((look (bT af ax ws) (((n:Int)-1)+1)).getD []).length).map _=_
   rw[hl,show(((n:Int)-1,i,(0:Int)).1+1:Int)=(ws.length:Int)by show(n:Int)-1+1=_;omega]
   rfl
  rw[hb,List.drop_of_length_le (by omega)]
  have h0:(bB (bT af ax ws)).sg ((ws.length:Int),0,0)=some (ax,1):=ok.sgn (j:=0) hm (i:=0) rfl
  have h1:(bB (bT af ax ws)).sg ((ws.length:Int),0,1)=none:=ok.sgn (j:=1) hm (i:=0) rfl
  have m0:((ws.length:Int),0,0)∈ar (bT af ax ws):=bH.mpr ⟨_,hm,0,_,0,rfl,Nat.zero_le _,rfl⟩
  have m1:((ws.length:Int),0,1)∈ar (bT af ax ws):=bH.mpr ⟨_,hm,0,_,1,rfl,Nat.le_refl _,rfl⟩
  rw[List.flatMap_cons,List.flatMap_nil,List.append_nil,ft ok.falls m0 h0,if_neg (by simp),List.nil_append]
  have e:(bB (bT af ax ws)).nx ((ws.length:Int),0,0)=((ws.length:Int),0,1):=rfl
  rw[e,ia ok.falls m1 h1,if_pos rfl]
  have e2:(bB (bT af ax ws)).bg ((ws.length:Int),0,1)=[]:=by
   show bA _ _=_
   unfold bA
   rw[hl2];rfl
  rw[e2];rfl
 |d+1,n,i,h=>by
  have ok:=zA (ax:=ax) (ws:=ws) he hK hB
  have hn:n<ws.length:=by omega
  have hm:((n:Int),kin af ws[n])∈bT af ax ws:=j7.mpr (.inr (.inl ⟨n,ws[n],List.getElem?_eq_getElem hn,rfl⟩))
  have ih:=oy he hK hB d (n+1)
  have hl:look (bT af ax ws) (((n:Int)-1)+1)=some (kin af ws[n]):=by
   rw[show((n:Int)-1)+1=(n:Int)by omega]
   exact lu ok.up hm
  have hb:bA (bT af ax ws) ((n:Int)-1,i,0)=(List.range (kin af ws[n]).length).map fun(k:Nat)=>((n:Int),(k:Int),0):=by
   unfold bA
   show(List.range ((look (bT af ax ws) (((n:Int)-1)+1)).getD []).length).map _=_
   rw[hl,show(((n:Int)-1,i,(0:Int)).1+1:Int)=(n:Int)by show(n:Int)-1+1=_;omega]
   rfl
  rw[hb,List.drop_eq_getElem_cons hn,chR,List.flatMap_map,List.map_flatMap]
  have e:kin af ws[n]=(List.range (kin af ws[n]).length).map fun k=>(kin af ws[n]).getD k []:=by
   refine List.ext_getElem (by simp) fun a h1 h2=>?_
   simp[h1]
  rw[show((kin af ws[n]).flatMap fun k=>((chR af (ws.drop (n+1))).map fun s=>k++s).map fun s=>s++[(ax,1)])=(((List.range (kin af ws[n]).length).map fun k=>(kin af ws[n]).getD k []).flatMap fun k=>((chR af (ws.drop (n+1))).map fun s=>k++s).map fun s=>s++[(ax,1)])by rw[<-e],List.flatMap_map]
  refine cG fun k hk=>?_
  have hk':=List.mem_range.mp hk
  have hr:(kin af ws[n])[k]?=some ((kin af ws[n]).getD k []):=by simp[hk']
  have r:=pF ok hm (show(n:Int)≠(ws.length:Int)by omega) hr ((kin af ws[n]).getD k []).length 0 (by omega)
  have h3:(bA (bT af ax ws) ((n:Int),(k:Int),0))=bA (bT af ax ws) (((n+1:Nat):Int)-1,(k:Int),0):=by
   rw[show((n+1:Nat):Int)-1=(n:Int)by omega]
  refine r.trans ?_
  rw[h3,ih (k:Int) (by omega),List.map_map,List.map_map,List.drop_zero]
  refine List.map_congr_left fun s _=>?_
  simp[Function.comp_def]
theorem Ea{ord:List (Str×Str)}(he:jt af K B) (hK:1<=K) (hB:1<=B) (hK8:K<=8) (hR:(ws.length+2)*(B+1)<100) (hS:(ws.length+2)*(K*(B+1))<=900) (hl:af.length<=8) (ho:ord.length<=500) (hw:∀w∈ws,w∈af.map (·.1)/\eE w) :
  xX ord ax af ws ((((chR af ws).map fun s=>W (rel ord) (s++[(ax,1)])).sum:Nat):Int):=by
 have ok:=zA (ax:=ax) (ws:=ws) he hK hB
 have bj:(bT af ax ws).length=ws.length+2:=by simp[bT,cw]
 have hm:((ws.length:Int),[[(ax,1)]])∈bT af ax ws:=j7.mpr (.inr (.inr rfl))
 have hs:cN∈ar (bT af ax ws):=bH.mpr ⟨(-1,[[]]),j7.mpr (.inl rfl),0,[],0,rfl,Nat.le_refl _,rfl⟩
 have hR':((ws.length:Int)+2)*((B:Int)+1)<100:=by
  have:=Int.ofNat_lt.mpr hR
  simpa using this
 obtain⟨c1,c2⟩:=yT ok hK8 hR' (by rw[bj];exact hS) (ord:=ord) ho hm
 obtain⟨l,hl1,hl2⟩:=c2 cN hs
 refine⟨hl,?_,hw,_,l,c1,hl1,?_⟩
 ·have:ws.length+2<=(ws.length+2)*(B+1):=Nat.le_mul_of_pos_right _ (by omega)
  omega
 ·rw[hl2.2.2]
  congr 1
  unfold cnt
  have r:=pF ok (q:=(-1,[[]])) (j7.mpr (.inl rfl)) (show(-1:Int)≠(ws.length:Int)by omega) (i:=0) (row:=[]) rfl 0 0 rfl
  have r2:=oy (ax:=ax) (ws:=ws) he hK hB ws.length 0 0 (by omega)
  have e:Sts (bB (bT af ax ws)) (fu (ws.length:Int) B) cN ((ws.length:Int),0,1)=(chR af ws).map fun s=>s++[(ax,1)]:=by
   refine r.trans ?_
   have e3:bA (bT af ax ws) (-1,((0:Nat):Int),(0:Int))=bA (bT af ax ws) (((0:Nat):Int)-1,0,0):=rfl
   rw[List.drop_zero]at r2
   show List.map (fun s=>[]++s) (List.flatMap _ (bA (bT af ax ws) (-1,((0:Nat):Int),(0:Int))))=_
   rw[e3,r2]
   simp only[List.nil_append,List.map_id']
  rw[e,List.map_map]
  rfl
end
end
section
variable{P:Program}{w:World}{K:PySem.W.Frag}{mg:Str->Option Value}{base:Heap}
def sg(row:List (Str×Int)) (i:Nat):Str×Int:=row.getD i ("",0)
theorem rT{f:Nat->Nat}:∀(L:Nat),(∀k,k<L->k % 2=1->f k=0)->((List.range L).map f).sum=((List.range ((L+1) / 2)).map fun j=>f (2*j)).sum
 |0,_=>rfl
 |1,_=>by simp
 |L+2,h=>by
  rw[List.range_succ,List.range_succ,List.map_append,List.map_append,List.sum_append,List.sum_append,rT L fun k h1 h2=>h k (by omega) h2]
  rw[show(L+2+1) / 2=(L+1) / 2+1 by omega,List.range_succ,List.map_append,List.sum_append]
  simp only[List.map_cons,List.map_nil,List.sum_cons,List.sum_nil,Nat.add_zero]
  by_cases e:L % 2=1
  ·rw[h L (by omega) e,show 2*((L+1) / 2)=L+1 by omega];omega
  ·rw[h (L+1) (by omega) (by omega),show 2*((L+1) / 2)=L by omega];omega
theorem mH{σ:Type}(d:σ):∀(xs:List σ),jX xs=(List.range xs.length).map fun k=>(xs.take k,xs.getD k d,xs.drop (k+1))
 |[]=>rfl
 |x::xs=>by
  rw[jX,mH d xs,List.length_cons,List.range_succ_eq_map,List.map_cons,List.map_map,List.map_map]
  rfl
def seg(row:List (Str×Int)) (b e:Nat):List (Str×Int):=(row.drop b).take (e-b)
theorem fQ{row:List (Str×Int)}{b e:Nat}(h:e<=row.length):(seg row b e).length=e-b:=by
 unfold seg;rw[List.length_take,List.length_drop];omega
theorem yw{row:List (Str×Int)}{b:Nat}:seg row b b=[]:=by unfold seg;simp
theorem Br{row:List (Str×Int)}:seg row 0 row.length=row:=by unfold seg;simp
theorem zM{row:List (Str×Int)}{b e:Nat}(h:b<e) (he:e<=row.length):seg row b e=sg row b::seg row (b+1) e:=by
 unfold seg
 have hb:b<row.length:=by omega
 rw[List.drop_eq_getElem_cons hb,show e-b=(e-(b+1))+1 by omega,List.take_succ_cons]
 simp[sg,hb]
theorem xU{row:List (Str×Int)}{b e k:Nat}(h:b+k<=e):(seg row b e).take k=seg row b (b+k):=by
 unfold seg
 rw[List.take_take,Nat.min_eq_left (by omega),show b+k-b=k by omega]
theorem zL{row:List (Str×Int)}{b e k:Nat}:(seg row b e).drop k=seg row (b+k) e:=by
 unfold seg
 rw[List.drop_take,List.drop_drop,show e-b-k=e-(b+k)by omega]
theorem Dt{row:List (Str×Int)}{b e k:Nat}(h:b+k<e):(seg row b e).getD k ("",0)=sg row (b+k):=by
 unfold seg sg
 rw[List.getD_eq_getElem?_getD,List.getElem?_take,if_pos (by omega),List.getElem?_drop,List.getD_eq_getElem?_getD]
section
variable{R:Str×Int->Str×Int->Bool}{row:List (Str×Int)}
theorem FK{b e:Nat}(h:b<e) (he:e<=row.length):W R (seg row b e)=((List.range ((e-b) / 2)).map fun j=>if R (sg row b) (sg row (b+1+2*j))=true then W R (seg row (b+1) (b+1+2*j))*W R (seg row (b+1+2*j+1) e)else 0).sum:=by
 rw[zM h he,pq,mH (σ:=Str×Int) ("",0),List.map_map,fQ he]
 have e1:((List.range (e-(b+1))).map ((fun c=>if R (sg row b) c.2.1=true then W R c.1*W R c.2.2 else 0)∘fun k=>((seg row (b+1) e).take k,(seg row (b+1) e).getD k ("",0),(seg row (b+1) e).drop (k+1)))).sum
  =((List.range (e-(b+1))).map fun k=>if R (sg row b) (sg row (b+1+k))=true then W R (seg row (b+1) (b+1+k))*W R (seg row (b+1+k+1) e)else 0).sum:=by
  congr 1
  apply List.map_congr_left
  intro k hk
  have hk':=List.mem_range.mp hk
  simp only[Function.comp_def]
  rw[Dt (by omega),xU (by omega),zL]
  rfl
 rw[e1,rT _ fun k hk ho=>?_,show(e-(b+1)+1) / 2=(e-b) / 2 by omega]
 by_cases c:R (sg row b) (sg row (b+1+k))=true
 ·rw[if_pos c,rN _ (seg row (b+1) (b+1+k)) (Nat.le_refl _) (by rw[fQ (by omega)];omega),Nat.zero_mul]
 ·rw[if_neg c]
end
theorem pH{b e b' e':Nat}:([Sum.inl (b:Int),Sum.inl (e:Int)]:List Key)=[Sum.inl (b':Int),Sum.inl (e':Int)]↔b=b'/\e=e':=by
 simp only[List.cons.injEq,Sum.inl.injEq,and_true,Int.natCast_inj]
open Classical in
def tab(R:Str×Int->Str×Int->Bool) (row:List (Str×Int)) (L j b e:Nat):Option D:=if b<=e/\e<=row.length/\(e-b) % 2=0/\(e-b<L∨(e-b=L/\b<j))/\W R (seg row b e)≠0 then some (.bl true)else none
def Tab(R:Str×Int->Str×Int->Bool) (row:List (Str×Int)) (L j:Nat) (kvs:List (List Key×D)):Prop:=∀b e:Nat,bp kvs [.inl (b:Int),.inl (e:Int)]=tab R row L j b e
end
section
variable{P:Program}{w:World}{K:PySem.W.Frag}{mg:Str->Option Value}{base:Heap}
def nU:SpD:=fun ds M R=>∃p l,ds=[.ref p]/\M p=some (.lst l)/\aS l/\∀(ws:List Str) l',ws≠[]->ws.length<=4->aS l'->R (.lst (ws.map .str)) (aw M p (.lst l'))
theorem Eu{v:Int}(h0:0<=v) (h1:v<26):∃y:Str,y.length=1/\ixD (.str (Str.ofString "nsabcdefghijklmopqrtuvwxyz")) (.int v)=some (.str y):=by
 obtain⟨n,rfl⟩:=Int.eq_ofNat_of_zero_le h0
 have bj:(Str.ofString "nsabcdefghijklmopqrtuvwxyz").cps.toList.length=26:=by decide +kernel
 have hn:n<(Str.ofString "nsabcdefghijklmopqrtuvwxyz").cps.toList.length:=by omega
 refine⟨⟨#[(Str.ofString "nsabcdefghijklmopqrtuvwxyz").cps.toList[n]]⟩,rfl,?_⟩
 rw[CI,if_pos (show(Str.ofString "nsabcdefghijklmopqrtuvwxyz").length<=sizeLine from by decide +kernel),bN (List.getElem?_eq_getElem hn)]
 rfl
theorem pw{te:TEd}{n:Nat}{S v1:D}{x:Option D}{M:DH}{Q:List D->DH->Prop}(h:∀(i:Nat) (X:D->DH->Prop),i<n->(∀y:Str,X (.str y) M)->te [none,some S,some v1,none,none,some (.int (0+(i:Int)))] M X)
  (q:∀ws:List Str,ws.length=n->Q (ws.map .str) M):eR (bf 5) qz te (hV 0 n) [none,some S,some v1,none,none,x] M [] Q:=by
 refine jq (fun i acc Δ M'=>∃(x:Option D) (ws:List Str),Δ=[none,some S,some v1,none,none,x]/\M'=M/\acc=ws.map .str/\ws.length=i) ⟨_,[],rfl,rfl,rfl,rfl⟩ ?_ ?_
 ·rintro i d acc Δ M' X hd ⟨x,ws,rfl,rfl,rfl,hw⟩ k'
  obtain⟨hi,rfl⟩:=cS hd
  refine⟨_,rfl,?_⟩
  simp only[qz,if_true]
  exact h i _ hi fun y=>k' _ _ _ ⟨_,ws++[y],rfl,rfl,by simp,by simp[hw]⟩
 ·rintro acc Δ M' ⟨x,ws,rfl,rfl,rfl,hw⟩
  rw[bv]at hw
  exact q ws hw
theorem tG{f:Addr}{fd:FuncData}(F:Fun K "_law_marks" "_law_marks" dW f fd) (T:Txt K mg) (g_l_draw:FnD P w K mg base "_law_draw" 1 2 cq):ba P w K mg base CX0 2 f fd ["_law_well_here"] (spD K 1 nU):=by
 have nd:=mP.nd
 refine F.okQ rfl mP (fun cdv A outer s H E hr=>⟨_,(ai (aJ (i:=1) nd rfl (Or.inr rfl) vH)
   (ai (aJ (i:=2) nd rfl (Or.inr rfl) (qd g_l_draw hr (aa (ab 0) (aa ak ag))))
   (ai (aJ (i:=3) nd rfl (Or.inl rfl) (aM aR ak (qd g_l_draw hr (aa (ab 0) (aa ak ag)))))
   (ai (aJ (i:=4) nd rfl (Or.inl rfl) (qd g_l_draw hr (aa (ab 0) (aa ak ag))))
   (ai (cf (bh (gx hr.units) (ab 4) ak nbh) (av (aT (iz (ms:=[false,true,true,false,false]) (ah:=["_law_k"]) (aQ rfl (show aZ (am dW) cY _ _=true from by decide +kernel)) rfl (bx rfl T.b_range (aa (ab 3) ag)) (aU (i:=5) (show(cY++_).Nodup from by decide +kernel) rfl rfl) (fun _ _ _ _=>bY) (fun _ _ _ _=>(aM cW (aX aV (ab 1) (ab 2) (fun _ _=>rfl)) (aM aR (ab 5) ak)))))) bz)
   (ai (cf (bh (gx hr.units) (ab 4) ak nbh) (av (aT (iz (ms:=[false,true,true,false,false]) (ah:=["_law_k"]) (aQ rfl (show aZ (am dW) cY _ _=true from by decide +kernel)) rfl (bx rfl T.b_range (aa (ab 3) ag)) (aU (i:=5) (show(cY++_).Nodup from by decide +kernel) rfl rfl) (fun _ _ _ _=>bY) (fun _ _ _ _=>(aX aV (ab 1) (aM eX (aM aR (ab 2) (aM cW ak (ab 5))) ak) (fun _ _=>rfl)))))) bz)
   (av (aT (iz (ms:=[false,true,true,false,false]) (ah:=["_law_k"]) (aQ rfl (show aZ (am dW) cY _ _=true from by decide +kernel)) rfl (bx rfl T.b_range (aa (ab 3) ag)) (aU (i:=5) (show(cY++_).Nodup from by decide +kernel) rfl rfl) (fun _ _ _ _=>bY) (fun _ _ _ _=>(aM aR (aX aV (ab 1) (aM eX (aM aR (ab 2) (aM cW ak (ab 5))) ak) (fun _ _=>rfl)) (aM cW (aX aV (ab 1) (ab 2) (fun _ _=>rfl)) ak)))))))))))),fun ds M R hl hS=>?_⟩)
 obtain⟨p,l,rfl,hM,hP,k⟩:=hS
 walk_at "rd"
 refine⟨p,l,26,rfl,hM,hP,by omega,by omega,fun v1 l1 a0 a1 hP1=>?_⟩
 walk_at "rd"
 refine⟨p,l1,4,rfl,aj,hP1,by omega,by omega,fun v2 l2 b0 b1 hP2=>?_⟩
 rw[aF]
 walk_at "rd"
 refine⟨p,l2,3,rfl,aj,hP2,by omega,by omega,fun v3 l3 c0 c1 hP3=>?_⟩
 rw[aF]
 walk_at "rd"
 obtain⟨n,hn⟩:=Int.eq_ofNat_of_zero_le b0
 have en:(1+v2).toNat=n+1:=by omega
 rw[en]
 obtain⟨y1,hy1,e1⟩:=Eu a0 a1
 have fin:∀ws:List Str,ws.length=n+1->R (.lst (ws.map .str)) (aw M p (.lst l3)):=fun ws hw=>k ws l3 (by rintro rfl;simp at hw) (by omega) hP3
 have hz:(hV 0 (n+1)).length<=sizeLine:=by rw[bv];exact sz3 _ (by omega)
 refine cE (fun _=>⟨by omega,by omega,hz,pw (fun i X hi q=>?_) fin⟩) (fun _=>cE (fun _=>⟨by omega,by omega,hz,pw (fun i X hi q=>?_) fin⟩) (fun _=>⟨by omega,by omega,hz,pw (fun i X hi q=>?_) fin⟩))
 ·walk_at "rd"
  refine⟨_,e1,?_⟩
  walk_at "rd"
  exact⟨_,if_pos ⟨by omega,by omega,by omega,by rw[hy1];omega⟩,q _⟩
 ·walk_at "rd"
  obtain⟨y,hy,e⟩:=Eu (v:=(v1+3*(0+(i:Int))) % 26) (by omega) (by omega)
  exact⟨_,e,q y⟩
 ·walk_at "rd"
  obtain⟨y,hy,e⟩:=Eu (v:=(v1+5*(0+(i:Int))) % 26) (by omega) (by omega)
  refine⟨_,e,_,e1,_,if_pos ⟨by omega,by omega,by omega,by rw[hy1];decide⟩,_,if_pos ?_,q _⟩
  have hlm:=len_mul y1 7
  simp at hlm
  exact sz3 _ (by rw[hy];omega)
def oo:SpD:=fun ds M R=>∃(p:Addr) (l:List D) (ao:List Str),ds=[.ref p,.lst (ao.map .str)]/\M p=some (.lst l)/\aS l/\ao≠[]/\ao.length<=9 /\
 ∀(ord:List (Str×Str)) l',ord.length<=8->(∀x∈ord,x.1∈ao/\x.2∈ao)->aS l'->R (.tup (ord.map aN)) (aw M p (.lst l'))
theorem ub{f:Addr}{fd:FuncData}(F:Fun K "_law_order" "_law_order" jT f fd) (T:Txt K mg) (g_l_draw:FnD P w K mg base "_law_draw" 1 2 cq):ba P w K mg base CX0 2 f fd ["_law_well_here","_law_marks_here"] (spD K 2 oo):=by
 have nd:=mQ.nd
 refine F.okQ rfl mQ (fun cdv A outer s H E hr=>⟨_,(ai (aJ (i:=2) nd rfl (Or.inl rfl) (fj ag))
   (ai (cc PassesOwn.never rfl (bx rfl T.b_range (aa (aX aV (lR (aa ak (aa ak (aa ak (aa ak ag))))) (qd g_l_draw hr (aa (ab 0) (aa ak ag))) (fun _ _=>rfl)) ag)) (aH (i:=3) nd rfl (Or.inl rfl)) (av (fR (oV (ab 2) (bU (aa (aX aV (ab 1) (qd g_l_draw hr (aa (ab 0) (aa (aB br rfl T.b_len (by kernel_rfl) (aa (ab 1) ag)) ag))) (fun _ _=>rfl)) (aa (aX aV (ab 1) (qd g_l_draw hr (aa (ab 0) (aa (aB br rfl T.b_len (by kernel_rfl) (aa (ab 1) ag)) ag))) (fun _ _=>rfl)) ag)))))))
   (av (i8 (bF di rfl T.b_tuple (by kernel_rfl) (aa (ab 2) ag)))))),fun ds M R hl hS=>?_⟩)
 obtain⟨p,l,ao,rfl,hM,hP,hm,hml,k⟩:=hS
 walk_at "rd"
 refine⟨sz3 0,fun q hq=>?_⟩
 have hpq:p≠q:=by rintro rfl;rw[hM]at hq;cases hq
 refine⟨sz3 4,p,l,4,rfl,by rw[au hpq];exact hM,hP,by omega,by omega,fun v l1 h2 h3 hP1=>?_⟩
 obtain⟨n,hn,en⟩:∃n:Nat,n<=8/\ixD (D.lst [D.int 0,D.int 2,D.int 4,D.int 8]) (.int v)=some (.int (n:Int)):=by
  have:v=0∨v=1∨v=2∨v=3:=by omega
  rcases this with rfl|rfl|rfl|rfl
  ·exact⟨0,by omega,rfl⟩
  ·exact⟨2,by omega,rfl⟩
  ·exact⟨4,by omega,rfl⟩
  ·exact⟨8,by omega,rfl⟩
 refine⟨_,en,_,rfl,by omega,by omega,?_⟩
 have hmp:=List.length_pos_iff.mpr hm
 refine aK (fun i Δ M'=>∃(x3:Option D) (l2:List D) (ord:List (Str×Str)),Δ=[some (D.ref p),some (D.lst (ao.map D.str)),some (D.ref q),x3]/\M'=aw (aw M p (.lst l2)) q (.lst (ord.map aN))/\aS l2/\ord.length=i/\∀x∈ord,x.1∈ao/\x.2∈ao)
  ⟨_,l1,[],rfl,bJ (Ne.symm hpq),hP1,rfl,fun x hx=>absurd hx (by simp)⟩ ?_ ?_
 ·rintro i d Δ M' X hd ⟨x3,l2,ord,rfl,rfl,hP2,hol,ho⟩ k'
  have hi:i<8:=by have:=(cS hd).1;omega
  simp only[bf]
  walk_at "rd"
  rw[List.length_map]
  refine⟨p,l2,_,rfl,by rw[au hpq,aj],hP2,by omega,by omega,fun v1 l3 a0 a1 hP3=>?_⟩
  obtain⟨m1,hm1,e1⟩:=eA a0 a1
  refine⟨_,e1,p,l3,_,rfl,aj,hP3,by omega,by omega,fun v2 l4 b0 b1 hP4=>?_⟩
  obtain⟨m2,hm2,e2⟩:=eA b0 b1
  refine⟨_,e2,sz3 2,?_⟩
  have em:aw (aw (aw (aw M p (.lst l2)) q (.lst (ord.map aN))) p (.lst l3)) p (.lst l4)=aw (aw M p (.lst l4)) q (.lst (ord.map aN)):=by
   rw[aF,<-bJ hpq,aF]
  rw[em]
  refine⟨_,aj,by rw[List.length_map];exact Nat.lt_of_lt_of_le (by omega:ord.length<1000) (sz3 1000),?_⟩
  rw[aF]
  refine k' _ _ ⟨_,l4,ord++[(m1,m2)],rfl,by simp[aN],hP4,by simp;omega,fun x hx=>?_⟩
  rcases List.mem_append.mp hx with h|h
  ·exact ho x h
  ·have:x=(m1,m2):=by simpa using h
   subst this;exact⟨hm1,hm2⟩
 ·rintro Δ M' ⟨x3,l2,ord,rfl,rfl,hP2,hol,ho⟩
  rw[bv]at hol
  walk_at "rd"
  exact⟨_,pK (by rw[au (Ne.symm hpq)];exact hq),k ord l2 (by omega) ho hP2⟩
end
section
variable{P:Program}{w:World}{K:PySem.W.Frag}{mg:Str->Option Value}{base:Heap}
theorem vz{R:Str×Int->Str×Int->Bool}{xs:List (Str×Int)}(h:xs.length<=60):Few (W R xs:Nat):=by
 have h1:=CK (R:=R) 100 xs (by omega) (Nat.le_refl _)
 have h2:(100:Nat) ^ xs.length<=(2 ^ 7) ^ 100:=Nat.le_trans (Nat.pow_le_pow_left (by decide) _) (Nat.pow_le_pow_right (by decide) (by omega))
 exact vF (Nat.le_trans h1 (Nat.le_trans h2 (Nat.le_mul_of_pos_left _ (Nat.pow_pos (by decide)))))
theorem CM{row:List (Str×Int)}{b:Nat}(h:b<row.length):atI (row.map aE) (b:Int)=some (aE (sg row b)):=bN (by simp[sg,h])
def Abv(ord:List (Str×Str)) (ao:List Str) (kvs:List (List Key×D)):Prop:=∀a b:Str,a∈ao->(bp kvs [.inr a,.inr b]).isSome=rB ord a b
def oz:SpD:=fun ds M Q=>∃(ord:List (Str×Str)) (ao:List Str),ds=[.tup (ord.map aN),.lst (ao.map .str)]/\ord.length<=20/\ao.length<=9 /\
 ∀p kvs,M p=none->Abv ord ao kvs->Q (.ref p) (aw M p (.dT kvs))
def kW(L:List Str):List (Key×D):=L.map fun x=>(.inr x,.bl true)
theorem uS{L:List Str}{x:Str}:(bp (kW L) (.inr x)).isSome=decide (x∈L):=by
 induction L with
 |nil=>rfl
 |cons y L ih =>
  unfold kW at *
  rw[List.map_cons]
  by_cases e:y=x
  ·rw[bQ (by rw[e])];simp[e]
  ·rw[bL (by simpa using e),ih]
   simp[Ne.symm e]
theorem By{L:List Str}{x:Str}:eP (kW L) (.inr x) (.bl true)=if x∈L then kW L else kW (L++[x]):=by
 unfold eP
 rw[jw,uS]
 by_cases h:x∈L
 ·rw[if_pos (by simp[h]),if_pos h]
  unfold kW
  rw[List.map_map]
  apply List.map_congr_left
  intro y _
  simp only[Function.comp_def]
  split<;>rfl
 ·rw[if_neg (by simp[h]),if_neg h]
  simp[kW]
theorem xn{L S:List Str}(hn:L.Nodup) (hs:∀x∈L,x∈S) (hl:S.length<=L.length):∀x∈S,x∈L:=fun x hx=>by
 by_cases h:x∈L
 ·exact h
 ·have:=cL (x::L) S (List.nodup_cons.mpr ⟨h,hn⟩) (fun y hy=>by
   rcases List.mem_cons.mp hy with rfl|hy
   ·exact hx
   ·exact hs y hy)
  simp at this;omega
theorem tP{f:Addr}{fd:FuncData}(F:Fun K "_law_above" "_law_above" ki f fd) (T:Txt K mg) :ba P w K mg base CX0 1 f fd ["_law_order_here","_law_marks_here"] (spD K 2 oz):=by
 have nd:=mi.nd
 refine F.okQ rfl mi (fun cdv A outer s H E hr=>⟨_,(ai (aJ (i:=2) nd rfl (Or.inl rfl) Cc)
   (ai (cc PassesOwn.never rfl (cj (ab 1)) (aH (i:=3) nd rfl (Or.inl rfl)) (ai (aJ (i:=4) nd rfl (Or.inl rfl) (uR (ab 3) Bc))
   (ai (cc PassesOwn.never rfl (bx rfl T.b_range (aa (aB br rfl T.b_len (by kernel_rfl) (aa (ab 0) ag)) ag)) (aH (i:=5) nd rfl (Or.inl rfl)) (av (cc PassesOwn.never rfl (cj (ab 0)) (gq rfl (bc (aH (i:=6) nd rfl (Or.inl rfl)) (bc (aH (i:=7) nd rfl (Or.inl rfl)) gn))) (av (cf (E2 false rfl hr.units1 (ab 6) (ab 4) rfl) (av (tZ hr.units1 (ab 4) (ab 7) Bc)) bz)))))
   (av (cc PassesOwn.never rfl (Gj (ab 4)) (aH (i:=8) nd rfl (Or.inl rfl)) (av (sQ hr.units1 (ab 2) (aa (ab 3) (aa (ab 8) ag)) Bc)))))))
   (av (aT (ab 2))))),fun ds M R hl hS=>?_⟩)
 obtain⟨ord,ao,rfl,ho,hm,k⟩:=hS
 walk_at "rd"
 intro p hp hz
 refine aK (fun i Δ M'=>∃(kvs:List (List Key×D)) (x3 x4 x5 x6 x7 x8:Option D),Δ=[some (D.tup (ord.map aN)),some (D.lst (ao.map .str)),some (D.ref p),x3,x4,x5,x6,x7,x8]/\M'=aw M p (.dT kvs)/\(∀a b:Str,(bp kvs [.inr a,.inr b]).isSome=(decide (a∈ao.take i)&&rB ord a b))/\kvs.length<=50*i)
  ⟨[],_,_,_,_,_,_,rfl,rfl,fun a b=>by simp[yP],Nat.zero_le _⟩ ?_ ?_
 ·rintro i d Δ M' X hd ⟨kvs,x3,x4,x5,x6,x7,x8,rfl,rfl,hk,hkl⟩ k'
  obtain⟨a,ha,rfl⟩:=cF hd
  have hi:i<ao.length:=(List.getElem?_eq_some_iff.mp ha).1
  have hai:ao[i]=a:=(List.getElem?_eq_some_iff.mp ha).2
  simp only[bf]
  walk_at "rd"
  intro r hr2
  have hpr:r≠p:=by rintro rfl;rw[aj]at hr2;cases hr2
  have hMr:M r=none:=by rw[au hpr]at hr2;exact hr2
  rw[List.length_map]
  refine⟨by omega,by omega,?_⟩
  refine aK (fun t Δ M'=>∃(L:List Str) (x5 x6 x7:Option D),Δ=[some (D.tup (ord.map aN)),some (D.lst (ao.map .str)),some (D.ref p),some (D.str a),some (D.ref r),x5,x6,x7,x8]/\M'=aw (aw M p (.dT kvs)) r (.dK (kW L))/\L.Nodup/\a∈L/\(∀x∈L,cK ord a x)/\(∀x∈L,x∈a::ord.map (·.2))/\((∀y∈ord,y.1∈L->y.2∈L)∨t+1<=L.length))
   ⟨[a],_,_,_,rfl,rfl,by simp,by simp,fun x hx=>?_,fun x hx=>?_,.inr (by simp)⟩ ?_ ?_
  ·obtain rfl:x=a:=by simpa using hx
   exact cK.refl
  ·obtain rfl:x=a:=by simpa using hx
   simp
  ·rintro t d Δ M' X2 hd2 ⟨L0,x5,x6,x7,rfl,rfl,hn0,ha0,hs0,hb0,hc0⟩ k2
   simp only[bf]
   walk_at "rd"
   intro hz2
   refine aK (fun j Δ M'=>∃(L:List Str) (x5 x6 x7:Option D),Δ=[some (D.tup (ord.map aN)),some (D.lst (ao.map .str)),some (D.ref p),some (D.str a),some (D.ref r),x5,x6,x7,x8]/\M'=aw (aw M p (.dT kvs)) r (.dK (kW L))/\(∃s,L=L0++s)/\L.Nodup/\(∀x∈L,cK ord a x)/\(∀x∈L,x∈a::ord.map (·.2))/\(∀y∈ord.take j,y.1∈L0->y.2∈L))
    ⟨L0,_,_,_,rfl,rfl,⟨[],by simp⟩,hn0,hs0,hb0,fun y hy=>absurd hy (by simp)⟩ ?_ ?_
   ·rintro j d Δ M' X3 hd3 ⟨L,x5,x6,x7,rfl,rfl,⟨s2,hs2⟩,hn,hs,hb,hc⟩ k3
    obtain⟨⟨y1,y2⟩,hy,rfl⟩:=cF hd3
    have hjy:ord[j]?=some (y1,y2):=hy
    have hmem:(y1,y2)∈ord:=List.mem_of_getElem? hjy
    have htk:ord.take (j+1)=ord.take j++[(y1,y2)]:=by rw[List.take_add_one,hjy];rfl
    have bj:L.length<=ord.length+1:=by
     have:=cL L (a::ord.map (·.2)) hn hb
     simpa using this
    simp only[aN,iK,eF,bf,kK,Option.bind_some]
    refine⟨_,rfl,?_⟩
    walk_at "rd"
    rw[Bool.false_xor,uS]
    refine cE (fun h=>?_) (fun h=>?_)
    ·have hy1:y1∈L:=by simpa using h
     refine⟨by unfold kW;rw[List.length_map];exact Nat.lt_of_lt_of_le (by omega:L.length<1000) (sz3 1000),?_⟩
     rw[By]
     by_cases h2:y2∈L
     ·rw[if_pos h2]
      refine k3 _ _ ⟨L,_,_,_,rfl,rfl,⟨s2,hs2⟩,hn,hs,hb,fun y hy hy0=>?_⟩
      rw[htk]at hy
      rcases List.mem_append.mp hy with z|z
      ·exact hc y z hy0
      ·obtain rfl:y=(y1,y2):=by simpa using z
       exact h2
     ·rw[if_neg h2]
      refine k3 _ _ ⟨L++[y2],_,_,_,rfl,rfl,⟨s2++[y2],by rw[hs2,List.append_assoc]⟩,?_,fun x hx=>?_,fun x hx=>?_,fun y hy hy0=>?_⟩
      ·rw[List.nodup_append]
       refine⟨hn,by simp,fun u hu v hv=>?_⟩
       obtain rfl:v=y2:=by simpa using hv
       rintro rfl
       exact h2 hu
      ·rcases List.mem_append.mp hx with z|z
       ·exact hs x z
       ·obtain rfl:x=y2:=by simpa using z
        exact cK.step (hs y1 hy1) hmem
      ·rcases List.mem_append.mp hx with z|z
       ·exact hb x z
       ·obtain rfl:x=y2:=by simpa using z
        exact List.mem_cons_of_mem _ (List.mem_map.mpr ⟨_,hmem,rfl⟩)
      ·rw[htk]at hy
       rcases List.mem_append.mp hy with z|z
       ·exact List.mem_append_left _ (hc y z hy0)
       ·obtain rfl:y=(y1,y2):=by simpa using z
        simp
    ·have hy1:y1∉L:=by simpa using h
     refine k3 _ _ ⟨L,_,_,_,rfl,rfl,⟨s2,hs2⟩,hn,hs,hb,fun y hy hy0=>?_⟩
     rw[htk]at hy
     rcases List.mem_append.mp hy with z|z
     ·exact hc y z hy0
     ·obtain rfl:y=(y1,y2):=by simpa using z
      exact absurd (by rw[hs2];exact List.mem_append_left _ hy0) hy1
   ·rintro Δ M' ⟨L,x5,x6,x7,rfl,rfl,⟨s2,hs2⟩,hn,hs,hb,hc⟩
    rw[List.length_map,List.take_length]at hc
    refine k2 _ _ ⟨L,_,_,_,rfl,rfl,hn,by rw[hs2];exact List.mem_append_left _ ha0,hs,hb,?_⟩
    cases s2 with
    |nil =>
     rw[List.append_nil]at hs2
     subst hs2
     exact .inl hc
    |cons u us =>
     rcases hc0 with h|h
     ·refine .inl fun y hy hy1=>?_
      have cl:∀x,cK ord a x->x∈L0:=fun x hx=>mY ha0 h hx
      exact hc y hy (cl _ (hs _ hy1))
     ·right;rw[hs2];simp;omega
  ·rintro Δ M' ⟨L,x5,x6,x7,rfl,rfl,hn,haL,hs,hb,hc⟩
   rw[bv]at hc
   have hcl:∀y∈ord,y.1∈L->y.2∈L:=by
    rcases hc with h|h
    ·exact h
    ·intro y hy _
     refine xn hn hb (by simpa using h) y.2 (List.mem_cons_of_mem _ (List.mem_map.mpr ⟨y,hy,rfl⟩))
   have bj:L.length<=ord.length+1:=by
    have:=cL L (a::ord.map (·.2)) hn hb
    simpa using this
   walk_at "rd"
   rw[dn hr2]
   have em:List.map (fun p=>kD p.fst) (kW L)=L.map D.str:=by unfold kW;rw[List.map_map];rfl
   rw[em]
   refine aK (fun j Δ M'=>∃(kvs2:List (List Key×D)) (y8:Option D),Δ=[some (D.tup (ord.map aN)),some (D.lst (ao.map .str)),some (D.ref p),some (D.str a),some (D.ref r),x5,x6,x7,y8]/\M'=aw M p (.dT kvs2)/\(∀c b:Str,(bp kvs2 [.inr c,.inr b]).isSome=((decide (c∈ao.take i)&&rB ord c b) || (decide (c=a)&&decide (b∈L.take j))))/\kvs2.length<=50*i+j)
    ⟨kvs,_,rfl,rfl,fun c b=>by rw[hk c b];simp,by omega⟩ ?_ ?_
   ·rintro j d Δ M' X3 hd3 ⟨kvs2,y8,rfl,rfl,hk2,hkl2⟩ k3
    obtain⟨b,hb2,rfl⟩:=cF hd3
    have hj:j<L.length:=(List.getElem?_eq_some_iff.mp hb2).1
    have htk:L.take (j+1)=L.take j++[b]:=by rw[List.take_add_one,hb2];rfl
    simp only[bf]
    walk_at "rd"
    refine⟨sz3 2,Nat.lt_of_lt_of_le (by omega:kvs2.length<1000) (sz3 1000),?_⟩
    refine k3 _ _ ⟨_,_,rfl,rfl,fun c e=>?_,Nat.le_trans (gG _ _ _) (by omega)⟩
    rw[my,htk]
    by_cases h:c=a/\e=b
    ·obtain⟨rfl,rfl⟩:=h
     rw[if_pos rfl];simp
    ·rw[if_neg (by simpa using h),hk2 c e]
     by_cases h1:c=a
     ·have h2:¬ e=b:=fun z=>h ⟨h1,z⟩
      simp[h1,h2]
     ·simp[h1]
   ·rintro Δ M' ⟨kvs2,y8,rfl,rfl,hk2,hkl2⟩
    rw[List.length_map]at hk2 hkl2
    rw[List.take_length]at hk2
    refine k' _ _ ⟨kvs2,_,_,_,_,_,_,rfl,rfl,fun c b=>?_,by omega⟩
    have htk:ao.take (i+1)=ao.take i++[a]:=by rw[List.take_add_one,ha];rfl
    have hL:decide (b∈L)=rB ord a b:=by
     rw[Bool.eq_iff_iff,mT,decide_eq_true_eq]
     exact⟨hs b,fun z=>mY haL hcl z⟩
    rw[hk2 c b,htk]
    by_cases h1:c=a
    ·subst h1
     rw[hL]
     cases rB ord c b<;>simp
    ·simp[h1]
 ·rintro Δ M' ⟨kvs,x3,x4,x5,x6,x7,x8,rfl,rfl,hk,hkl⟩
  rw[List.length_map,List.take_length]at hk
  walk_at "rd"
  exact k p kvs hp fun a b ha=>by rw[hk a b];simp[ha]
def gW:SpD:=fun ds M Q=>∃(ord:List (Str×Str)) (ao:List Str) (p:Addr) (kvs:List (List Key×D)) (x y:Str×Int),ds=[.ref p,aE x,aE y]/\M p=some (.dT kvs)/\Abv ord ao kvs/\x.1∈ao/\y.1∈ao/\Q (.bl (rel ord x y)) M
theorem o8{f:Addr}{fd:FuncData}(F:Fun K "_law_cancels" "_law_cancels" gL f fd) (T:Txt K mg) :ba P w K mg base CX0 1 f fd ["_law_above_here","_law_one","_law_other"] (spD K 3 gW):=by
 have nd:=jj.nd
 refine F.okQ rfl jj (fun cdv A outer s H E hr=>⟨_,(ai (cf (bh Co (aX aV (ab 2) ak (fun _ _=>rfl)) (aM aR (aX aV (ab 1) ak (fun _ _=>rfl)) ak) nbh) (av (aT Bc)) bz)
   (ai (cf (bh (gx hr.units) (aM eX (aX aV (ab 1) ak (fun _ _=>rfl)) ak) ak nbh) (av (aT (CJ false rfl hr.units1 (aa (aX aV (ab 1) ak (fun _ _=>rfl)) (aa (aX aV (ab 2) ak (fun _ _=>rfl)) ag)) (ab 0) rfl))) bz)
   (av (aT (CJ false rfl hr.units1 (aa (aX aV (ab 2) ak (fun _ _=>rfl)) (aa (aX aV (ab 1) ak (fun _ _=>rfl)) ag)) (ab 0) rfl))))),fun ds M R hl hS=>?_⟩)
 obtain⟨ord,ao,p,kvs,⟨a,t⟩,⟨b,u⟩,rfl,hM,hA,ha,hb,k⟩:=hS
 simp only[aE]
 walk_at "rd"
 refine cE (fun h=>?_) (fun h=>?_)
 ·have hne:¬ t+1=u:=fun z=>by simp[z]at h
  have e:rel ord (a,t) (b,u)=false:=by simp[rel,hne]
  rw[e]at k;exact k
 ·have heq:t+1=u:=by
   have:u=t+1:=by simpa using h
   exact this.symm
  refine cE (fun h'=>⟨sz3 2,kvs,hM,?_⟩) (fun h'=>⟨sz3 2,kvs,hM,?_⟩)
  ·have e:rel ord (a,t) (b,u)=rB ord a b:=by simp[rel,heq,vN (ord:=ord) (a:=a) (b:=b) (show t % 2=0 by simpa using h')]
   rw[Bool.false_xor,hA a b ha,<-e];exact k
  ·have e:rel ord (a,t) (b,u)=rB ord b a:=by simp[rel,heq,yA (ord:=ord) (a:=a) (b:=b) (show ¬ t % 2=0 by simpa using h')]
   rw[Bool.false_xor,hA b a hb,<-e];exact k
def kO:SpD:=fun ds M Q=>∃(ord:List (Str×Str)) (ao:List Str) (p:Addr) (kvs:List (List Key×D)) (row:List (Str×Int)),ds=[.ref p,.lst (row.map aE)]/\M p=some (.dT kvs)/\Abv ord ao kvs/\row.length<=60/\(∀x∈row,x.1∈ao) /\
 ∀q tb,M q=none->(bp tb [.inl 0,.inl (row.length:Int)]).getD (.int 0)=.int (W (rel ord) row:Nat)->Q (.ref q) (aw M q (.dT tb))
theorem Cr{α:Type}{p q:Prop} [Decidable p] [Decidable q] {a b:α}(h:p↔q):(if p then a else b)=if q then a else b:=by
 by_cases hp:p
 ·rw[if_pos hp,if_pos (h.mp hp)]
 ·rw[if_neg hp,if_neg (fun z=>hp (h.mpr z))]
theorem Hj{R:Str×Int->Str×Int->Bool}{row:List (Str×Int)}{b e:Nat}{o:Option D}(h:o=if 0<W R (seg row b e)then some (.int (W R (seg row b e):Nat))else none):o.isSome=decide (0<W R (seg row b e)):=by
 rw[h]
 by_cases c:0<W R (seg row b e)
 ·rw[if_pos c];simp[c]
 ·rw[if_neg c];simp[c]
theorem Iq{n:Nat}:szR (n:Int) (-1) (-1)=n+1:=by
 unfold szR Builtin.Range.rangeSize
 simp
 omega
theorem CH{a b:Nat}:szR (a:Int) (b:Int) 2=(b-a+1) / 2:=by
 unfold szR Builtin.Range.rangeSize
 simp
 omega
theorem p8{f:Addr}{fd:FuncData}(F:Fun K "_law_between" "_law_between" gQ f fd) (T:Txt K mg) (g_l_cancels:FnD P w K mg base "_law_cancels" 1 3 gW):ba P w K mg base CX0 2 f fd ["_law_above_here","_law_row"] (spD K 2 kO):=by
 have nd:=jh.nd
 refine F.okQ rfl jh (fun cdv A outer s H E hr=>⟨_,(ai (aJ (i:=2) nd rfl (Or.inl rfl) Cc)
   (ai (cc PassesOwn.never rfl (pZ rfl T.b_range (aa (aB br rfl T.b_len (by kernel_rfl) (aa (ab 1) ag)) (aa (AI B9 ak) (aa (AI B9 ak) ag)))) (aH (i:=3) nd rfl (Or.inl rfl)) (ai (sQ hr.units1 (ab 2) (aa (ab 3) (aa (ab 3) ag)) ak)
   (av (cc PassesOwn.never rfl (pZ rfl T.b_range (aa (aM aR (ab 3) ak) (aa (aM aR (aB br rfl T.b_len (by kernel_rfl) (aa (ab 1) ag)) ak) (aa ak ag)))) (aH (i:=4) nd rfl (Or.inl rfl)) (ai (aJ (i:=5) nd rfl (Or.inl rfl) ak)
   (ai (cc PassesOwn.never rfl (pZ rfl T.b_range (aa (aM aR (ab 3) ak) (aa (ab 4) (aa ak ag)))) (aH (i:=6) nd rfl (Or.inl rfl)) (av (cf (xh (qh (sR false rfl hr.units1 (aa (aM aR (ab 3) ak) (aa (ab 6) ag)) (ab 2) rfl) (lA (sR false rfl hr.units1 (aa (aM aR (ab 6) ak) (aa (ab 4) ag)) (ab 2) rfl)))) (av (cf (lX (qd g_l_cancels hr (aa (ab 0) (aa (aX aV (ab 1) (ab 3) (fun _ _=>rfl)) (aa (aX aV (ab 1) (ab 6) (fun _ _=>rfl)) ag))))) (av (aJ (i:=5) nd rfl (Or.inl rfl) (aM aR (ab 5) (aM xK (va hr.units1 (ab 2) (aa (aM aR (ab 3) ak) (aa (ab 6) ag)) (fun _ _=>rfl)) (va hr.units1 (ab 2) (aa (aM aR (ab 6) ak) (aa (ab 4) ag)) (fun _ _=>rfl)))))) bz)) bz)))
   (av (cf (bh EX (ab 5) ak nbh) (av (sQ hr.units1 (ab 2) (aa (ab 3) (aa (ab 4) ag)) (ab 5))) bz))))))))
   (av (aT (ab 2))))),fun ds M R hl hS=>?_⟩)
 obtain⟨ord,ao,p,kvs,row,rfl,hM,hA,hl,hr2,k⟩:=hS
 walk_at "rd"
 intro q hq
 have hpq:p≠q:=by rintro rfl;rw[hM]at hq;cases hq
 rw[List.length_map]
 refine⟨_,_,_,⟨rfl,rfl,rfl⟩,Or.inr rfl,⟨by omega,by omega,by omega,by omega⟩,?_⟩
 rw[Iq]
 have hsg:∀i,i<row.length->(sg row i).1∈ao:=fun i hi=>by
  have:sg row i=row[i]:=by simp[sg,hi]
  rw[this];exact hr2 _ (List.getElem_mem hi)
 refine aK (fun i Δ M'=>∃(tb:List (List Key×D)) (x3 x4 x5 x6:Option D),Δ=[some (D.ref p),some (D.lst (row.map aE)),some (D.ref q),x3,x4,x5,x6]/\M'=aw M q (.dT tb)/\(∀b e:Nat,bp tb [.inl (b:Int),.inl (e:Int)]=if row.length<b+i/\b<=e/\e<=row.length/\0<W (rel ord) (seg row b e)then some (.int (W (rel ord) (seg row b e):Nat))else none)/\tb.length<=100*i)
  ⟨[],_,_,_,_,rfl,rfl,fun b e=>by rw[if_neg (by omega)];rfl,Nat.zero_le _⟩ ?_ ?_
 ·rintro i d Δ M' X hd ⟨tb,x3,x4,x5,x6,rfl,rfl,hT,htl⟩ k'
  obtain⟨hi,rfl⟩:=jD hd
  obtain⟨b0,hb0⟩:∃b0:Nat,b0+i=row.length:=⟨row.length-i,by omega⟩
  have eb:(row.length:Int)+(i:Int)*(-1)=(b0:Int):=by omega
  rw[eb]
  simp only[bf]
  walk_at "rd"
  rw[List.length_map]
  refine⟨sz3 2,Nat.lt_of_lt_of_le (by omega:tb.length<16000000) (szB 16000000),_,_,_,⟨rfl,rfl,rfl⟩,Or.inl rfl,⟨by omega,by omega,by omega,by omega⟩,?_⟩
  have c1:(b0:Int)+2=((b0+2:Nat):Int):=by omega
  have c2:(row.length:Int)+1=((row.length+1:Nat):Int):=by omega
  rw[c1,c2,CH]
  refine aK (fun m Δ M'=>∃(tb:List (List Key×D)) (x4 x5 x6:Option D),Δ=[some (D.ref p),some (D.lst (row.map aE)),some (D.ref q),some (D.int b0),x4,x5,x6]/\M'=aw M q (.dT tb)/\(∀b e:Nat,bp tb [.inl (b:Int),.inl (e:Int)]=if(row.length<b+i∨(b=b0/\e<b0+2+2*m))/\b<=e/\e<=row.length/\0<W (rel ord) (seg row b e)then some (.int (W (rel ord) (seg row b e):Nat))else none)/\tb.length<=100*i+1+m)
   ⟨_,_,_,_,rfl,rfl,fun b e=>?_,Nat.le_trans (gG _ _ _) (by omega)⟩ ?_ ?_
  ·rw[my]
   by_cases c:b=b0/\e=b0
   ·rw[if_pos (pH.mpr c)]
    obtain⟨rfl,rfl⟩:=c
    rw[yw,qZ,if_pos ⟨by omega,by omega,by omega,by omega⟩];rfl
   ·rw[if_neg (fun z=>c (pH.mp z)),hT b e]
    by_cases g:row.length<b+i/\b<=e/\e<=row.length/\0<W (rel ord) (seg row b e)
    ·rw[if_pos g,if_pos ⟨.inl g.1,g.2⟩]
    ·rw[if_neg g,if_neg ?_]
     rintro⟨h1,h2,h3,h4⟩
     rcases h1 with h1|h1
     ·exact g ⟨h1,h2,h3,h4⟩
     ·have he:e=b0+1:=by omega
      rw[rN _ _ (Nat.le_refl _) (by rw[fQ h3];omega)]at h4
      omega
  ·rintro m d Δ M' X2 hd2 ⟨tb,x4,x5,x6,rfl,rfl,hT,htl⟩ k2
   obtain⟨hm,rfl⟩:=jD hd2
   obtain⟨e0,he0⟩:∃e0:Nat,e0=b0+2+2*m:=⟨_,rfl⟩
   have ee:((b0+2:Nat):Int)+(m:Int)*2=(e0:Int):=by omega
   rw[ee]
   have hen:e0<=row.length:=by omega
   simp only[bf]
   walk_at "rd"
   refine⟨_,_,_,⟨rfl,rfl,rfl⟩,Or.inl rfl,⟨by omega,by omega,by omega,by omega⟩,?_⟩
   have c3:(b0:Int)+1=((b0+1:Nat):Int):=by omega
   rw[c3,CH,show(e0-(b0+1)+1) / 2=(e0-b0) / 2 by omega]
   refine aK (fun j Δ M'=>∃x6:Option D,Δ=[some (D.ref p),some (D.lst (row.map aE)),some (D.ref q),some (D.int b0),some (D.int e0),some (D.int (((List.range j).map fun j=>if rel ord (sg row b0) (sg row (b0+1+2*j))=true then W (rel ord) (seg row (b0+1) (b0+1+2*j))*W (rel ord) (seg row (b0+1+2*j+1) e0)else 0).sum:Nat)),x6]/\M'=aw M q (.dT tb))
    ⟨_,rfl,rfl⟩ ?_ ?_
   ·rintro j d Δ M' X3 hd3 ⟨x6,rfl,rfl⟩ k3
    obtain⟨hj,rfl⟩:=jD hd3
    obtain⟨pl,hpl⟩:∃pl:Nat,pl=b0+1+2*j:=⟨_,rfl⟩
    have ep:((b0+1:Nat):Int)+(j:Int)*2=(pl:Int):=by omega
    rw[ep]
    have hpe:pl<e0:=by omega
    have g1:=hT (b0+1) pl
    have g2:=hT (pl+1) e0
    rw[Int.natCast_add]at g1 g2
    have g1':bp tb [Sum.inl ((b0:Int)+1),Sum.inl (pl:Int)]=if 0<W (rel ord) (seg row (b0+1) pl)then some (.int (W (rel ord) (seg row (b0+1) pl):Nat))else none :=
     g1.trans (Cr ⟨fun z=>z.2.2.2,fun z=>⟨.inl (by omega),by omega,by omega,z⟩⟩)
    have g2':bp tb [Sum.inl ((pl:Int)+1),Sum.inl (e0:Int)]=if 0<W (rel ord) (seg row (pl+1) e0)then some (.int (W (rel ord) (seg row (pl+1) e0):Nat))else none :=
     g2.trans (Cr ⟨fun z=>z.2.2.2,fun z=>⟨.inl (by omega),by omega,by omega,z⟩⟩)
    have es:((List.range (j+1)).map fun j=>if rel ord (sg row b0) (sg row (b0+1+2*j))=true then W (rel ord) (seg row (b0+1) (b0+1+2*j))*W (rel ord) (seg row (b0+1+2*j+1) e0)else 0).sum=((List.range j).map fun j=>if rel ord (sg row b0) (sg row (b0+1+2*j))=true then W (rel ord) (seg row (b0+1) (b0+1+2*j))*W (rel ord) (seg row (b0+1+2*j+1) e0)else 0).sum+(if rel ord (sg row b0) (sg row pl)=true then W (rel ord) (seg row (b0+1) pl)*W (rel ord) (seg row (pl+1) e0)else 0):=by
     rw[List.range_succ,List.map_append,List.sum_append,hpl]
     simp
    have k4:=fun(x:Option D)=>k3 _ _ ⟨x,rfl,rfl⟩
    rw[es]at k4
    clear k3 es
    simp only[bf]
    walk_at "rd"
    rw[Bool.false_xor,Bool.false_xor,Hj g1',Hj g2']
    refine⟨sz3 2,cE (fun h1=>⟨sz3 2,cE (fun h2=>?_) (fun h2=>?_)⟩) (fun h1=>?_)⟩
    ·have w1:0<W (rel ord) (seg row (b0+1) pl):=by simpa using h1
     have w2:0<W (rel ord) (seg row (pl+1) e0):=by simpa using h2
     refine⟨_,CM (by omega),_,CM (by omega),ord,ao,p,kvs,sg row b0,sg row pl,rfl,by rw[au hpq];exact hM,hA,hsg _ (by omega),hsg _ (by omega),_,rfl,cE (fun hc=>?_) (fun hc=>?_)⟩
     ·refine⟨tb,aj,sz3 2,_,g1'.trans (if_pos w1),tb,aj,sz3 2,_,g2'.trans (if_pos w2),_,if_pos (Or.inr ⟨vz (by rw[fQ (by omega)];omega),vz (by rw[fQ (by omega)];omega)⟩),_,rfl,?_⟩
      have k5:=k4 (some (D.int pl))
      rw[if_pos hc,Int.natCast_add,Int.natCast_mul]at k5
      exact k5
     ·have k5:=k4 (some (D.int pl))
      rw[if_neg hc,Nat.add_zero]at k5
      exact k5
    ·have w2:W (rel ord) (seg row (pl+1) e0)=0:=by
      have:¬ 0<W (rel ord) (seg row (pl+1) e0):=by simpa using h2
      omega
     have k5:=k4 (some (D.int pl))
     rw[w2,Nat.mul_zero,ite_self,Nat.add_zero]at k5
     exact k5
    ·have w1:W (rel ord) (seg row (b0+1) pl)=0:=by
      have:¬ 0<W (rel ord) (seg row (b0+1) pl):=by simpa using h1
      omega
     have k5:=k4 (some (D.int pl))
     rw[w1,Nat.zero_mul,ite_self,Nat.add_zero]at k5
     exact k5
   ·rintro Δ M' ⟨x6,rfl,rfl⟩
    have e2:(lQ ((b0+1:Nat):Int) 2 ((e0-b0) / 2)).length=(e0-b0) / 2:=by simp[lQ]
    rw[e2,<-FK (by omega) hen]
    walk_at "rd"
    refine cE (fun h=>⟨sz3 2,Nat.lt_of_lt_of_le (by omega:tb.length<16000000) (szB 16000000),?_⟩) (fun h=>?_)
    ·refine k2 _ _ ⟨_,_,_,_,rfl,rfl,fun b e=>?_,Nat.le_trans (gG _ _ _) (by omega)⟩
     rw[my]
     by_cases c:b=b0/\e=e0
     ·rw[if_pos (pH.mpr c)]
      obtain⟨rfl,rfl⟩:=c
      rw[if_pos ⟨.inr ⟨rfl,by omega⟩,by omega,by omega,by omega⟩]
     ·rw[if_neg (fun z=>c (pH.mp z)),hT b e]
      by_cases g:(row.length<b+i∨(b=b0/\e<b0+2+2*m))/\b<=e/\e<=row.length/\0<W (rel ord) (seg row b e)
      ·rw[if_pos g,if_pos ⟨by omega,g.2⟩]
      ·rw[if_neg g,if_neg ?_]
       rintro⟨z1,z2,z3,z4⟩
       by_cases ho2:(e-b) % 2=1
       ·rw[rN _ _ (Nat.le_refl _) (by rw[fQ z3];exact ho2)]at z4;omega
       ·exact g ⟨by omega,z2,z3,z4⟩
    ·have w0:W (rel ord) (seg row b0 e0)=0:=by omega
     refine k2 _ _ ⟨_,_,_,_,rfl,rfl,fun b e=>?_,by omega⟩
     rw[hT b e]
     by_cases g:(row.length<b+i∨(b=b0/\e<b0+2+2*m))/\b<=e/\e<=row.length/\0<W (rel ord) (seg row b e)
     ·rw[if_pos g,if_pos ⟨by omega,g.2⟩]
     ·rw[if_neg g,if_neg ?_]
      rintro⟨z1,z2,z3,z4⟩
      by_cases ho2:(e-b) % 2=1
      ·rw[rN _ _ (Nat.le_refl _) (by rw[fQ z3];exact ho2)]at z4;omega
      ·by_cases c:b=b0/\e=e0
       ·rw[c.1,c.2,w0]at z4;omega
       ·exact g ⟨by omega,z2,z3,z4⟩
  ·rintro Δ M' ⟨tb,x4,x5,x6,rfl,rfl,hT,htl⟩
   have e2:(lQ ((b0+2:Nat):Int) 2 ((row.length+1-(b0+2)+1) / 2)).length=(row.length+1-(b0+2)+1) / 2:=by simp[lQ]
   rw[e2]at hT htl
   refine k' _ _ ⟨tb,_,_,_,_,rfl,rfl,fun b e=>?_,by omega⟩
   rw[hT b e]
   by_cases g:row.length<b+(i+1)/\b<=e/\e<=row.length/\0<W (rel ord) (seg row b e)
   ·rw[if_pos g,if_pos ⟨by omega,g.2⟩]
   ·rw[if_neg g,if_neg (fun z=>g ⟨by omega,z.2⟩)]
 ·rintro Δ M' ⟨tb,x3,x4,x5,x6,rfl,rfl,hT,htl⟩
  have e2:(lQ (row.length:Int) (-1) (row.length+1)).length=row.length+1:=by simp[lQ]
  rw[e2]at hT
  walk_at "rd"
  refine k q tb hq ?_
  have h:=hT 0 row.length
  rw[Br]at h
  have h':bp tb [Sum.inl 0,Sum.inl (row.length:Int)]=_:=h
  rw[h']
  by_cases c:0<W (rel ord) row
  ·rw[if_pos ⟨by omega,by omega,by omega,c⟩];rfl
  ·rw[if_neg (fun z=>c z.2.2.2),show W (rel ord) row=0 by omega];rfl
end
section
variable{P:Program}{w:World}{K:PySem.W.Frag}{mg:Str->Option Value}{base:Heap}
def lL:SpD:=fun ds M Q=>∃(p:Addr) (l:List D) (ao:List Str) (w:Int),ds=[.ref p,.lst (ao.map .str),.int w]/\M p=some (.lst l)/\aS l/\ao≠[]/\ao.length<=9/\0<=w/\w<=100/\∀(m:Str) (t:Int) l',m∈ao->aS l'->Q (aE (m,t)) (aw M p (.lst l'))
theorem wU{f:Addr}{fd:FuncData}(F:Fun K "_law_sign" "_law_sign" mh f fd) (T:Txt K mg) (g_l_draw:FnD P w K mg base "_law_draw" 1 2 cq):ba P w K mg base CX0 2 f fd ["_law_well_here","_law_marks_here","_law_wide"] (spD K 3 lL):=by
 have nd:=ou.nd
 refine F.okQ rfl ou (fun cdv A outer s H E hr=>⟨_,(av (aT (bU (aa (aX aV (ab 1) (qd g_l_draw hr (aa (ab 0) (aa (aB br rfl T.b_len (by kernel_rfl) (aa (ab 1) ag)) ag))) (fun _ _=>rfl)) (aa (aM CF (qd g_l_draw hr (aa (ab 0) (aa (aM aR (aM cW ak (ab 2)) ak) ag))) (ab 2)) ag))))),fun ds M R hl hS=>?_⟩)
 obtain⟨p,l,ao,w,rfl,hM,hP,hm,hml,h0,h1,k⟩:=hS
 walk_at "rd"
 rw[List.length_map]
 have hmp:=List.length_pos_iff.mpr hm
 refine⟨p,l,_,rfl,hM,hP,by omega,by omega,fun v l1 a0 a1 hP1=>?_⟩
 obtain⟨m,hm1,e1⟩:=eA a0 a1
 refine⟨_,e1,p,l1,_,rfl,aj,hP1,by omega,by omega,fun v2 l2 b0 b1 hP2=>?_⟩
 rw[aF]
 exact⟨_,rfl,sz3 2,k m _ l2 hm1 hP2⟩
def kM:SpD:=fun ds M Q=>∃(ord:List (Str×Str)) (p pa:Addr) (l:List D) (kvs:List (List Key×D)) (ao:List Str) (x:Str×Int),ds=[.ref p,.ref pa,.lst (ao.map .str),aE x]/\M p=some (.lst l)/\M pa=some (.dT kvs)/\aS l/\Abv ord ao kvs/\ao.length<=9/\x.1∈ao /\
 ∀(y:Str×Int) l',y.1∈ao->aS l'->Q (aE y) (aw M p (.lst l'))
theorem qg{f:Addr}{fd:FuncData}(F:Fun K "_law_partner" "_law_partner" fc f fd) (T:Txt K mg) (g_l_cancels:FnD P w K mg base "_law_cancels" 1 3 gW) (g_l_draw:FnD P w K mg base "_law_draw" 1 2 cq):ba P w K mg base CX0 2 f fd ["_law_well_here","_law_above_here","_law_marks_here","_law_sign_here"] (spD K 4 kM):=by
 have nd:=jf.nd
 refine F.okQ rfl jf (fun cdv A outer s H E hr=>⟨_,(ai (qq (i:=4) nd rfl rfl rfl (ms:=[false,true,false,true,false]) (ah:=["_law_mark"]) (aQ rfl (show aZ (am fc) h8 _ _=true from by decide +kernel)) rfl (cj (ab 2)) (aU (i:=5) (show(h8++_).Nodup from by decide +kernel) rfl rfl) (fun _ _ _ _=>(pJ (lX (qd g_l_cancels hr (aa (ab 1) (aa (ab 3) (aa (bU (aa (ab 5) (aa (aM aR (aX aV (ab 3) ak (fun _ _=>rfl)) ak) ag))) ag))))))) (fun _ _ _ _=>(ab 5)))
   (av (i8 (bU (aa (aX aV (ab 4) (qd g_l_draw hr (aa (ab 0) (aa (aB br rfl T.b_len (by kernel_rfl) (aa (ab 4) ag)) ag))) (fun _ _=>rfl)) (aa (aM aR (aX aV (ab 3) ak (fun _ _=>rfl)) ak) ag)))))),fun ds M R hl hS=>?_⟩)
 obtain⟨ord,p,pa,l,kvs,ao,⟨a,t⟩,rfl,hM,hMa,hP,hA,hml,hx,k⟩:=hS
 simp only[aE]
 walk_at "rd"
 intro hz
 refine⟨hz,bq D.str (fun m=>rel ord (a,t) (m,t+1)) D.str (fun Δ=>∃x,Δ=[none,some (D.ref pa),none,some (D.tup [D.str a,D.int t]),none,x]) ao _ _ (fun m hm Δ hΔ=>?_) ⟨none,rfl⟩ ?_⟩
 ·obtain⟨x,rfl⟩:=hΔ
  refine⟨_,rfl,⟨_,rfl⟩,fun Q1 q=>?_,fun _ Q2 q=>?_⟩
  ·walk_at "rd"
   exact⟨sz3 2,ord,ao,pa,kvs,(a,t),(m,t+1),rfl,hMa,hA,hx,hm,_,rfl,q⟩
  ·walk_at "rd"
   exact q
 ·rw[List.nil_append]
  have hmem:a∈ao.filter (fun m=>rel ord (a,t) (m,t+1)):=List.mem_filter.mpr ⟨hx,by simp[rel,Bp]⟩
  have hsub:∀m∈ao.filter (fun m=>rel ord (a,t) (m,t+1)),m∈ao:=fun m h=>(List.mem_filter.mp h).1
  have bj:(ao.filter (fun m=>rel ord (a,t) (m,t+1))).length<=ao.length:=List.length_filter_le _ _
  generalize ao.filter (fun m=>rel ord (a,t) (m,t+1))=F at hmem hsub bj
  have hpos:=List.length_pos_of_mem hmem
  rw[List.length_map]
  refine⟨p,l,_,rfl,hM,hP,by omega,by omega,fun v l1 a0 a1 hP1=>?_⟩
  obtain⟨m,hm1,e1⟩:=eA a0 a1
  exact⟨_,e1,sz3 2,_,LeM.refl,k (m,t+1) l1 (hsub m hm1) hP1⟩
end
section
variable{P:Program}{w:World}{K:PySem.W.Frag}{mg:Str->Option Value}{base:Heap}
def fA:List Nat:=[104,101,115,116,119,111,114,100,97,98,99,102,103,105,106,107,108,109,110,112,113,117,118,120,121,122]
theorem Aq:Str.ofString "hestwordabcfgijklmnpquvxyz"=tx fA:=by decide +kernel
theorem BP:∀a<26,∀b<26,a≠b->fA.getD a 0≠fA.getD b 0:=by decide +kernel
theorem rq:∀a<26,fA.getD a 0∈AX:=by decide +kernel
theorem Am{v:Int}(h0:0<=v) (h1:v<26):ixD (.str (Str.ofString "hestwordabcfgijklmnpquvxyz")) (.int v)=some (.str (tx [fA.getD v.toNat 0])):=by
 obtain⟨n,rfl⟩:=Int.eq_ofNat_of_zero_le h0
 have hn:n<26:=by omega
 rw[Aq,CI,if_pos (show(tx fA).length<=sizeLine from by decide +kernel)]
 have e:(tx fA).cps.toList[n]?=some (fA.getD n 0):=by
  show fA[n]?=_
  rw[List.getD_eq_getElem?_getD,List.getElem?_eq_getElem (by simpa[fA]using hn)];rfl
 rw[bN e]
 rfl
theorem sf{c:Nat}:∀(n:Nat) (acc:Array Nat),((List.replicate n #[c]).foldl (·++·) acc).toList=acc.toList++List.replicate n c
 |0,acc=>by simp
 |n+1,acc=>by
  rw[List.replicate_succ,List.foldl_cons,sf n,List.replicate_succ]
  simp
theorem xJ{c:Nat}{n:Int}(h:0<=n):Txt.mul (tx [c]) n=tx (List.replicate n.toNat c):=by
 unfold Txt.mul
 by_cases h1:n<1
 ·rw[if_pos h1,show n.toNat=0 by omega];rfl
 ·rw[if_neg h1]
  by_cases h2:n=1
  ·rw[if_pos (by simp[h2]),h2];rfl
  ·rw[if_neg (by
    have:(tx [c]).length=1:=rfl
    simp[h2,this])]
   show Str.mk _=Str.mk _
   congr 1
   apply Array.ext'
   have:=sf (c:=c) n.toNat #[]
   rw[List.nil_append]at this
   exact this
theorem sv{g:Nat->Str}{n f pos:Nat}(hn:n<=26) (h:∀k<n,(g k).cps.toList[pos]?=some (fA.getD ((f+k) % 26) 0)):((List.range n).map g).Nodup:=by
 unfold List.Nodup
 rw[List.pairwise_map,List.pairwise_iff_getElem]
 intro i j hi hj hij
 simp only[List.length_range]at hi hj
 simp only[List.getElem_range]
 intro e
 have h1:=h i hi
 rw[e,h j hj]at h1
 exact BP _ (Nat.mod_lt _ (by decide)) _ (Nat.mod_lt _ (by decide)) (by omega) (Option.some.inj h1)
theorem vq{cs:List Nat}(h1:1<=cs.length) (h2:cs.length<=8) (h3:∀c∈cs,c∈AX):eE (tx cs):=⟨h1,h2,h3⟩
def wA(f k:Nat):Str:=tx (List.replicate (1+k % 8) (fA.getD ((f+k) % 26) 0))
def wB(f k:Nat):Str:=tx (119::fA.getD ((f+k) % 26) 0::List.replicate (k % 3) 115)
theorem zJ{a b:List Nat}:tx a++tx b=tx (a++b):=by
 show Str.mk _=Str.mk _
 congr 1
 apply Array.ext'
 simp[tx]
def nW:SpD:=fun ds M R=>∃(p:Addr) (l:List D) (n:Nat),ds=[.ref p,.int (n:Int)]/\M p=some (.lst l)/\aS l/\n<=6/\∀(ws:List Str) l',ws.length=n->ws.Nodup->(∀w∈ws,eE w)->aS l'->R (.lst (ws.map .str)) (aw M p (.lst l'))
theorem uc{f:Addr}{fd:FuncData}(F:Fun K "_law_words" "_law_words" fo f fd) (T:Txt K mg) (g_l_draw:FnD P w K mg base "_law_draw" 1 2 cq):ba P w K mg base CX0 2 f fd ["_law_well_here","_law_size"] (spD K 2 nW):=by
 have nd:=ma.nd
 refine F.okQ rfl ma (fun cdv A outer s H E hr=>⟨_,(ai (aJ (i:=2) nd rfl (Or.inr rfl) vH)
   (ai (aJ (i:=3) nd rfl (Or.inr rfl) (qd g_l_draw hr (aa (ab 0) (aa ak ag))))
   (ai (cf (bh (gx hr.units) (qd g_l_draw hr (aa (ab 0) (aa ak ag))) ak nbh) (av (aT (iz (ms:=[false,false,true,true]) (ah:=["_law_k"]) (aQ rfl (show aZ (am fo) fq _ _=true from by decide +kernel)) rfl (bx rfl T.b_range (aa (ab 1) ag)) (aU (i:=4) (show(fq++_).Nodup from by decide +kernel) rfl rfl) (fun _ _ _ _=>bY) (fun _ _ _ _=>(aM cW (aX aV (ab 2) (aM eX (aM aR (ab 3) (ab 4)) ak) (fun _ _=>rfl)) (aM aR ak (aM eX (ab 4) ak))))))) bz)
   (av (aT (iz (ms:=[false,false,true,true]) (ah:=["_law_k"]) (aQ rfl (show aZ (am fo) fq _ _=true from by decide +kernel)) rfl (bx rfl T.b_range (aa (ab 1) ag)) (aU (i:=4) (show(fq++_).Nodup from by decide +kernel) rfl rfl) (fun _ _ _ _=>bY) (fun _ _ _ _=>(aM aR (aM aR vH (aX aV (ab 2) (aM eX (aM aR (ab 3) (ab 4)) ak) (fun _ _=>rfl))) (aM cW vH (aM eX (ab 4) ak)))))))))),fun ds M R hl hS=>?_⟩)
 obtain⟨p,l,n,rfl,hM,hP,hn,k⟩:=hS
 walk_at "rd"
 refine⟨p,l,26,rfl,hM,hP,by omega,by omega,fun v l1 a0 a1 hP1=>?_⟩
 obtain⟨f,rfl⟩:=Int.eq_ofNat_of_zero_le a0
 refine⟨p,l1,2,rfl,aj,hP1,by omega,by omega,fun v2 l2 b0 b1 hP2=>?_⟩
 rw[aF]
 have hz:(hV 0 (n:Int).toNat).length<=sizeLine:=by rw[bv];exact sz3 _ (by omega)
 have hc:eQ [false,false,true,true] 1 [some (D.ref p),some (D.int (n:Int)),some (D.str (Str.ofString "hestwordabcfgijklmnpquvxyz")),some (D.int (f:Int))]=[none,none,some (D.str (Str.ofString "hestwordabcfgijklmnpquvxyz")),some (D.int (f:Int)),none]:=rfl
 have hix:∀i:Nat,ixD (.str (Str.ofString "hestwordabcfgijklmnpquvxyz")) (.int (((f:Int)+(0+(i:Int))) % 26))=some (.str (tx [fA.getD ((f+i) % 26) 0])):=fun i=>by
  rw[Am (by omega) (by omega)]
  have:(((f:Int)+(0+(i:Int))) % 26).toNat=(f+i) % 26:=by omega
  rw[this]
 rw[hc]
 refine⟨_,rfl,_,rfl,cE (fun _=>⟨by omega,by omega,hz,?_⟩) (fun _=>⟨by omega,by omega,hz,?_⟩)⟩
 ·rw[Int.toNat_natCast,hV]
  refine bq (fun(i:Nat)=>D.int (0+(i:Int))) (fun _=>true) (fun i=>D.str (wA f i)) (fun Δ=>∃x,Δ=[none,none,some (D.str (Str.ofString "hestwordabcfgijklmnpquvxyz")),some (D.int (f:Int)),x]) _ _ _ ?_ ⟨_,rfl⟩ ?_
  ·rintro i hi Δ ⟨x,rfl⟩
   refine⟨_,rfl,⟨_,rfl⟩,fun Q1 q=>q,fun _ Q2 q=>?_⟩
   walk_at "rd"
   refine⟨_,hix i,.str (wA f i),?_,q⟩
   have hm:Txt.mul (tx [fA.getD ((f+i) % 26) 0]) (1+(0+(i:Int)) % 8)=wA f i:=by
    rw[xJ (by omega),wA,show(1+(0+(i:Int)) % 8).toNat=1+i % 8 by omega]
   rw[<-hm]
   have hl1:(tx [fA.getD ((f+i) % 26) 0]).length=1:=rfl
   exact if_pos ⟨by rw[hl1];decide,by omega,by omega,by rw[hl1];omega⟩
  ·rw[List.filter_eq_self.mpr (fun _ _=>rfl),List.nil_append]
   have e:((List.range n).map fun i=>D.str (wA f i))=((List.range n).map (wA f)).map D.str:=by rw[List.map_map];rfl
   rw[e]
   refine k _ l2 (by simp) (sv (pos:=0) (f:=f) (by omega) fun k hk=>?_) (fun w hw=>?_) hP2
   ·show(List.replicate (1+k % 8) (fA.getD ((f+k) % 26) 0))[0]?=_
    rw[Nat.add_comm,List.replicate_succ];rfl
   ·obtain⟨i,_,rfl⟩:=List.mem_map.mp hw
    refine vq (by simp) (by simp;omega) fun c hc=>?_
    rw[List.eq_of_mem_replicate hc]
    exact rq _ (Nat.mod_lt _ (by decide))
 ·rw[Int.toNat_natCast,hV]
  refine bq (fun(i:Nat)=>D.int (0+(i:Int))) (fun _=>true) (fun i=>D.str (wB f i)) (fun Δ=>∃x,Δ=[none,none,some (D.str (Str.ofString "hestwordabcfgijklmnpquvxyz")),some (D.int (f:Int)),x]) _ _ _ ?_ ⟨_,rfl⟩ ?_
  ·rintro i hi Δ ⟨x,rfl⟩
   refine⟨_,rfl,⟨_,rfl⟩,fun Q1 q=>q,fun _ Q2 q=>?_⟩
   walk_at "rd"
   have hm:Txt.mul (Str.ofString "s") ((0+(i:Int)) % 3)=tx (List.replicate (i % 3) 115):=by
    rw[show Str.ofString "s"=tx [115]from rfl,xJ (by omega),show((0+(i:Int)) % 3).toNat=i % 3 by omega]
   have hl1:(tx [fA.getD ((f+i) % 26) 0]).length=1:=rfl
   have hl2:(tx (List.replicate (i % 3) 115)).length=i % 3:=by show(List.replicate (i % 3) 115).toArray.size=_;simp
   refine⟨_,hix i,tx [119,fA.getD ((f+i) % 26) 0] |> D.str,?_,.str (tx (List.replicate (i % 3) 115)),?_,.str (wB f i),?_,q⟩
   ·rw[lC,px,if_pos (by rw[hl1,sizeLine_eq];decide)]
    rfl
   ·rw[<-hm]
    exact if_pos ⟨by decide,by omega,by omega,by
     have:(Str.ofString "s").length=1:=rfl
     rw[this];omega⟩
   ·rw[lC,lC,px,if_pos (by
     have:(tx [119,fA.getD ((f+i) % 26) 0]).length=2:=rfl
     rw[this,hl2,sizeLine_eq];omega),zJ]
    rfl
  ·rw[List.filter_eq_self.mpr (fun _ _=>rfl),List.nil_append]
   have e:((List.range n).map fun i=>D.str (wB f i))=((List.range n).map (wB f)).map D.str:=by rw[List.map_map];rfl
   rw[e]
   refine k _ l2 (by simp) (sv (pos:=1) (f:=f) (by omega) fun k hk=>rfl) (fun w hw=>?_) hP2
   obtain⟨i,_,rfl⟩:=List.mem_map.mp hw
   refine vq (by simp) (by simp;omega) fun c hc=>?_
   rcases List.mem_cons.mp hc with e|hc
   ·rw[e];decide
   ·rcases List.mem_cons.mp hc with e|hc
    ·rw[e];exact rq _ (Nat.mod_lt _ (by decide))
    ·rw[List.eq_of_mem_replicate hc];decide
end
section
variable{P:Program}{w:World}{K:PySem.W.Frag}{mg:Str->Option Value}{base:Heap}
def iM:SpD:=fun ds M Q=>∃(ord:List (Str×Str)) (p pa:Addr) (l:List D) (kvs:List (List Key×D)) (ao:List Str) (ax:Str) (n:Nat),ds=[.ref p,.ref pa,.lst (ao.map .str),.str ax,.int (n:Int)]/\M p=some (.lst l)/\M pa=some (.dT kvs)/\aS l/\Abv ord ao kvs/\ao≠[]/\ao.length<=9/\ax∈ao/\n<=100 /\
 ∀(row:Row) l' q,row.length=2*n+1->(∀x∈row,x.1∈ao)->aS l'->M q=none->Q (.ref q) (aw (aw M p (.lst l')) q (.lst (row.map aE)))
theorem zF{xs:List D}(h:xs≠[]):L2.cC xs none (some (-1))=xs.take (xs.length-1):=by
 unfold L2.cC
 rw[HT.sIx_none,List.drop_zero,Nat.sub_zero]
 congr 1
 have:=List.length_pos_iff.mpr h
 unfold HT.sIx
 simp
 omega
theorem mV{f:Addr}{fd:FuncData}(F:Fun K "_law_whole_row" "_law_whole_row" dj f fd) (T:Txt K mg) (g_l_draw:FnD P w K mg base "_law_draw" 1 2 cq) (g_l_sign:FnD P w K mg base "_law_sign" 2 3 lL) (g_l_partner:FnD P w K mg base "_law_partner" 2 4 kM):ba P w K mg base CX0 3 f fd ["_law_well_here","_law_above_here","_law_marks_here","_law_goal","_law_pairs"] (spD K 5 iM):=by
 have nd:=gS.nd
 refine F.okQ rfl gS (fun cdv A outer s H E hr=>⟨_,(ai (qq (i:=5) nd rfl rfl rfl (ms:=[false,true,false,true,false,false,false,false,false,false]) (ah:=["_law_mark"]) (aQ rfl (show aZ (am dj) fk _ _=true from by decide +kernel)) rfl (cj (ab 2)) (aU (i:=10) (show(fk++_).Nodup from by decide +kernel) rfl rfl) (fun _ _ _ _=>(pJ (sR false rfl hr.units1 (aa (ab 10) (aa (ab 3) ag)) (ab 1) rfl))) (fun _ _ _ _=>(ab 10)))
   (ai (aJ (i:=6) nd rfl (Or.inl rfl) (lR (aa (bU (aa (aX aV (ab 5) (qd g_l_draw hr (aa (ab 0) (aa (aB br rfl T.b_len (by kernel_rfl) (aa (ab 5) ag)) ag))) (fun _ _=>rfl)) (aa ak ag))) (aa (bU (aa (ab 3) (aa ak ag))) ag))))
   (ai (cc PassesOwn.never rfl (bx rfl T.b_range (aa (ab 4) ag)) (aH (i:=7) nd rfl (Or.inl rfl)) (ai (aJ (i:=8) nd rfl (Or.inl rfl) (qd g_l_draw hr (aa (ab 0) (aa (aB br rfl T.b_len (by kernel_rfl) (aa (ab 6) ag)) ag))))
   (ai (aJ (i:=9) nd rfl (Or.inl rfl) (qd g_l_sign hr (aa (ab 0) (aa (ab 2) (aa ak ag)))))
   (av (aJ (i:=6) nd rfl (Or.inl rfl) (aM aR (aM aR (eK (ab 6) fU (dI (ab 8))) (lR (aa (ab 9) (aa (qd g_l_partner hr (aa (ab 0) (aa (ab 1) (aa (ab 2) (aa (ab 9) ag))))) ag)))) (eK (ab 6) (dI (ab 8)) fU)))))))
   (av (aT (xA (ab 6) fU (dI (AI B9 ak)))))))),fun ds M R hl hS=>?_⟩)
 obtain⟨ord,p,pa,l,kvs,ao,ax,n,rfl,hM,hMa,hP,hA,hm,hml,hg,hn,k⟩:=hS
 have hap:pa≠p:=by rintro rfl;rw[hM]at hMa;cases hMa
 walk_at "rd"
 intro hz
 refine⟨hz,bq D.str (fun m=>rB ord m ax) D.str (fun Δ=>∃x,Δ=[none,some (D.ref pa),none,some (D.str ax),none,none,none,none,none,none,x]) ao _ _ (fun m hm' Δ hΔ=>?_) ⟨none,rfl⟩ ?_⟩
 ·obtain⟨x,rfl⟩:=hΔ
  refine⟨_,rfl,⟨_,rfl⟩,fun Q1 q=>?_,fun _ Q2 q=>⟨_,rfl,q⟩⟩
  walk_at "rd"
  refine⟨sz3 2,kvs,hMa,?_⟩
  rw[hA m ax hm',Bool.false_xor]
  exact q
 rw[List.nil_append]
 have hmem:ax∈ao.filter (fun m=>rB ord m ax):=List.mem_filter.mpr ⟨hg,mT.mpr .refl⟩
 have hsub:∀m∈ao.filter (fun m=>rB ord m ax),m∈ao:=fun m h=>(List.mem_filter.mp h).1
 have bj:(ao.filter (fun m=>rB ord m ax)).length<=ao.length:=List.length_filter_le _ _
 generalize ao.filter (fun m=>rB ord m ax)=F at hmem hsub bj
 have hpos:=List.length_pos_of_mem hmem
 rw[List.length_map]
 refine⟨p,l,_,rfl,hM,hP,by omega,by omega,fun v l1 a0 a1 hP1=>?_⟩
 obtain⟨m1,hm1,e1⟩:=eA a0 a1
 refine⟨_,e1,sz3 2,sz3 2,sz3 2,by omega,by omega,?_⟩
 rw[Int.toNat_natCast]
 refine aK (fun i Δ M'=>∃x7 x8 x9 l row,Δ=[some (D.ref p),some (D.ref pa),some (D.lst (ao.map D.str)),some (D.str ax),some (D.int (n:Int)),some (D.lst (F.map D.str)),some (D.lst (row.map aE)),x7,x8,x9]/\M'=aw M p (.lst l)/\aS l/\row.length=2*i+2/\∀x∈row,x.1∈ao)
  ⟨_,_,_,l1,[(m1,0),(ax,1)],rfl,rfl,hP1,rfl,fun x hx=>?_⟩ ?_ ?_
 ·rcases List.mem_cons.mp hx with e|hx
  ·rw[e];exact hsub _ hm1
  ·rw[List.mem_singleton.mp hx];exact hg
 ·rintro i d Δ M' X hd ⟨x7,x8,x9,l2,row,rfl,rfl,hP2,hrl,hrm⟩ k'
  obtain⟨hi,rfl⟩:=cS hd
  simp only[bf]
  walk_at "rd"
  rw[List.length_map]
  refine⟨p,l2,_,rfl,aj,hP2,by omega,by omega,fun v2 l3 b0 b1 hP3=>?_⟩
  rw[aF]
  obtain⟨at_,rfl⟩:=Int.eq_ofNat_of_zero_le b0
  have hat:at_<row.length:=by omega
  refine⟨p,l3,ao,1,rfl,aj,hP3,hm,hml,by omega,by omega,fun m t l4 hmm hP4=>?_⟩
  rw[aF]
  refine⟨_,rfl,ord,p,pa,l4,kvs,ao,(m,t),rfl,aj,by rw[au hap];exact hMa,hP4,hA,hml,hmm,fun y l5 hy hP5=>?_⟩
  rw[aF]
  have c1:L2.cC (row.map aE) none (some (at_:Int))=(row.take at_).map aE:=by rw[pS,List.map_take]
  have c2:L2.cC (row.map aE) (some (at_:Int)) none=(row.drop at_).map aE:=by rw[qJ,List.map_drop]
  refine⟨sz3 2,.lst ((row.take at_++[(m,t),y]).map aE),?_,_,rfl,.lst ((row.take at_++[(m,t),y]++row.drop at_).map aE),?_,k' _ _ ⟨_,_,_,l5,_,rfl,rfl,hP5,?_,fun x hx=>?_⟩⟩
  ·show kU (.lst (L2.cC (row.map aE) none (some (at_:Int)))) (.lst [aE (m,t),aE y])=_
   rw[c1]
   refine(if_pos (show List.length _+List.length _<=sizeLine by rw[List.length_map,List.length_take,sizeLine_eq];simp;omega)).trans ?_
   rw[List.map_append];rfl
  ·show kU (.lst ((row.take at_++[(m,t),y]).map aE)) (.lst (L2.cC (row.map aE) (some (at_:Int)) none))=_
   rw[c2]
   refine(if_pos (show List.length _+List.length _<=sizeLine by rw[List.length_map,List.length_map,List.length_drop,List.length_append,List.length_take,sizeLine_eq];simp;omega)).trans ?_
   simp only[List.map_append]
  ·simp only[List.length_append,List.length_take,List.length_drop,List.length_cons,List.length_nil];omega
  ·rcases List.mem_append.mp hx with h|h
   ·rcases List.mem_append.mp h with h|h
    ·exact hrm x (List.mem_of_mem_take h)
    ·rcases List.mem_cons.mp h with e|h
     ·rw[e];exact hmm
     ·rw[List.mem_singleton.mp h];exact hy
   ·exact hrm x (List.mem_of_mem_drop h)
 ·rintro Δ M' ⟨x7,x8,x9,l2,row,rfl,rfl,hP2,hrl,hrm⟩
  rw[bv]at hrl
  walk_at "rd"
  intro q hq
  have hne:row.map aE≠[]:=by intro z;have:=congrArg List.length z;simp at this;rw[this]at hrl;simp at hrl
  have hpq:q≠p:=by rintro rfl;rw[aj]at hq;cases hq
  rw[zF hne,List.length_map,<-List.map_take]
  refine k _ l2 q (by rw[List.length_take];omega) (fun x hx=>hrm x (List.mem_of_mem_take hx)) hP2 (by rw[au hpq]at hq;exact hq)
end
section
variable{P:Program}{w:World}{K:PySem.W.Frag}{mg:Str->Option Value}{base:Heap}
theorem zG{S:List Nat}(h5:∀x∈S,x<=5) (hs:S.sum<5*S.length):∃i,∃h:i<S.length,S[i]≠5:=by
 induction S with
 |nil=>simp at hs
 |cons a l ih =>
  by_cases c:a=5
  ·obtain⟨i,h,e⟩:=ih (fun x hx=>h5 x (.tail _ hx)) (by simp at hs;omega)
   exact⟨i+1,by simp;omega,by simpa using e⟩
  ·exact⟨0,by simp,c⟩
theorem AG{S:List Nat}{i v:Nat}(h:i<S.length):(S.set i v).sum+S[i]=S.sum+v:=by
 induction S generalizing i with
 |nil=>simp at h
 |cons a l ih =>
  cases i with
  |zero=>simp;omega
  |succ i =>
   have:=ih (i:=i) (by simpa using h)
   simp at this ⊢
   omega
def eM(S:List Nat):List D:=S.map fun(n:Nat)=>D.int (n:Int)
theorem vM{S:List Nat}{i:Nat}(h:i<S.length):atI (eM S) (i:Int)=some (.int (S[i]:Nat)):=bN (by simp[eM,h])
theorem su{α:Type}{a:α}:∀n:Nat,(List.replicate n [a]).flatten=List.replicate n a
 |0=>rfl
 |n+1=>by rw[List.replicate_succ,List.flatten_cons,su n,List.replicate_succ];rfl
theorem uU{n i:Nat}(h:i<n):ixN n (i:Int)=some i:=by simp[ixN]<;>omega
theorem yB{a m n:Nat}(hm:m≠0):((a+1) % n+(m-1)) % n=(a+m) % n:=by
 rw[Nat.mod_add_mod]
 congr 1
 omega
def nh:SpD:=fun ds M Q=>∃(p:Addr) (l:List D) (row:Row) (n:Nat),ds=[.ref p,.lst (row.map aE),.int (n:Int)]/\M p=some (.lst l)/\aS l/\1<=n/\n<=6/\row.length<=5*n /\
 ∀(ks:List Row) l',ks.length=n->(∀r∈ks,r.length<=5/\∀x∈r,x∈row)->aS l'->Q (.lst (ks.map aP)) (aw M p (.lst l'))
theorem rF{f:Addr}{fd:FuncData}(F:Fun K "_law_pieces" "_law_pieces" iN f fd) (T:Txt K mg) (g_l_draw:FnD P w K mg base "_law_draw" 1 2 cq):ba P w K mg base CX0 2 f fd ["_law_well_here","_law_row","_law_size"] (spD K 3 nh):=by
 have nd:=kJ.nd
 refine F.okQ rfl kJ (fun cdv A outer s H E hr=>⟨_,(ai (aJ (i:=3) nd rfl (Or.inl rfl) (Ex (lR (aa ak ag)) (ab 2)))
   (ai (cc PassesOwn.never rfl (cj (ab 1)) (aH (i:=4) nd rfl (Or.inl rfl)) (ai (aJ (i:=5) nd rfl (Or.inl rfl) (qd g_l_draw hr (aa (ab 0) (aa (ab 2) ag))))
   (ai (uF PassesOwn.never (bh (gx hr.units) (aX aV (ab 3) (ab 5) (fun _ _=>rfl)) ak nbh) (av (aJ (i:=5) nd rfl (Or.inl rfl) (aM eX (aM aR (ab 5) ak) (ab 2)))))
   (av (uV (ab 3) (ab 5) (aM aR (aX aV (ab 3) (ab 5) (fun _ _=>rfl)) ak))))))
   (ai (aJ (i:=6) nd rfl (Or.inl rfl) (fj ag))
   (pX 3 (ai (cc PassesOwn.never rfl (cj (ab 3)) (aH (i:=7) nd rfl (Or.inl rfl)) (ai (fR (oV (ab 6) (bF di rfl T.b_tuple (by kernel_rfl) (aa (eK (ab 1) fU (dI (ab 7))) ag))))
   (av (aJ (i:=1) nd rfl (Or.inl rfl) (eK (ab 1) (dI (ab 7)) fU)))))
   (av (xQ (ab 6)))))))),fun ds M R hl hS=>?_⟩)
 obtain⟨p,l,row,n,rfl,hM,hP,hn1,hn6,hrow,k⟩:=hS
 walk_at "rd"
 refine⟨sz3 1,by omega,by omega,by rw[sizeLine_eq];omega,fun q hq _=>?_⟩
 have hpq:p≠q:=by rintro rfl;rw[hM]at hq;cases hq
 have h00:(List.replicate (n:Int).toNat [D.int 0]).flatten=eM (List.replicate n 0):=by
  rw[Int.toNat_natCast]
  unfold eM
  rw[List.map_replicate]
  exact su n
 rw[h00]
 have hcm:∀l3 l4 es,aw (aw (aw M p (.lst l3)) q (.lst es)) p (.lst l4)=aw (aw M p (.lst l4)) q (.lst es):=fun l3 l4 es=>by
  rw[<-bJ hpq,aF]
 refine aK (fun i Δ M'=>∃x4 x5 l S,Δ=[some (D.ref p),some (D.lst (row.map aE)),some (D.int (n:Int)),some (D.ref q),x4,x5,none,none]/\M'=aw (aw M p (.lst l)) q (.lst (eM S))/\aS l/\S.length=n/\S.sum=i/\∀x∈S,x<=5)
  ⟨_,_,l,List.replicate n 0,rfl,by rw[nS hM],hP,by simp,by simp,fun x hx=>by rw[List.eq_of_mem_replicate hx];omega⟩ ?_ ?_
 ·rintro i d Δ M' X hd ⟨x4,x5,l2,S,rfl,rfl,hP2,hSl,hSs,hS5⟩ k'
  obtain⟨x,hx,rfl⟩:=cF hd
  have hi:i<row.length:=(List.getElem?_eq_some_iff.mp hx).1
  simp only[bf]
  walk_at "rd"
  refine⟨p,l2,_,rfl,by rw[au hpq,aj],hP2,by omega,by omega,fun v l3 a0 a1 hP3=>?_⟩
  rw[hcm]
  obtain⟨a,rfl⟩:=Int.eq_ofNat_of_zero_le a0
  obtain⟨j,hj,hj5⟩:=zG hS5 (by omega)
  have han:a<n:=by omega
  refine⟨fun m Δ' M''=>∃a:Nat,a<n/\Δ'=[some (D.ref p),some (D.lst (row.map aE)),some (D.int (n:Int)),some (D.ref q),some (aE x),some (D.int (a:Int)),none,none]/\M''=aw (aw M p (.lst l3)) q (.lst (eM S))/\S.getD ((a+m) % n) 5≠5,⟨j+n-a,a,han,rfl,rfl,?_⟩,?_⟩
  ·have e:(a+(j+n-a)) % n=j:=by
    rw[show a+(j+n-a)=j+n by omega,Nat.add_mod_right,Nat.mod_eq_of_lt (by omega)]
   rw[e,List.getD_eq_getElem?_getD,List.getElem?_eq_getElem hj];exact hj5
  rintro m Δ' M'' ⟨a,han,rfl,rfl,hne⟩
  have ha:a<S.length:=by omega
  have hrd:rdM (aw (aw M p (.lst l3)) q (.lst (eM S))) (.ref q)=.lst (eM S):=dN aj
  refine⟨_,rfl,_,rfl,.int (S[a]:Nat),by rw[hrd];exact vM ha,_,rfl,_,rfl,cE (fun c=>?_) (fun c=>?_)⟩
  ·have c5:S[a]=5:=by
    have:((S[a]:Nat):Int)=5:=by simpa[rdM,eqD]using c
    omega
   have hm:m≠0:=by
    rintro rfl
    rw[Nat.add_zero,Nat.mod_eq_of_lt han,List.getD_eq_getElem?_getD,List.getElem?_eq_getElem ha]at hne
    exact hne c5
   refine⟨_,rfl,_,rfl,_,rfl,.int (((a:Int)+1) % (n:Int)),?_,m-1,by omega,(a+1) % n,Nat.mod_lt _ (by omega),?_,rfl,?_⟩
   ·show(if 0<(n:Int)then some (D.int (((a:Int)+1) % (n:Int)))else none)=_
    rw[if_pos (by omega)]
   ·rw[Int.natCast_emod,Int.natCast_add];rfl
   ·rw[yB hm];exact hne
  ·have c5:S[a]≠5:=fun z=>c (by simp[rdM,eqD,z])
   have hle:=hS5 _ (List.getElem_mem ha)
   refine⟨_,rfl,_,rfl,.int (S[a]:Nat),by rw[hrd];exact vM ha,.int ((S[a]:Nat)+1),rfl,_,rfl,_,rfl,q,rfl,_,_,rfl,aj,a,?_,?_⟩
   ·have bj:(eM S).length=S.length:=by simp[eM]
    rw[bj]
    exact uU ha
   ·rw[aF]
    refine k' _ _ ⟨_,_,l3,S.set a (S[a]+1),rfl,?_,hP3,by simp[hSl],?_,fun y hy=>?_⟩
    ·unfold eM
     rw[List.map_set,Int.natCast_add];rfl
    ·have:=AG (v:=S[a]+1) ha
     omega
    ·rcases List.mem_or_eq_of_mem_set hy with h|h
     ·exact hS5 y h
     ·omega
 ·rintro Δ M' ⟨x4,x5,l2,S,rfl,rfl,hP2,hSl,hSs,hS5⟩
  walk_at "rd"
  refine⟨Nat.zero_le _,fun r hr2=>?_⟩
  have hqr:q≠r:=by rintro rfl;rw[aj]at hr2;cases hr2
  have hpr:p≠r:=by rintro rfl;rw[au hpq,aj]at hr2;cases hr2
  have hMr:M r=none:=by rw[au (Ne.symm hqr),au (Ne.symm hpr)]at hr2;exact hr2
  have hMq:aw M p (.lst l2) q=none:=by rw[au (Ne.symm hpq)];exact hq
  have hdel:∀es,fK (aw (aw (aw M p (.lst l2)) q (.lst (eM S))) r (.lst es)) q=aw (aw M p (.lst l2)) r (.lst es):=fun es=>by
   rw[bJ hqr,dn (by rw[au hqr];exact hMq)]
  refine⟨_,by rw[au hqr,aj],fun _=>?_⟩
  rw[hdel]
  refine aK (fun i Δ M'=>∃(x7:Option D) (row':Row) (ks:List Row),Δ=[some (D.ref p),some (D.lst (row'.map aE)),some (D.int (n:Int)),some (D.lst (eM S)),x4,x5,some (D.ref r),x7]/\M'=aw (aw M p (.lst l2)) r (.lst (ks.map aP))/\ks.length=i/\(∀y∈ks,y.length<=5/\∀x∈y,x∈row)/\∀x∈row',x∈row)
   ⟨_,row,[],rfl,rfl,rfl,fun _ h=>(by cases h),fun _ h=>h⟩ ?_ ?_
  ·rintro i d Δ M' X hd ⟨x7,row',ks,rfl,rfl,hkl,hks,hr'⟩ k'
   obtain⟨m,hm,rfl⟩:=cF hd
   have hi:i<S.length:=(List.getElem?_eq_some_iff.mp hm).1
   have hm5:=hS5 m (List.mem_of_getElem? hm)
   simp only[bf]
   walk_at "rd"
   have c1:L2.cC (row'.map aE) none (some (m:Int))=(row'.take m).map aE:=by rw[pS,List.map_take]
   have c2:L2.cC (row'.map aE) (some (m:Int)) none=(row'.drop m).map aE:=by rw[qJ,List.map_drop]
   rw[c1,c2]
   refine⟨by rw[List.length_map,sizeLine_eq];omega,k' _ _ ⟨_,row'.drop m,ks++[row'.take m],rfl,?_,by simp[hkl],fun y hy=>?_,fun x hx=>hr' x (List.mem_of_mem_drop hx)⟩⟩
   ·rw[List.map_append];rfl
   ·rcases List.mem_append.mp hy with h|h
    ·exact hks y h
    ·rw[List.mem_singleton.mp h]
     exact⟨by rw[List.length_take];omega,fun x hx=>hr' x (List.mem_of_mem_take hx)⟩
  ·rintro Δ M' ⟨x7,row',ks,rfl,rfl,hkl,hks,hr'⟩
   have hl:(eM S).length=n:=by simp[eM,hSl]
   rw[hl]at hkl
   walk_at "rd"
   rw[dn (by rw[au (Ne.symm hpr)];exact hMr)]
   exact k ks l2 hkl hks hP2
end
section
variable{P:Program}{w:World}{K:PySem.W.Frag}{mg:Str->Option Value}{base:Heap}
def nB(af:List (Str×List Row)):List (Key×D):=af.map fun e=>(.inr e.1,cH e.2)
theorem vd:∀{af:List (Str×List Row)},tJ (af.map cP)=some (nB af)
 |[]=>rfl
 |e::l=>by
  rw[List.map_cons,cP]
  simp only[tJ,vd (af:=l),Option.map_some]
  rfl
theorem ko{af:List (Str×List Row)}(h:(af.map (·.1)).Nodup):sy (.tup (af.map cP))=some (gy (nB af)):=by
 refine Bq vd ?_
 unfold nB
 rw[List.map_map]
 have:((fun x:Key×D=>x.1)∘fun e:Str×List Row=>((.inr e.1:Key),cH e.2))=(fun x:Str=>(Sum.inr x:Key))∘fun e:Str×List Row=>e.1:=rfl
 rw[this,<-List.map_map]
 unfold List.Nodup at h ⊢
 rw[List.pairwise_map]
 exact List.Pairwise.imp (fun hab e=>hab (Sum.inr.inj e)) h
theorem jr{w:Str}:∀{af:List (Str×List Row)},w∈af.map (·.1)->bp (nB af) (.inr w)=some (cH (kin af w))
 |[],h=>by cases h
 |e::l,h=>by
  unfold nB kin
  rw[List.map_cons,List.lookup_cons]
  by_cases c:e.1=w
  ·rw[bQ (by rw[c]),show(w==e.1)=true by simp[c]];rfl
  ·rw[bL (fun z=>c (Sum.inr.inj z)),show(w==e.1)=false by simpa using fun q:w=e.1=>c q.symm]
   rw[List.map_cons]at h
   exact jr ((List.mem_cons.mp h).resolve_left fun z=>c z.symm)
def kF(af:List (Str×List Row)) (rows:List (List Nat)) (w:Str):List (List Nat):=rows.flatMap fun c=>(List.range (kin af w).length).map fun k=>c++[k]
def chC(af:List (Str×List Row)) (ws:List Str):List (List Nat):=ws.foldl (kF af) [[]]
def chD(c:List Nat):D:=.tup (c.map fun(k:Nat)=>.int (k:Int))
theorem uA{af:List (Str×List Row)}{K B:Nat}(he:jt af K B):∀(ws:List Str) (rows:List (List Nat)) (n m:Nat),rows.length<=n->(∀r∈rows,r.length=m)->(ws.foldl (kF af) rows).length<=K ^ ws.length*n/\∀r∈ws.foldl (kF af) rows,r.length=m+ws.length
 |[],rows,n,m,h1,h2=>by simpa using⟨h1,h2⟩
 |w::ws,rows,n,m,h1,h2=>by
  have hk:=ig (af:=af) (w:=w) (P:=fun rs=>rs.length<=K/\∀r∈rs,r.length<=B) ⟨Nat.zero_le _,fun _ h=>by cases h⟩ he
  have ih:=uA he ws (kF af rows w) (n*K) (m+1) (by
   unfold kF
   rw[List.length_flatMap]
   refine Nat.le_trans (c9 (m:=K) fun c _=>by rw[List.length_map,List.length_range];exact hk.1) (Nat.mul_le_mul_right _ h1)) (by
   intro r hr
   obtain⟨c,hc,hr⟩:=List.mem_flatMap.mp hr
   obtain⟨k,_,rfl⟩:=List.mem_map.mp hr
   rw[List.length_append,h2 c hc];rfl)
  rw[List.foldl_cons,List.length_cons,Nat.pow_succ,Nat.mul_assoc,Nat.mul_comm K n]
  refine⟨ih.1,fun r hr=>?_⟩
  have:=ih.2 r hr
  omega
def kN:SpD:=fun ds M R=>∃(ord:List (Str×Str)) (ax:Str) (af:List (Str×List Row)) (ws:List Str),ds=[dE ord ax af,.tup (ws.map .str)]/\(af.map (·.1)).Nodup/\jt af 4 5/\ws.length<=8/\(∀w∈ws,w∈af.map (·.1))/\R (.lst ((chC af ws).map chD)) M
theorem pV{f:Addr}{fd:FuncData}(F:Fun K "_law_choices" "_law_choices" eV f fd) (T:Txt K mg) :ba P w K mg base CX0 1 f fd ["_law_lexicon_here","_law_words_here"] (spD K 2 kN):=by
 have nd:=jc.nd
 refine F.okQ rfl jc (fun cdv A outer s H E hr=>⟨_,(ai (aJ (i:=2) nd rfl (Or.inl rfl) (bF (sX rfl) rfl T.b_dict (by kernel_rfl) (aa (aX aV (ab 0) ak (fun _ _=>rfl)) ag)))
   (ai (aJ (i:=3) nd rfl (Or.inl rfl) (lR (aa (bU ag) ag)))
   (ai (cc PassesOwn.never rfl (cj (ab 1)) (aH (i:=4) nd rfl (Or.inl rfl)) (ai (aJ (i:=5) nd rfl (Or.inl rfl) (fj ag))
   (ai (cc PassesOwn.never rfl (cj (ab 3)) (aH (i:=6) nd rfl (Or.inr rfl)) (av (fR (GJ (ab 5) (iz (ms:=[false,false,false,false,false,false,true]) (ah:=["_law_number"]) (aQ rfl (show aZ (am eV) gM _ _=true from by decide +kernel)) rfl (bx rfl T.b_range (aa (aB br rfl T.b_len (by kernel_rfl) (aa (o6 hr.units1 (ab 2) (ab 4) (fun _ _=>rfl)) ag)) ag)) (aU (i:=7) (show(gM++_).Nodup from by decide +kernel) rfl rfl) (fun _ _ _ _=>bY) (fun _ _ _ _=>(aM aR (ab 6) (bU (aa (ab 7) ag)))))))))
   (pX 5 (av (aJ (i:=3) nd rfl (Or.inl rfl) (ab 5)))))))
   (av (aT (ab 3)))))),fun ds M R hl hS=>?_⟩)
 obtain⟨ord,ax,af,ws,rfl,hnd,he,hwl,hws,k⟩:=hS
 simp only[dE]
 walk_at "rd"
 refine⟨_,ko hnd,Nat.zero_le _,sz3 1,fun _=>?_⟩
 refine aK (fun i Δ M'=>∃x4 x5 x6,Δ=[some (D.tup [D.tup (ord.map aN),D.str ax,D.tup (af.map cP)]),some (D.tup (ws.map D.str)),some (gy (nB af)),some (D.lst ((chC af (ws.take i)).map chD)),x4,x5,x6]/\M'=M) ⟨_,_,_,rfl,rfl⟩ ?_ ?_
 ·rintro i d Δ M' X hd ⟨x4,x5,x6,rfl,rfl⟩ k'
  obtain⟨w,hwi,rfl⟩:=cF hd
  have hi:i<ws.length:=(List.getElem?_eq_some_iff.mp hwi).1
  have hw:=hws w (List.mem_of_getElem? hwi)
  have hk4:=(ig (af:=af) (w:=w) (P:=fun rs=>rs.length<=4/\∀r∈rs,r.length<=5) ⟨Nat.zero_le _,fun _ h=>by cases h⟩ he).1
  have hti:(ws.take i).length=i:=by rw[List.length_take];omega
  have dR:=uA he (ws.take i) [[]] 1 0 (Nat.le_refl _) (by simp)
  rw[hti]at dR
  have h16:4 ^ i*1<=16384:=by
   rw[Nat.mul_one]
   exact Nat.le_trans (Nat.pow_le_pow_right (by decide) (show i<=7 by omega)) (by decide)
  have hnext:chC af (ws.take (i+1))=kF af (chC af (ws.take i)) w:=by
   unfold chC
   rw[List.take_add_one,hwi,List.foldl_append];rfl
  change (chC af (ws.take i)).length<=_/\(∀r∈chC af (ws.take i),_)at dR
  generalize chC af (ws.take i)=rows at *
  have hr1:rows.length<=16384:=by omega
  simp only[bf]
  walk_at "rd"
  refine⟨Nat.zero_le _,fun q hq=>?_⟩
  have hrd:gP (D.lst (rows.map chD))=some (rows.map chD):=rfl
  refine fun _=>?_
  refine aK (fun j Δ M1=>∃x6 out,Δ=[some (D.tup [D.tup (ord.map aN),D.str ax,D.tup (af.map cP)]),some (D.tup (ws.map D.str)),some (gy (nB af)),some (D.lst (rows.map chD)),some (D.str w),some (D.ref q),x6]/\M1=aw M' q (.lst (out.map chD))/\out=((rows.take j).flatMap fun c=>(List.range (kin af w).length).map fun k=>c++[k])/\out.length<=4*j) ⟨_,[],rfl,rfl,by simp,by simp⟩ ?_ ?_
  ·rintro j d Δ M1 X2 hd2 ⟨y6,out,rfl,rfl,hout,hol⟩ k2
   obtain⟨c,hcj,rfl⟩:=cF hd2
   have hj:j<rows.length:=(List.getElem?_eq_some_iff.mp hcj).1
   have hcl:=dR.2 c (List.mem_of_getElem? hcj)
   simp only[bf]
   walk_at "rd"
   have hj2:((kin af w).length:Int).toNat=(kin af w).length:=Int.toNat_natCast _
   refine⟨_,jN,_,jr hw,.int ((kin af w).length:Int),by simp[rdM,cH,fW],_,rfl,by omega,by omega,by rw[bv,hj2,sizeLine_eq];omega,?_⟩
   have hc:eQ [false,false,false,false,false,false,true] 1 [some (D.tup [D.tup (ord.map aN),D.str ax,D.tup (af.map cP)]),some (D.tup (ws.map D.str)),some (gy (nB af)),some (D.lst (rows.map chD)),some (D.str w),some (D.ref q),some (chD c)]=[none,none,none,none,none,none,some (chD c),none]:=rfl
   rw[hc,hj2,hV]
   refine bq (fun(k:Nat)=>D.int (0+(k:Int))) (fun _=>true) (fun k=>chD (c++[k])) (fun Δ=>∃x,Δ=[none,none,none,none,none,none,some (chD c),x]) _ _ _ ?_ ⟨_,rfl⟩ ?_
   ·rintro a ha Δ ⟨x,rfl⟩
    refine⟨_,rfl,⟨_,rfl⟩,fun Q1 q1=>q1,fun _ Q2 q1=>?_⟩
    refine⟨_,rfl,_,rfl,sz3 1,chD (c++[a]),?_,q1⟩
    show kU (.tup (c.map fun(k:Nat)=>D.int (k:Int))) (.tup [D.int (0+(a:Int))])=_
    rw[pE,if_pos (by rw[List.length_map,sizeLine_eq];simp;omega),Int.zero_add]
    simp[chD]
   ·rw[List.filter_eq_self.mpr (fun _ _=>rfl),List.nil_append]
    have hsp:(rows.take (j+1)).flatMap (fun c=>(List.range (kin af w).length).map fun k=>c++[k])=out++(List.range (kin af w).length).map fun k=>c++[k]:=by
     rw[List.take_add_one,hcj,List.flatMap_append,hout];simp
    refine⟨_,aj,by rw[List.length_map,List.length_map,List.length_range,sizeLine_eq];omega,?_⟩
    rw[aF]
    refine k2 _ _ ⟨_,out++(List.range (kin af w).length).map fun k=>c++[k],rfl,?_,hsp.symm,by rw[List.length_append,List.length_map,List.length_range];omega⟩
    rw[List.map_append,List.map_map];rfl
  ·rintro Δ M1 ⟨y6,out,rfl,rfl,hout,hol⟩
   rw[List.length_map,List.take_length]at hout
   have hx:chC af (ws.take (i+1))=out:=by rw[hnext,hout];rfl
   walk_at "rd"
   rw[dn hq]
   exact k' _ _ ⟨_,_,_,by rw[hx],rfl⟩
 ·rintro Δ M' ⟨x4,x5,x6,rfl,rfl⟩
  rw[List.length_map,List.take_length]
  walk_at "rd"
  exact k
def bP(af:List (Str×List Row)):List Str->List Nat->Row
 |w::ws,k::ks=>(kin af w).getD k []++bP af ws ks
 |_,_=>[]
def GV(af:List (Str×List Row)) (ws:List Str) (c:List Nat):Prop:=c.length=ws.length/\∀(i:Nat) (w:Str) (k:Nat),ws[i]?=some w->c[i]?=some k->k<(kin af w).length
theorem rK{af:List (Str×List Row)}:∀{ws:List Str}{c:List Nat}{i:Nat}{w:Str}{k:Nat},ws[i]?=some w->c[i]?=some k->bP af (ws.take (i+1)) (c.take (i+1))=bP af (ws.take i) (c.take i)++(kin af w).getD k []
 |[],_,_,_,_,h,_=>by simp at h
 |_::_,[],_,_,_,_,h=>by simp at h
 |w'::ws,k'::c,0,w,k,h1,h2=>by
  simp only[List.getElem?_cons_zero,Option.some.injEq]at h1 h2
  subst h1;subst h2
  simp[bP]
 |w'::ws,k'::c,i+1,w,k,h1,h2=>by
  simp only[List.getElem?_cons_succ]at h1 h2
  simp only[List.take_succ_cons,bP]
  rw[rK h1 h2,List.append_assoc]
theorem lw{af:List (Str×List Row)}{K B:Nat}(he:jt af K B):∀{ws:List Str}{c:List Nat},(bP af ws c).length<=B*ws.length
 |[],c=>by simp[bP]
 |w::ws,[]=>by simp[bP]
 |w::ws,k::c=>by
  have hk:=(ig (af:=af) (w:=w) (P:=fun rs=>rs.length<=K/\∀r∈rs,r.length<=B) ⟨Nat.zero_le _,fun _ h=>by cases h⟩ he).2
  have hg:((kin af w).getD k []).length<=B:=by
   rw[List.getD_eq_getElem?_getD]
   cases h:(kin af w)[k]? with
   |none=>exact Nat.zero_le _
   |some r=>exact hk r (List.mem_of_getElem? h)
  have ih:=lw he (ws:=ws) (c:=c)
  rw[bP,List.length_append,List.length_cons,Nat.mul_succ]
  omega
def nT:SpD:=fun ds M R=>∃(ord:List (Str×Str)) (ax:Str) (af:List (Str×List Row)) (ws:List Str) (c:List Nat),ds=[dE ord ax af,.tup (ws.map .str),chD c]/\(af.map (·.1)).Nodup/\jt af 4 5/\ws.length<=8/\(∀w∈ws,w∈af.map (·.1))/\GV af ws c/\R (.lst ((bP af ws c++[(ax,1)]).map aE)) M
theorem tw{f:Addr}{fd:FuncData}(F:Fun K "_law_signs" "_law_signs" jQ f fd) (T:Txt K mg) :ba P w K mg base CX0 1 f fd ["_law_lexicon_here","_law_words_here","_law_choice"] (spD K 3 nT):=by
 have nd:=lJ.nd
 refine F.okQ rfl lJ (fun cdv A outer s H E hr=>⟨_,(ai (aJ (i:=3) nd rfl (Or.inl rfl) (bF (sX rfl) rfl T.b_dict (by kernel_rfl) (aa (aX aV (ab 0) ak (fun _ _=>rfl)) ag)))
   (ai (aJ (i:=4) nd rfl (Or.inl rfl) (fj ag))
   (ai (cc PassesOwn.never rfl (bx rfl T.b_range (aa (aB br rfl T.b_len (by kernel_rfl) (aa (ab 1) ag)) ag)) (aH (i:=5) nd rfl (Or.inl rfl)) (av (fR (Fm (ab 4) (aX aV (o6 hr.units1 (ab 3) (aX aV (ab 1) (ab 5) (fun _ _=>rfl)) (fun _ _=>rfl)) (aX aV (ab 2) (ab 5) (fun _ _=>rfl)) (fun _ _=>rfl))))))
   (av (i8 (aM aR (ab 4) (lR (aa (bU (aa (aX aV (ab 0) ak (fun _ _=>rfl)) (aa ak ag))) ag)))))))),fun ds M R hl hS=>?_⟩)
 obtain⟨ord,ax,af,ws,c,rfl,hnd,he,hwl,hws,⟨hcl,hc⟩,k⟩:=hS
 simp only[dE,chD]
 walk_at "rd"
 rw[List.length_map,Int.toNat_natCast]
 refine⟨_,ko hnd,Nat.zero_le _,fun q hq=>⟨by omega,by omega,?_⟩⟩
 refine aK (fun i Δ M'=>∃x5,Δ=[some (D.tup [D.tup (ord.map aN),D.str ax,D.tup (af.map cP)]),some (D.tup (ws.map D.str)),some (D.tup (c.map fun(k:Nat)=>D.int (k:Int))),some (gy (nB af)),some (D.ref q),x5]/\M'=aw M q (.lst ((bP af (ws.take i) (c.take i)).map aE))) ⟨_,rfl,rfl⟩ ?_ ?_
 ·rintro i d Δ M' X hd ⟨x5,rfl,rfl⟩ k'
  obtain⟨hi,rfl⟩:=cS hd
  rw[Int.zero_add]
  have hwi:ws[i]?=some ws[i]:=List.getElem?_eq_getElem hi
  have hci:c[i]?=some (c[i]'(by omega)):=List.getElem?_eq_getElem (by omega)
  generalize ws[i]=w at hwi
  generalize c[i]'(by omega)=kk at hci
  have hkk:=hc i w kk hwi hci
  have hw:=hws w (List.mem_of_getElem? hwi)
  have hk5:=(ig (af:=af) (w:=w) (P:=fun rs=>rs.length<=4/\∀r∈rs,r.length<=5) ⟨Nat.zero_le _,fun _ h=>by cases h⟩ he).2
  have hrow:(kin af w)[kk]?=some ((kin af w).getD kk []):=by simp[hkk]
  have hr5:=hk5 _ (List.mem_of_getElem? hrow)
  have bj:=lw he (ws:=ws.take i) (c:=c.take i)
  rw[List.length_take]at bj
  simp only[bf]
  walk_at "rd"
  refine⟨_,bN (by rw[List.getElem?_map,hwi];rfl),_,jN,.inr w,rfl,_,jr hw,_,bN (by rw[List.getElem?_map,hci];rfl),aP ((kin af w).getD kk []),?_,_,_,rfl,rfl,by rw[List.length_map,List.length_map,sizeLine_eq];omega,?_⟩
  ·show atI ((kin af w).map aP) (kk:Int)=_
   exact bN (by rw[List.getElem?_map,hrow];rfl)
  ·refine k' _ _ ⟨_,rfl,?_⟩
   rw[rK hwi hci,List.map_append]
 ·rintro Δ M' ⟨x5,rfl,rfl⟩
  rw[bv,List.take_length,<-hcl,List.take_length]
  have bj:=lw he (ws:=ws) (c:=c)
  walk_at "rd"
  refine⟨sz3 2,sz3 1,.lst ((bP af ws c++[(ax,1)]).map aE),?_,M,pK hq,k⟩
  rw[List.map_append]
  refine if_pos (show((bP af ws c).map aE).length+1<=sizeLine from ?_)
  rw[List.length_map,sizeLine_eq];omega
def rD:SpD:=fun ds M R=>∃(ord:List (Str×Str)) (ax:Str) (af:List (Str×List Row)) (ws:List Str),ds=[dE ord ax af,.tup (ws.map .str)]/\(af.map (·.1)).Nodup/\jt af 4 5/\ws.length<=8/\(∀w∈ws,w∈af.map (·.1))/\∀b:Bool,R (.bl b) M
theorem vU{f:Addr}{fd:FuncData}(F:Fun K "_law_fits" "_law_fits" ib f fd) (T:Txt K mg) :ba P w K mg base CX0 1 f fd ["_law_lexicon_here","_law_words_here"] (spD K 2 rD):=by
 have nd:=om.nd
 refine F.okQ rfl om (fun cdv A outer s H E hr=>⟨_,(ai (aJ (i:=2) nd rfl (Or.inr rfl) (bF (sX rfl) rfl T.b_dict (by kernel_rfl) (aa (aX aV (ab 0) ak (fun _ _=>rfl)) ag)))
   (av (aT (jL (iH wO (aB br rfl T.b_len (by kernel_rfl) (aa (ab 1) ag)) ak nbh) (nX (iH wO (aB (CO rfl) rfl T.b_sum (by kernel_rfl) (aa (Gw (ms:=[false,false,true]) (ah:=["_law_word"]) (sG rfl (show gC (am ib) g6 _ _=true from by decide +kernel)) rfl (cj (ab 1)) (Bm (i:=3) (show(g6++_).Nodup from by decide +kernel) rfl rfl) (fun S _ _ _ _=>bY) (fun S _ _ _ _=>(aB (CO rfl) rfl T.b_sum (by kernel_rfl) (aa (iz (ms:=[false,false,false,false]) (ah:=["_law_row"]) (vO S (show aZ (lS _ (am ib)) (g6++(["_law_word"]:List Str)) _ _=true from by decide +kernel)) rfl (cj (o6 hr.units1 (ab 2) (ab 3) (fun _ _=>rfl))) (aU (i:=4) (show((g6++(["_law_word"]:List Str))++_).Nodup from by decide +kernel) rfl rfl) (fun _ _ _ _=>bY) (fun _ _ _ _=>(aB br rfl T.b_len (by kernel_rfl) (aa (ab 4) ag)))) ag)))) ag)) ak nbh)))))),fun ds M R hl hS=>?_⟩)
 obtain⟨ord,ax,af,ws,rfl,hnd,he,hwl,hws,k⟩:=hS
 simp only[dE]
 walk_at "rd"
 refine⟨_,ko hnd,cE (fun _ hz=>⟨hz,?_⟩) (fun _=>k _)⟩
 refine bq D.str (fun _=>true) (fun w=>D.int ((((kin af w).map fun r=>(r.length:Int)).sum))) (fun Δ=>∃x,Δ=[none,none,some (gy (nB af)),x]) _ _ _ ?_ ⟨_,rfl⟩ ?_
 ·rintro w hw Δ ⟨x,rfl⟩
  refine⟨_,rfl,⟨_,rfl⟩,fun Q1 q1=>q1,fun _ Q2 q1=>?_⟩
  walk_at "rd"
  refine⟨_,jN,_,jr (hws w hw),(kin af w).map aP,rfl,fun hz2=>⟨hz2,?_⟩⟩
  refine bq aP (fun _=>true) (fun r=>D.int (r.length:Int)) (fun Δ=>∃x,Δ=[none,none,none,none,x]) _ _ _ ?_ ⟨_,rfl⟩ ?_
  ·rintro r hr' Δ ⟨x,rfl⟩
   refine⟨_,rfl,⟨_,rfl⟩,fun Q1 q2=>q2,fun _ Q2 q2=>?_⟩
   exact⟨_,rfl,.int (r.length:Int),by simp[jH,rdM,aP,fW],q2⟩
  ·rw[List.filter_eq_self.mpr (fun _ _=>rfl),List.nil_append]
   refine⟨_,?_,q1⟩
   have:=zq (ns:=(kin af w).map fun r=>(r.length:Int))
   rw[List.map_map]at this
   exact this
 ·rw[List.filter_eq_self.mpr (fun _ _=>rfl),List.nil_append]
  refine⟨.int (ws.map fun w=>((kin af w).map fun r=>(r.length:Int)).sum).sum,?_,_,rfl,k _⟩
  have:=zq (ns:=ws.map fun w=>((kin af w).map fun r=>(r.length:Int)).sum)
  rw[List.map_map]at this
  exact this
def gJ:SpD:=fun ds M R=>∃(p:Addr) (l:List D) (ws:List Str),ds=[.ref p,.tup (ws.map .str)]/\M p=some (.lst l)/\aS l/\ws≠[]/\ws.length<=6/\∀(us:List Str) l',us.length<=6->(∀w∈us,w∈ws)->aS l'->R (.tup (us.map .str)) (aw M p (.lst l'))
theorem lh{f:Addr}{fd:FuncData}(F:Fun K "_law_some_words" "_law_some_words" cR f fd) (T:Txt K mg) (g_l_draw:FnD P w K mg base "_law_draw" 1 2 cq):ba P w K mg base CX0 2 f fd ["_law_well_here","_law_names"] (spD K 2 gJ):=by
 have nd:=gc.nd
 refine F.okQ rfl gc (fun cdv A outer s H E hr=>⟨_,(ai (cf (bh wO (qd g_l_draw hr (aa (ab 0) (aa ak ag))) ak nbh) (av (aT (ab 1))) bz)
   (ai (qq (i:=2) nd rfl rfl rfl (ms:=[true,true,false]) (ah:=["_law_k"]) (aQ rfl (show aZ (am cR) eC _ _=true from by decide +kernel)) rfl (bx rfl T.b_range (aa (qd g_l_draw hr (aa (ab 0) (aa (aM aR (aB br rfl T.b_len (by kernel_rfl) (aa (ab 1) ag)) ak) ag))) ag)) (aU (i:=3) (show(eC++_).Nodup from by decide +kernel) rfl rfl) (fun _ _ _ _=>bY) (fun _ _ _ _=>(aX aV (ab 1) (qd g_l_draw hr (aa (ab 0) (aa (aB br rfl T.b_len (by kernel_rfl) (aa (ab 1) ag)) ag))) (fun _ _=>rfl))))
   (av (aT (bF di rfl T.b_tuple (by kernel_rfl) (aa (ab 2) ag)))))),fun ds M R hl hS=>?_⟩)
 obtain⟨p,l,ws,rfl,hM,hP,hne,hwl,k⟩:=hS
 walk_at "rd"
 have hpos:=List.length_pos_iff.mpr hne
 rw[List.length_map]
 refine⟨p,l,4,rfl,hM,hP,by omega,by omega,fun v l1 a0 a1 hP1=>?_⟩
 refine⟨_,rfl,_,rfl,cE (fun _=>k ws l1 hwl (fun _ h=>h) hP1) (fun _=>?_)⟩
 refine⟨p,l1,_,rfl,aj,hP1,by omega,by omega,fun v2 l2 b0 b1 hP2=>?_⟩
 rw[aF]
 obtain⟨n,rfl⟩:=Int.eq_ofNat_of_zero_le b0
 refine⟨_,rfl,by omega,by omega,by rw[bv];exact sz3 _ (by omega),?_⟩
 rw[Int.toNat_natCast]
 have hc:eQ [true,true,false] 1 [some (D.ref p),some (D.tup (ws.map D.str)),none]=[some (D.ref p),some (D.tup (ws.map D.str)),none,none]:=rfl
 rw[hc]
 refine jq (fun i acc Δ M'=>∃(x:Option D) (us:List Str) (l:List D),Δ=[some (D.ref p),some (D.tup (ws.map D.str)),none,x]/\M'=aw M p (.lst l)/\acc=us.map D.str/\us.length=i/\(∀w∈us,w∈ws)/\aS l) ⟨_,[],l2,rfl,rfl,rfl,rfl,fun _ h=>(by cases h),hP2⟩ ?_ ?_
 ·rintro i d acc Δ M' X hd ⟨x,us,l3,rfl,rfl,rfl,hul,hus,hP3⟩ k'
  obtain⟨hi,rfl⟩:=cS hd
  refine⟨_,rfl,?_⟩
  simp only[qz,if_true]
  walk_at "rd"
  rw[List.length_map]
  refine⟨p,l3,_,rfl,aj,hP3,by omega,by omega,fun v3 l4 c0 c1 hP4=>?_⟩
  rw[aF]
  obtain⟨w,hw,e⟩:=eA c0 c1
  exact⟨_,e,k' _ _ _ ⟨_,us++[w],l4,rfl,rfl,by simp,by simp[hul],fun y hy=>by
   rcases List.mem_append.mp hy with h|h
   ·exact hus y h
   ·rw[List.mem_singleton.mp h];exact hw,hP4⟩⟩
 ·rintro acc Δ M' ⟨x,us,l3,rfl,rfl,rfl,hul,hus,hP3⟩
  rw[bv]at hul
  exact k us l3 (by omega) hus hP3
end
section
variable{P:Program}{w:World}{K:PySem.W.Frag}{mg:Str->Option Value}{base:Heap}
structure iQ(ao:List Str) (af:List (Str×List Row)) (ws:List Str):Prop where
 nd:(af.map (·.1)).Nodup
 few:af.length<=6
 ok:jt af 4 5
 mks:∀e∈af,∀r∈e.2,∀x∈r,x.1∈ao
 wd:∀w∈af.map (·.1),eE w
 wsl:ws.length<=6
 sub:∀w∈ws,w∈af.map (·.1)
def vX(ao:List Str) (e:Str×List Row):Prop:=e.2.length<=4/\(∀r∈e.2,r.length<=5/\∀x∈r,x.1∈ao)/\eE e.1
theorem iQ.good{ao:List Str}{af:List (Str×List Row)}{ws:List Str}(h:iQ ao af ws) {e:Str×List Row}(he:e∈af):vX ao e :=
 ⟨(h.ok e he).1,fun r hr=>⟨(h.ok e he).2 r hr,h.mks e he r hr⟩,h.wd _ (List.mem_map.mpr ⟨e,he,rfl⟩)⟩
theorem iQ.of{ao:List Str}{af:List (Str×List Row)}{ws:List Str}(nd:(af.map (·.1)).Nodup) (few:af.length<=6) (g:∀e∈af,vX ao e) (h1:ws.length<=6) (h2:∀w∈ws,w∈af.map (·.1)):iQ ao af ws :=
 ⟨nd,few,fun e he=>⟨(g e he).1,fun r hr=>((g e he).2.1 r hr).1⟩,fun e he r hr=>((g e he).2.1 r hr).2,fun w hw=>by
  obtain⟨e,he,rfl⟩:=List.mem_map.mp hw
  exact(g e he).2.2,h1,h2⟩
theorem jg{r:Row}:dLe (aP r) 59=true:=by
 show cx (r.map aE) 58=true
 rw[jd]
 intro d hd
 obtain⟨x,_,rfl⟩:=List.mem_map.mp hd
 rfl
def nR:SpD:=fun ds M R=>∃(ord:List (Str×Str)) (ax:Str) (ao:List Str) (af:List (Str×List Row)) (one other:Nat),ds=[dE ord ax af,.tup ((af.map (·.1)).map .str),.int (one:Int),.int (other:Int)]/\iQ ao af (af.map (·.1))/\one<af.length/\other<af.length /\
 ∀ents' ws',iQ ao ents' ws'->R (.tup [dE ord ax ents',.tup (ws'.map .str)]) M
theorem tH{f:Addr}{fd:FuncData}(F:Fun K "_law_twice" "_law_twice" fw f fd) (T:Txt K mg) :ba P w K mg base CX0 1 f fd ["_law_lexicon_here","_law_words_here","_law_one","_law_other"] (spD K 4 nR):=by
 have nd:=m9.nd
 refine F.okQ rfl m9 (fun cdv A outer s H E hr=>⟨_,(ai (ot (ab 0) (gq rfl (bc (aH (i:=4) nd rfl (Or.inl rfl)) (bc (aH (i:=5) nd rfl (Or.inl rfl)) (bc (aH (i:=6) nd rfl (Or.inr rfl)) gn)))))
   (ai (cf (bh (gx hr.units) (ab 2) (ab 3) nbh) (av (aT (bU (aa (ab 0) (aa (ab 1) ag))))) bz)
   (cg (ai (aJ (i:=7) nd rfl (Or.inl rfl) (aM aR (aX aV (aX aV (ab 6) (ab 2) (fun _ _=>rfl)) ak (fun _ _=>rfl)) (bF di rfl T.b_tuple (by kernel_rfl) (aa (iz (ms:=[false,false,true,false,false,false,true,false,false,false,false]) (ah:=["_law_row"]) (aQ rfl (show aZ (am fw) fG _ _=true from by decide +kernel)) rfl (cj (aX aV (aX aV (ab 6) (ab 3) (fun _ _=>rfl)) ak (fun _ _=>rfl))) (aU (i:=11) (show(fG++_).Nodup from by decide +kernel) rfl rfl) (fun _ _ _ _=>(pJ (bh (rV hr.units) (ab 11) (aX aV (aX aV (ab 6) (ab 2) (fun _ _=>rfl)) ak (fun _ _=>rfl)) rfl))) (fun _ _ _ _=>(ab 11))) ag))))
   (cg (ai (cf (bh EX (aB br rfl T.b_len (by kernel_rfl) (aa (ab 7) ag)) ak nbh) (av (aT (bU (aa (ab 0) (aa (ab 1) ag))))) bz)
   (cg (ai (aJ (i:=8) nd rfl (Or.inl rfl) (fj ag))
   (cg (ai (cc PassesOwn.never rfl (bx rfl T.b_range (aa (aB br rfl T.b_len (by kernel_rfl) (aa (ab 6) ag)) ag)) (aH (i:=9) nd rfl (Or.inl rfl)) (av (cf (bh (gx hr.units) (ab 9) (ab 2) nbh) (av (fR (oV (ab 8) (bU (aa (aX aV (aX aV (ab 6) (ab 9) (fun _ _=>rfl)) ak (fun _ _=>rfl)) (aa (ab 7) ag)))))) (av (cf (bh Co (ab 9) (ab 3) nbh) (av (fR (oV (ab 8) (aX aV (ab 6) (ab 9) (fun _ _=>rfl))))) bz)))))
   (cg (ai (aJ (i:=10) nd rfl (Or.inl rfl) (bF di rfl T.b_tuple (by kernel_rfl) (aa (iz (ms:=[false,true,true,true,false,false,false,false,false,false,false]) (ah:=[]) (aQ rfl (show aZ (am fw) fG _ _=true from by decide +kernel)) rfl (bx rfl T.b_range (aa (aB br rfl T.b_len (by kernel_rfl) (aa (ab 1) ag)) ag)) (aU (i:=9) (show(fG++_).Nodup from by decide +kernel) rfl rfl) (fun _ _ _ _=>bY) (fun _ _ _ _=>(aX aV (ab 1) (aX aV (lR (aa (ab 9) (aa (ab 2) ag))) (bF GB rfl T.b_int (by kernel_rfl) (aa (iH (gx hr.units) (ab 9) (ab 3) nbh) ag)) (fun _ _=>rfl)) (fun _ _=>rfl)))) ag)))
   (av (i8 (bU (aa (bU (aa (ab 4) (aa (ab 5) (aa (bF di rfl T.b_tuple (by kernel_rfl) (aa (ab 8) ag)) ag)))) (aa (ab 10) ag))))))))))))))))),fun ds M R hl hS=>?_⟩)
 obtain⟨ord,ax,ao,af,one,other,rfl,hL,h1,h2,k⟩:=hS
 simp only[dE]
 walk_at "rd"
 refine⟨_,rfl,_,rfl,_,rfl,_,rfl,_,rfl,cE (fun _=>⟨_,rfl,_,rfl,sz3 2,k af _ hL⟩) (fun c=>?_)⟩
 have hne:one≠other:=fun z=>c (by simp[rdM,eqD,z])
 have ge:∀i (h:i<af.length),atI (af.map cP) (i:Int)=some (cP af[i]):=fun i h=>bN (by simp[h])
 have g1:=hL.good (List.getElem_mem h1)
 have g2:=hL.good (List.getElem_mem h2)
 refine aY ?_
 walk_at "rd"
 have e1:∀i (h:i<af.length),ixD (rdM M (cP af[i])) (D.int 1)=some (cH af[i].2):=fun i h=>rfl
 refine⟨_,ge one h1,_,e1 one h1,_,ge other h2,_,e1 other h2,af[other].2.map aP,rfl,fun hz=>⟨hz,?_⟩⟩
 have hc:eQ [false,false,true,false,false,false,true,false,false,false,false] 1 [some (D.tup [D.tup (ord.map aN),D.str ax,D.tup (af.map cP)]),some (D.tup ((af.map (·.1)).map D.str)),some (D.int (one:Int)),some (D.int (other:Int)),some (D.tup (ord.map aN)),some (D.str ax),some (D.tup (af.map cP)),none,none,none,none]=[none,none,some (D.int (one:Int)),none,none,none,some (D.tup (af.map cP)),none,none,none,none,none]:=rfl
 rw[hc]
 refine bq aP (fun r=>!((af[one].2.map aP).any fun d=>eqD d (aP r))) aP (fun Δ=>∃x,Δ=[none,none,some (D.int (one:Int)),none,none,none,some (D.tup (af.map cP)),none,none,none,none,x]) _ _ _ ?_ ⟨_,rfl⟩ ?_
 ·rintro r hr' Δ ⟨x,rfl⟩
  refine⟨_,rfl,⟨_,rfl⟩,fun Q1 q1=>?_,fun _ Q2 q1=>⟨_,rfl,q1⟩⟩
  walk_at "rd"
  exact⟨_,ge one h1,_,e1 one h1,_,(xM).trans (if_pos ⟨jg,mZ aP fun _=>jg⟩),_,rfl,q1⟩
 rw[List.nil_append]
 generalize hks:(af[other].2.filter fun r=>!((af[one].2.map aP).any fun d=>eqD d (aP r)))=more
 have hmore:∀r∈more,r∈af[other].2:=fun r hr'=>by rw[<-hks]at hr';exact(List.mem_filter.mp hr').1
 have hml:more.length<=4:=by rw[<-hks];exact Nat.le_trans (List.length_filter_le _ _) g2.1
 have hg1:=g1.1
 refine⟨cH (af[one].2++more),?_,aY ?_⟩
 ·show kU (.tup (af[one].2.map aP)) (.tup (more.map aP))=_
  rw[pE,if_pos (by rw[List.length_map,List.length_map,sizeLine_eq];omega)]
  simp[cH]
 have hgk:∀r∈af[one].2++more,r.length<=5/\∀x∈r,x.1∈ao:=fun r hr'=>by
  rcases List.mem_append.mp hr' with h|h
  ·exact g1.2.1 r h
  ·exact g2.2.1 r (hmore r h)
 generalize af[one].2++more=kk at hgk
 walk_at "rd"
 refine⟨.int (kk.length:Int),by simp[rdM,cH,fW],_,rfl,_,rfl,cE (fun _=>⟨sz3 2,k af _ hL⟩) (fun c4=>aY ?_)⟩
 have hkl:kk.length<=4:=by
  have:¬ (4:Int)<(kk.length:Int):=by simpa[rdM]using c4
  omega
 have dR:=hL.few
 walk_at "rd"
 refine⟨Nat.zero_le _,fun q hq=>aY ?_⟩
 walk_at "rd"
 rw[List.length_map]
 refine⟨by omega,by omega,?_⟩
 rw[Int.toNat_natCast]
 refine aK (fun i Δ M'=>∃x9 out,Δ=[some (D.tup [D.tup (ord.map aN),D.str ax,D.tup (af.map cP)]),some (D.tup ((af.map (·.1)).map D.str)),some (D.int (one:Int)),some (D.int (other:Int)),some (D.tup (ord.map aN)),some (D.str ax),some (D.tup (af.map cP)),some (cH kk),some (D.ref q),x9,none]/\M'=aw M q (.lst (out.map cP))/\(∀e∈out,vX ao e)/\(out.map (·.1)).Nodup/\out.length<=i/\(∀w∈out.map (·.1),∃j,j<i/\(af.map (·.1))[j]?=some w)/\∀j,j<i->j≠other->∀w,(af.map (·.1))[j]?=some w->w∈out.map (·.1))
  ⟨_,[],rfl,rfl,fun _ h=>(by cases h),by simp,Nat.le_refl _,fun _ h=>(by cases h),fun j h=>absurd h (by omega)⟩ ?_ ?_
 ·rintro i d Δ M' X hd ⟨x9,out,rfl,rfl,o1,o2,o3,o4,o5⟩ k'
  obtain⟨hi,rfl⟩:=cS hd
  rw[Int.zero_add]
  simp only[bf]
  walk_at "rd"
  have hgi:=hL.good (List.getElem_mem hi)
  have hwi:(af.map (·.1))[i]?=some af[i].1:=by simp[hi]
  have hnew:af[i].1∉out.map (·.1):=fun z=>by
   obtain⟨j,hj,ej⟩:=o4 _ z
   have hjl:j<(af.map (·.1)).length:=(List.getElem?_eq_some_iff.mp ej).1
   have hil:i<(af.map (·.1)).length:=by simpa using hi
   have:=List.pairwise_iff_getElem.mp hL.nd j i hjl hil hj
   rw[List.getElem?_eq_getElem hjl]at ej
   rw[List.getElem?_eq_getElem hil]at hwi
   exact this ((Option.some.inj ej).trans (Option.some.inj hwi).symm)
  have add:∀e:Str×List Row,vX ao e->e.1=af[i].1->(∀y∈out++[e],vX ao y)/\((out++[e]).map (·.1)).Nodup/\(out++[e]).length<=i+1/\(∀w∈(out++[e]).map (·.1),∃j,j<i+1/\(af.map (·.1))[j]?=some w)/\∀j,j<i+1->j≠other->∀w,(af.map (·.1))[j]?=some w->w∈(out++[e]).map (·.1):=fun e he ee=>by
   refine⟨fun y hy=>?_,?_,by simp;omega,fun w hw=>?_,fun j hj hjo w hw=>?_⟩
   ·rcases List.mem_append.mp hy with h|h
    ·exact o1 y h
    ·rw[List.mem_singleton.mp h];exact he
   ·rw[List.map_append,List.nodup_append]
    exact⟨o2,by simp,fun a ha b hb z=>hnew (by
      have hb':b=e.1:=List.mem_singleton.mp hb
      rw[<-ee,<-hb',<-z];exact ha)⟩
   ·rw[List.map_append]at hw
    rcases List.mem_append.mp hw with h|h
    ·obtain⟨j,hj,ej⟩:=o4 w h
     exact⟨j,by omega,ej⟩
    ·rw[List.mem_singleton.mp h]
     exact⟨i,by omega,by show _=some e.1;rw[ee];exact hwi⟩
   ·rw[List.map_append]
    by_cases c:j=i
    ·subst c
     rw[hwi]at hw
     refine List.mem_append_right _ ?_
     rw[<-Option.some.inj hw,<-ee];exact List.mem_singleton.mpr rfl
    ·exact List.mem_append_left _ (o5 j (by omega) hjo w hw)
  have hb1:(out.map cP).length<sizeLine:=by rw[List.length_map,sizeLine_eq];omega
  refine cE (fun ci=>?_) (fun ci=>cE (fun co=>?_) (fun co=>?_))
  ·have e:=add (af[i].1,kk) ⟨hkl,hgk,hgi.2.2⟩ rfl
   refine⟨_,ge i hi,.str af[i].1,rfl,sz3 2,hb1,k' _ _ ⟨_,out++[(af[i].1,kk)],rfl,?_,e.1,e.2.1,e.2.2.1,e.2.2.2.1,e.2.2.2.2⟩⟩
   rw[List.map_append];rfl
  ·have e:=add af[i] hgi rfl
   refine⟨_,ge i hi,hb1,k' _ _ ⟨_,out++[af[i]],rfl,?_,e.1,e.2.1,e.2.2.1,e.2.2.2.1,e.2.2.2.2⟩⟩
   rw[List.map_append];rfl
  ·have ho:i=other:=by
    have:(i:Int)=(other:Int):=by simpa using co
    omega
   refine k' _ _ ⟨_,out,rfl,rfl,o1,o2,by omega,fun w hw=>?_,fun j hj hjo w hw=>o5 j (by omega) hjo w hw⟩
   obtain⟨j,hj,ej⟩:=o4 w hw
   exact⟨j,by omega,ej⟩
 ·rintro Δ M' ⟨x9,out,rfl,rfl,o1,o2,o3,o4,o5⟩
  rw[bv]at o3 o4 o5
  refine aY ?_
  walk_at "rd"
  rw[List.length_map,List.length_map,Int.toNat_natCast]
  refine⟨by omega,by omega,by rw[bv];exact sz3 _ (by omega),?_⟩
  have hc:eQ [false,true,true,true,false,false,false,false,false,false,false] 0 [some (D.tup [D.tup (ord.map aN),D.str ax,D.tup (af.map cP)]),some (D.tup ((af.map (·.1)).map D.str)),some (D.int (one:Int)),some (D.int (other:Int)),some (D.tup (ord.map aN)),some (D.str ax),some (D.tup (af.map cP)),some (cH kk),some (D.ref q),x9,none]=[none,some (D.tup ((af.map (·.1)).map D.str)),some (D.int (one:Int)),some (D.int (other:Int)),none,none,none,none,none,none,none]:=rfl
  rw[hc,hV]
  refine bq (fun(j:Nat)=>D.int (0+(j:Int))) (fun _=>true) (fun j=>D.str ((af.map (·.1)).getD (if j=other then one else j) "")) (fun Δ=>∃x,Δ=[none,some (D.tup ((af.map (·.1)).map D.str)),some (D.int (one:Int)),some (D.int (other:Int)),none,none,none,none,none,x,none]) _ _ _ ?_ ⟨_,rfl⟩ ?_
  ·rintro j hj Δ ⟨x,rfl⟩
   have hj':=List.mem_range.mp hj
   refine⟨_,rfl,⟨_,rfl⟩,fun Q1 q1=>q1,fun _ Q2 q1=>?_⟩
   rw[Int.zero_add]
   walk_at "rd"
   have hat:∀a,a<af.length->atI ((af.map (·.1)).map D.str) (a:Int)=some (.str ((af.map (·.1)).getD a "")):=fun a ha=>bN (by simp[ha])
   by_cases co:j=other
   ·rw[if_pos co]at q1
    refine⟨sz3 2,.int (one:Int),?_,_,hat one h1,q1⟩
    subst co
    simp[atI,ixN]
   ·rw[if_neg co]at q1
    refine⟨sz3 2,.int (j:Int),?_,_,hat j hj',q1⟩
    have:((j:Int)==(other:Int))=false:=by simpa using fun z:(j:Int)=(other:Int)=>co (by omega)
    rw[this]
    simp[atI,ixN]
  ·rw[List.filter_eq_self.mpr (fun _ _=>rfl),List.nil_append]
   have e0:((List.range af.length).map fun j=>D.str ((af.map (·.1)).getD (if j=other then one else j) ""))=(((List.range af.length).map fun j=>((af.map (·.1)).getD (if j=other then one else j) "":Str))).map D.str:=by rw[List.map_map];rfl
   rw[e0]
   refine⟨.tup (out.map cP),by rw[dN aj];rfl,sz3 3,sz3 2,M,pK hq,k out _ (iQ.of o2 (by omega) o1 (by simp;omega) fun w hw=>?_)⟩
   obtain⟨j,hj,rfl⟩:=List.mem_map.mp hw
   have hj':=List.mem_range.mp hj
   have key:∀a,a<af.length->a≠other->((af.map (·.1)).getD a "":Str)∈out.map (·.1):=fun a ha hao=>o5 a ha hao _ (by simp[ha])
   by_cases co:j=other
   ·rw[if_pos co];exact key one h1 hne
   ·rw[if_neg co];exact key j hj' co
end
section
variable{P:Program}{w:World}{K:PySem.W.Frag}{mg:Str->Option Value}{base:Heap}
theorem lY{a b:TSd}{E:iG}{Δ:DE}{M:DH}(C:DE->DH->Prop) (h1:∀nx,(∀ Δ' M',C Δ' M'->nx Δ' M')->a { E with nx:=nx } Δ M) (h2:∀ Δ' M',C Δ' M'->b E Δ' M'):xf a b E Δ M:=h1 _ h2
theorem gY:∀as bs:List D,(gu as bs).length=min as.length bs.length
 |[],bs=>by simp[gu]
 |_::_,[]=>by simp[gu]
 |a::as,b::bs=>by simp[gu,gY as bs]
def kQ:SpD:=fun ds M Q=>∃(p:Addr) (l:List D) (n most:Nat),ds=[.ref p,.int (n:Int),.int (most:Int)]/\M p=some (.lst l)/\aS l/\1<=n/\n<=6 /\
 ∀(ord:List (Str×Str)) (ax:Str) (ao:List Str) (af:List (Str×List Row)) (pa:Addr) (kvs:List (List Key×D)) (l':List D),ord.length<=8->ax∈ao->Abv ord ao kvs->iQ ao af (af.map (·.1))->1<=af.length->aS l'->M pa=none ->
  Q (.tup [dE ord ax af,.ref pa,.tup ((af.map (·.1)).map .str)]) (aw (aw M p (.lst l')) pa (.dT kvs))
theorem oW{f:Addr}{fd:FuncData}(F:Fun K "_law_lexicon" "_law_lexicon" eZ f fd) (T:Txt K mg) (g_l_marks:FnD P w K mg base "_law_marks" 2 1 nU) (g_l_order:FnD P w K mg base "_law_order" 2 2 oo) (g_l_above:FnD P w K mg base "_law_above" 1 2 oz) (g_l_whole_row:FnD P w K mg base "_law_whole_row" 3 5 iM) (g_l_words:FnD P w K mg base "_law_words" 2 2 nW) (g_l_draw:FnD P w K mg base "_law_draw" 1 2 cq) (g_l_sign:FnD P w K mg base "_law_sign" 2 3 lL) (g_l_pieces:FnD P w K mg base "_law_pieces" 2 3 nh):ba P w K mg base CX0 4 f fd ["_law_well_here","_law_size","_law_most"] (spD K 3 kQ):=by
 have nd:=jl.nd
 refine F.okQ rfl jl (fun cdv A outer s H E hr=>⟨_,(ai (aJ (i:=3) nd rfl (Or.inr rfl) (qd g_l_marks hr (aa (ab 0) ag)))
   (cg (ai (aJ (i:=4) nd rfl (Or.inl rfl) (qd g_l_order hr (aa (ab 0) (aa (ab 3) ag))))
   (cg (ai (aJ (i:=5) nd rfl (Or.inl rfl) (qd g_l_above hr (aa (ab 4) (aa (ab 3) ag))))
   (cg (ai (aJ (i:=6) nd rfl (Or.inl rfl) (aX aV (ab 3) (qd g_l_draw hr (aa (ab 0) (aa (aB br rfl T.b_len (by kernel_rfl) (aa (ab 3) ag)) ag))) (fun _ _=>rfl)))
   (cg (ai (aJ (i:=7) nd rfl (Or.inl rfl) (qd g_l_whole_row hr (aa (ab 0) (aa (ab 5) (aa (ab 3) (aa (ab 6) (aa (aB (Cz rfl) rfl T.b_min (by kernel_rfl) (aa (qd g_l_draw hr (aa (ab 0) (aa (aM aR (aM cW ak (ab 1)) ak) ag))) (aa (aM tq (aM CF (aM cW ak (ab 1)) ak) ak) ag))) ag)))))))
   (cg (ai (cf (bh (gx hr.units) (qd g_l_draw hr (aa (ab 0) (aa ak ag))) ak nbh) (av (uV (ab 7) (qd g_l_draw hr (aa (ab 0) (aa (aB br rfl T.b_len (by kernel_rfl) (aa (ab 7) ag)) ag))) (qd g_l_sign hr (aa (ab 0) (aa (ab 3) (aa ak ag)))))) bz)
   (cg (ai (aJ (i:=8) nd rfl (Or.inl rfl) (qd g_l_words hr (aa (ab 0) (aa (ab 1) ag))))
   (cg (ai (aJ (i:=9) nd rfl (Or.inl rfl) ak)
   (cg (ai (aJ (i:=10) nd rfl (Or.inl rfl) (fj ag))
   (cg (pX 7 (ai (cc PassesOwn.never rfl (DK rfl T.b_zip (aa (ab 8) (aa (qd g_l_pieces hr (aa (ab 0) (aa (ab 7) (aa (ab 1) ag)))) ag))) (gq rfl (bc (aH (i:=11) nd rfl (Or.inl rfl)) (bc (aH (i:=12) nd rfl (Or.inl rfl)) gn))) (ai (aJ (i:=13) nd rfl (Or.inl rfl) (fj (aa (ab 12) ag)))
   (cg (ai (cc PassesOwn.never rfl (bx rfl T.b_range (aa (qd g_l_draw hr (aa (ab 0) (aa ak ag))) ag)) (aH (i:=14) nd rfl (Or.inl rfl)) (ai (aJ (i:=15) nd rfl (Or.inl rfl) (bF di rfl T.b_tuple (by kernel_rfl) (aa (iz (ms:=[true,false,false,true,false,false,false,false,false,false,false,false,false,false,false,false]) (ah:=["_law_k"]) (aQ rfl (show aZ (am eZ) gZ _ _=true from by decide +kernel)) rfl (bx rfl T.b_range (aa (qd g_l_draw hr (aa (ab 0) (aa ak ag))) ag)) (aU (i:=16) (show(gZ++_).Nodup from by decide +kernel) rfl rfl) (fun _ _ _ _=>bY) (fun _ _ _ _=>(qd g_l_sign hr (aa (ab 0) (aa (ab 3) (aa ak ag)))))) ag)))
   (cg (ai (cf (bh (gx hr.units) (qd g_l_draw hr (aa (ab 0) (aa ak ag))) ak nbh) (av (aJ (i:=15) nd rfl (Or.inl rfl) (eK (yH (ab 12) (AI B9 ak)) fU (dI ak)))) bz)
   (cg (av (cf (xh (qh (bh (rV hr.units) (ab 15) (ab 13) rfl) (lA (bh ER (aM cW (ab 9) (aM aR (aB br rfl T.b_len (by kernel_rfl) (aa (ab 13) ag)) ak)) (ab 2) nbh)))) (av (fR (Gb (ab 13) (qd g_l_draw hr (aa (ab 0) (aa (aM aR (aB br rfl T.b_len (by kernel_rfl) (aa (ab 13) ag)) ak) ag))) (ab 15)))) bz)))))))
   (cg (ai (aJ (i:=9) nd rfl (Or.inl rfl) (aM cW (ab 9) (aB br rfl T.b_len (by kernel_rfl) (aa (ab 13) ag))))
   (av (fR (oV (ab 10) (bU (aa (ab 11) (aa (bF di rfl T.b_tuple (by kernel_rfl) (aa (ab 13) ag)) ag))))))))))))
   (av (i8 (bU (aa (bU (aa (ab 4) (aa (ab 6) (aa (bF di rfl T.b_tuple (by kernel_rfl) (aa (ab 10) ag)) ag)))) (aa (ab 5) (aa (bF di rfl T.b_tuple (by kernel_rfl) (aa (ab 8) ag)) ag)))))))))))))))))))))))))),fun ds M R hl hS=>?_⟩)
 obtain⟨p,l,n,most,rfl,hM,hP,hn1,hn6,k⟩:=hS
 walk_at "rd"
 refine⟨p,l,rfl,hM,hP,fun ao l1 hm hml hP1=>aY ?_⟩
 walk_at "rd"
 refine⟨p,l1,ao,rfl,aj,hP1,hm,by omega,fun ord l2 ho homk hP2=>aY ?_⟩
 rw[aF]
 walk_at "rd"
 refine⟨ord,ao,rfl,by omega,by omega,fun pa kvs hpa hA=>aY ?_⟩
 have hap:pa≠p:=by rintro rfl;rw[aj]at hpa;cases hpa
 have hMpa:M pa=none:=by rw[au hap]at hpa;exact hpa
 have hmp:=List.length_pos_iff.mpr hm
 have hcm:∀l3 l4,aw (aw (aw M p (.lst l3)) pa (.dT kvs)) p (.lst l4)=aw (aw M p (.lst l4)) pa (.dT kvs):=fun l3 l4=>by
  rw[<-bJ (Ne.symm hap),aF]
 have hpp:∀l3,aw (aw M p (.lst l3)) pa (.dT kvs) p=some (.lst l3):=fun l3=>by rw[au (Ne.symm hap),aj]
 walk_at "rd"
 rw[List.length_map]
 refine⟨p,l2,_,rfl,hpp _,hP2,by omega,by omega,fun v l3 a0 a1 hP3=>?_⟩
 rw[hcm]
 obtain⟨ax,hg,eg⟩:=eA a0 a1
 refine⟨_,eg,aY ?_⟩
 walk_at "rd"
 refine⟨p,l3,_,rfl,hpp _,hP3,by omega,by omega,fun v2 l4 b0 b1 hP4=>?_⟩
 rw[hcm]
 obtain⟨m,hm2,em⟩:∃m:Nat,2*m+1<=5*n/\wf [.int v2,.int ((5*(n:Int)-1) / 2)]=some (.int (m:Int)):=by
  by_cases c:(5*(n:Int)-1) / 2<v2
  ·exact⟨((5*(n:Int)-1) / 2).toNat,by omega,by simp[wf,c];omega⟩
  ·exact⟨v2.toNat,by omega,by simp[wf,c];omega⟩
 refine⟨_,em,ord,p,pa,l4,kvs,ao,ax,m,rfl,hpp _,aj,hP4,hA,hm,by omega,hg,by omega,fun row l5 q hrl hrm hP5 hq=>aY ?_⟩
 have hqa:q≠pa:=by rintro rfl;rw[aj]at hq;cases hq
 have hqp:q≠p:=by rintro rfl;rw[hpp]at hq;cases hq
 have hMq:M q=none:=by rw[au hqa,au hqp]at hq;exact hq
 rw[hcm]
 have hcm2:∀l3 l4 u,aw (aw (aw (aw M p (.lst l3)) pa (.dT kvs)) q u) p (.lst l4)=aw (aw (aw M p (.lst l4)) pa (.dT kvs)) q u:=fun l3 l4 u=>by
  rw[bJ hqp,hcm]
 have hpp2:∀l3 u,aw (aw (aw M p (.lst l3)) pa (.dT kvs)) q u p=some (.lst l3):=fun l3 u=>by rw[au (Ne.symm hqp),hpp]
 refine lY (fun Δ' M'=>∃(row:Row) (l':List D),Δ'=[some (D.ref p),some (D.int (n:Int)),some (D.int (most:Int)),some (D.lst (ao.map D.str)),some (D.tup (ord.map aN)),some (D.ref pa),some (D.str ax),some (D.ref q),none,none,none,none,none,none,none,none]/\M'=aw (aw (aw M p (.lst l')) pa (.dT kvs)) q (.lst (row.map aE))/\row.length<=5*n/\(∀x∈row,x.1∈ao)/\aS l') (fun nx knx=>?_) ?_
 ·walk_at "rd"
  refine⟨p,l5,3,rfl,hpp2 _ _,hP5,by omega,by omega,fun v3 l6 c0 c1 hP6=>?_⟩
  rw[hcm2]
  refine⟨_,rfl,_,rfl,cE (fun _=>?_) (fun _=>knx _ _ ⟨row,l6,rfl,rfl,by omega,hrm,hP6⟩)⟩
  refine⟨p,l6,ao,1,rfl,hpp2 _ _,hP6,hm,by omega,by omega,by omega,fun sm st l7 hsm hP7=>?_⟩
  rw[hcm2]
  refine⟨.int (row.length:Int),by rw[dN aj];simp[fW],p,l7,_,rfl,hpp2 _ _,hP7,by omega,by omega,fun v4 l8 d0 d1 hP8=>?_⟩
  rw[hcm2]
  obtain⟨j,rfl⟩:=Int.eq_ofNat_of_zero_le d0
  refine⟨_,_,rfl,aj,j,by rw[List.length_map];exact uU (by omega),?_⟩
  rw[aF]
  refine knx _ _ ⟨row.set j (sm,st),l8,rfl,by rw[List.map_set],by rw[List.length_set];omega,fun x hx=>?_,hP8⟩
  rcases List.mem_or_eq_of_mem_set hx with h|h
  ·exact hrm x h
  ·rw[h];exact hsm
 rintro Δ' M' ⟨row,l6,rfl,rfl,hrl6,hrm6,hP6⟩
 refine aY ?_
 walk_at "rd"
 refine⟨p,l6,n,rfl,hpp2 _ _,hP6,hn6,fun names l7 hnl hnn hnw hP7=>aY ?_⟩
 rw[hcm2]
 walk_at "rd"
 refine aY ?_
 walk_at "rd"
 refine⟨Nat.zero_le _,fun r hr2=>aY ?_⟩
 have hrq:r≠q:=by rintro rfl;rw[aj]at hr2;cases hr2
 have hra:r≠pa:=by rintro rfl;rw[au hrq,aj]at hr2;cases hr2
 have hrp:r≠p:=by rintro rfl;rw[hpp2]at hr2;cases hr2
 have hMr:M r=none:=by rw[au hrq,au hra,au hrp]at hr2;exact hr2
 have hdel:∀es,fK (aw (aw (aw (aw M p (.lst l7)) pa (.dT kvs)) q (.lst (row.map aE))) r (.lst es)) q=aw (aw (aw M p (.lst l7)) pa (.dT kvs)) r (.lst es):=fun es=>by
  rw[bJ (Ne.symm hrq),dn (by rw[au (Ne.symm hrq),au hqa,au hqp];exact hMq)]
 have hcm3:∀l3 l4 u,aw (aw (aw (aw M p (.lst l3)) pa (.dT kvs)) r u) p (.lst l4)=aw (aw (aw M p (.lst l4)) pa (.dT kvs)) r u:=fun l3 l4 u=>by
  rw[bJ hrp,hcm]
 have hpp3:∀l3 u,aw (aw (aw M p (.lst l3)) pa (.dT kvs)) r u p=some (.lst l3):=fun l3 u=>by rw[au (Ne.symm hrp),hpp]
 walk_at "rd"
 refine⟨_,by rw[au (Ne.symm hrq),aj],?_⟩
 rw[hdel]
 refine⟨p,l7,row,n,rfl,hpp3 _ _,hP7,hn1,hn6,hrl6,fun ks l8 hkl hks hP8=>?_⟩
 rw[hcm3]
 refine⟨_,_,⟨rfl,rfl⟩,_,_,_,rfl,_,rfl,?_⟩
 have hzl:(gu (names.map D.str) (ks.map aP)).length=n:=by rw[gY,List.length_map,List.length_map];omega
 refine aK (fun i Δ M'=>∃(x11 x12 x13 x14 x15:Option D) (ch:Int) (l:List D) (af:List (Str×List Row)),Δ=[some (D.ref p),some (D.int (n:Int)),some (D.int (most:Int)),some (D.lst (ao.map D.str)),some (D.tup (ord.map aN)),some (D.ref pa),some (D.str ax),some (D.lst (row.map aE)),some (D.lst (names.map D.str)),some (D.int ch),some (D.ref r),x11,x12,x13,x14,x15]/\M' p=some (.lst l)/\M' pa=some (.dT kvs)/\M' r=some (.lst (af.map cP))/\(∀a u,a≠p->M a=some u->M' a=some u)/\aS l/\af.map (·.1)=names.take i/\∀e∈af,vX ao e)
  ⟨_,_,_,_,_,1,l8,[],rfl,hpp3 _ _,by rw[au (Ne.symm hra),aj],by rw[aj];rfl,fun a u ha e=>?_,hP8,rfl,fun _ h=>(by cases h)⟩ ?_ ?_
 ·have h1:a≠pa:=fun z=>by rw[z,hMpa]at e;cases e
  have h2:a≠r:=fun z=>by rw[z,hMr]at e;cases e
  rw[au h2,au h1,au ha];exact e
 ·rintro i d Δ M' X hd ⟨x11,x12,x13,x14,x15,ch,l9,af,rfl,m1,m2,m3,m4,hP9,hen,heg⟩ k'
  have hi:i<n:=by have:=(List.getElem?_eq_some_iff.mp hd).1;omega
  have hwi:names[i]?=some (names[i]'(by omega)):=List.getElem?_eq_getElem (by omega)
  have hki:ks[i]?=some (ks[i]'(by omega)):=List.getElem?_eq_getElem (by omega)
  generalize names[i]'(by omega)=wd at hwi
  generalize ks[i]'(by omega)=k0 at hki
  have hdd:d=.tup [.str wd,aP k0]:=by
   have:(gu (names.map D.str) (ks.map aP))[i]?=some (.tup [.str wd,aP k0]):=by
    rw[lN,List.getElem?_map,List.getElem?_map,hwi,hki];rfl
   rw[this]at hd;exact(Option.some.inj hd).symm
  subst hdd
  have hk0:=hks k0 (List.mem_of_getElem? hki)
  have hk0m:∀x∈k0,x.1∈ao:=fun x hx=>hrm6 x (hk0.2 x hx)
  refine⟨_,rfl,?_⟩
  walk_at "rd"
  refine⟨sz3 1,fun s hs=>aY ?_⟩
  have hsp:s≠p:=by rintro rfl;rw[m1]at hs;cases hs
  have hsa:s≠pa:=by rintro rfl;rw[m2]at hs;cases hs
  have hsr:s≠r:=by rintro rfl;rw[m3]at hs;cases hs
  refine lY (fun Δ' M2=>∃(x14 x15:Option D) (l:List D) (kl:List Row),Δ'=[some (D.ref p),some (D.int (n:Int)),some (D.int (most:Int)),some (D.lst (ao.map D.str)),some (D.tup (ord.map aN)),some (D.ref pa),some (D.str ax),some (D.lst (row.map aE)),some (D.lst (names.map D.str)),some (D.int ch),some (D.ref r),some (D.str wd),some (aP k0),some (D.ref s),x14,x15]/\M2 p=some (.lst l)/\M2 pa=some (.dT kvs)/\M2 r=some (.lst (af.map cP))/\M2 s=some (.lst (kl.map aP))/\(∀a u,a≠p->M a=some u->M2 a=some u)/\aS l/\kl.length<=4/\∀y∈kl,y.length<=5/\∀x∈y,x.1∈ao) (fun nx knx=>?_) ?_
  ·walk_at "rd"
   refine⟨p,l9,4,rfl,by rw[au (Ne.symm hsp)];exact m1,hP9,by omega,by omega,fun v5 la e0 e1 hPa=>?_⟩
   obtain⟨tn,rfl⟩:=Int.eq_ofNat_of_zero_le e0
   refine⟨_,rfl,by omega,by omega,?_⟩
   rw[Int.toNat_natCast]
   refine aK (fun t Δ' M2=>∃(x14 x15:Option D) (l:List D) (kl:List Row),Δ'=[some (D.ref p),some (D.int (n:Int)),some (D.int (most:Int)),some (D.lst (ao.map D.str)),some (D.tup (ord.map aN)),some (D.ref pa),some (D.str ax),some (D.lst (row.map aE)),some (D.lst (names.map D.str)),some (D.int ch),some (D.ref r),some (D.str wd),some (aP k0),some (D.ref s),x14,x15]/\M2 p=some (.lst l)/\M2 pa=some (.dT kvs)/\M2 r=some (.lst (af.map cP))/\M2 s=some (.lst (kl.map aP))/\(∀a u,a≠p->M a=some u->M2 a=some u)/\aS l/\kl.length<=1+t/\∀y∈kl,y.length<=5/\∀x∈y,x.1∈ao)
    ⟨_,_,la,[k0],rfl,aj,by rw[au hap,au (Ne.symm hsa)];exact m2,by rw[au hrp,au (Ne.symm hsr)];exact m3,by rw[au hsp,aj];rfl,fun a u ha e=>?_,hPa,Nat.le_refl _,fun y hy=>by rw[List.mem_singleton.mp hy];exact⟨hk0.1,hk0m⟩⟩ ?_ ?_
   ·have h4:=m4 a u ha e
    have h2:a≠s:=fun z=>by rw[z,hs]at h4;cases h4
    rw[au ha,au h2];exact h4
   ·rintro t d Δ' M2 X2 hd2 ⟨y14,y15,lb,kl,rfl,b1,b2,b3,b4,b5,hPb,hkl2,hkg⟩ k2
    obtain⟨ht,rfl⟩:=cS hd2
    have up:∀lc,aw M2 p (.lst lc) p=some (.lst lc)/\aw M2 p (.lst lc) pa=some (.dT kvs)/\aw M2 p (.lst lc) r=some (.lst (af.map cP))/\aw M2 p (.lst lc) s=some (.lst (kl.map aP))/\∀a u,a≠p->M a=some u->aw M2 p (.lst lc) a=some u:=fun lc=>⟨aj,by rw[au hap];exact b2,by rw[au hrp];exact b3,by rw[au hsp];exact b4,fun a u ha e=>by rw[au ha];exact b5 a u ha e⟩
    simp only[bf]
    walk_at "rd"
    refine⟨p,lb,4,rfl,b1,hPb,by omega,by omega,fun v6 lc f0 f1 hPc=>?_⟩
    obtain⟨sn,rfl⟩:=Int.eq_ofNat_of_zero_le f0
    refine⟨_,rfl,by omega,by omega,by rw[bv];exact sz3 _ (by omega),?_⟩
    rw[Int.toNat_natCast]
    refine jq (fun u acc Δ' M3=>∃(x:Option D) (ms:Row) (l:List D),Δ'=[some (D.ref p),none,none,some (D.lst (ao.map D.str)),none,none,none,none,none,none,none,none,none,none,none,none,x]/\M3=aw M2 p (.lst l)/\acc=ms.map aE/\ms.length=u/\(∀x∈ms,x.1∈ao)/\aS l) ⟨_,[],lc,rfl,rfl,rfl,rfl,fun _ h=>(by cases h),hPc⟩ ?_ ?_
    ·rintro u d acc Δ' M3 X3 hd3 ⟨x,ms,ld,rfl,rfl,rfl,hul,hms,hPd⟩ k3
     refine⟨_,rfl,?_⟩
     simp only[qz,if_true]
     walk_at "rd"
     refine⟨p,ld,ao,1,rfl,aj,hPd,hm,by omega,by omega,by omega,fun sm st le hsm hPe=>?_⟩
     rw[aF]
     exact k3 _ _ _ ⟨_,ms++[(sm,st)],le,rfl,rfl,by simp,by simp[hul],fun y hy=>by
      rcases List.mem_append.mp hy with h|h
      ·exact hms y h
      ·rw[List.mem_singleton.mp h];exact hsm,hPe⟩
    rintro acc Δ' M3 ⟨x,ms,ld,rfl,rfl,rfl,hul,hms,hPd⟩
    rw[bv]at hul
    refine aY ?_
    refine lY (fun Δ' M3=>∃(mo:Row) (l:List D),Δ'=[some (D.ref p),some (D.int (n:Int)),some (D.int (most:Int)),some (D.lst (ao.map D.str)),some (D.tup (ord.map aN)),some (D.ref pa),some (D.str ax),some (D.lst (row.map aE)),some (D.lst (names.map D.str)),some (D.int ch),some (D.ref r),some (D.str wd),some (aP k0),some (D.ref s),some (D.int (0+(t:Int))),some (aP mo)]/\M3=aw M2 p (.lst l)/\aS l/\mo.length<=5/\∀x∈mo,x.1∈ao) (fun nx2 knx2=>?_) ?_
    ·walk_at "rd"
     refine⟨p,ld,2,rfl,aj,hPd,by omega,by omega,fun v7 le g0 g1 hPe=>?_⟩
     rw[aF]
     refine⟨_,rfl,_,rfl,cE (fun _=>?_) (fun _=>knx2 _ _ ⟨ms,le,rfl,rfl,hPe,by omega,hms⟩)⟩
     refine⟨_,rfl,?_⟩
     have c1:L2.cC (k0.map aE).reverse none (some 2)=(k0.reverse.take 2).map aE:=by
      rw[<-List.map_reverse,show(some (2:Int))=some ((2:Nat):Int)from rfl,pS,List.map_take]
     rw[c1]
     exact knx2 _ _ ⟨k0.reverse.take 2,le,rfl,rfl,hPe,by rw[List.length_take];omega,fun x hx=>hk0m x (List.mem_reverse.mp (List.mem_of_mem_take hx))⟩
    rintro Δ' M3 ⟨mo,le,rfl,rfl,hPe,hmo,hmm⟩
    obtain⟨c1,c2,c3,c4,c5⟩:=up le
    refine aY ?_
    walk_at "rd"
    have hstay:X2 [some (D.ref p),some (D.int (n:Int)),some (D.int (most:Int)),some (D.lst (ao.map D.str)),some (D.tup (ord.map aN)),some (D.ref pa),some (D.str ax),some (D.lst (row.map aE)),some (D.lst (names.map D.str)),some (D.int ch),some (D.ref r),some (D.str wd),some (aP k0),some (D.ref s),some (D.int (0+(t:Int))),some (aP mo)] (aw M2 p (.lst le)):=k2 _ _ ⟨_,_,le,kl,rfl,c1,c2,c3,c4,c5,hPe,by omega,hkg⟩
    have hrd:=dN c4
    have hcml:g9 ch ((kl.length:Int)+1):=by
     have:g9 ch ((kl.length:Int)+1)=True:=zT (by omega)
     rw[this];trivial
    rw[hrd]
    refine⟨_,(yG).trans (if_pos ⟨jg,mZ aP fun _=>jg⟩),_,rfl,cE (fun _=>?_) (fun _=>hstay)⟩
    refine⟨.int (kl.length:Int),by simp[fW],.int ((kl.length:Int)+1),rfl,.int (ch*((kl.length:Int)+1)),by rw[pW,qp,if_pos hcml],_,rfl,_,rfl,cE (fun _=>?_) (fun _=>hstay)⟩
    refine⟨_,c4,.int (kl.length:Int),by simp[fW],.int ((kl.length:Int)+1),rfl,p,le,_,rfl,c1,hPe,by omega,by omega,fun v8 lf h0 h1 hPf=>?_⟩
    rw[aF]
    obtain⟨j,rfl⟩:=Int.eq_ofNat_of_zero_le h0
    obtain⟨d1,d2,d3,d4,d5⟩:=up lf
    refine⟨_,j,rfl,d4,by rw[List.length_map];omega,by rw[List.length_map,sizeLine_eq];omega,k2 _ _ ⟨_,_,lf,kl.take j++mo::kl.drop j,rfl,by rw[au (Ne.symm hsp)];exact d1,by rw[au (Ne.symm hsa)];exact d2,by rw[au (Ne.symm hsr)];exact d3,?_,fun a u ha e=>?_,hPf,?_,fun y hy=>?_⟩⟩
    ·rw[aj];simp[List.map_take,List.map_drop]
    ·have h5:=d5 a u ha e
     have h2:a≠s:=fun z=>by
      have:=m4 a u ha e
      rw[z,hs]at this;cases this
     rw[au h2];exact h5
    ·simp only[List.length_append,List.length_take,List.length_cons,List.length_drop];omega
    ·rcases List.mem_append.mp hy with h|h
     ·exact hkg y (List.mem_of_mem_take h)
     ·rcases List.mem_cons.mp h with e|h
      ·rw[e];exact⟨hmo,hmm⟩
      ·exact hkg y (List.mem_of_mem_drop h)
   ·rintro Δ' M2 ⟨y14,y15,lb,kl,rfl,b1,b2,b3,b4,b5,hPb,hkl2,hkg⟩
    rw[bv]at hkl2
    exact knx _ _ ⟨_,_,lb,kl,rfl,b1,b2,b3,b4,b5,hPb,by omega,hkg⟩
  rintro Δ' M2 ⟨y14,y15,lb,kl,rfl,b1,b2,b3,b4,b5,hPb,hkl2,hkg⟩
  refine aY ?_
  walk_at "rd"
  have hcml:g9 ch (kl.length:Int):=by
   have:g9 ch (kl.length:Int)=True:=zT (by omega)
   rw[this];trivial
  refine⟨.int (kl.length:Int),by rw[dN b4];simp[fW],.int (ch*(kl.length:Int)),by show wo _ _=_;rw[pW,qp,if_pos hcml],_,b3,cH kl,by rw[dN b4];rfl,sz3 2,_,b3,by
   have:=congrArg List.length hen
   rw[List.length_map,List.length_take]at this
   rw[List.length_map,sizeLine_eq];omega,k' _ _ ⟨_,_,_,_,_,_,lb,af++[(wd,kl)],rfl,by rw[au (Ne.symm hrp)];exact b1,by rw[au (Ne.symm hra)];exact b2,by rw[aj,List.map_append];rfl,fun a u ha e=>?_,hPb,?_,fun e he=>?_⟩⟩
  ·have h2:a≠r:=fun z=>by rw[z,hMr]at e;cases e
   rw[au h2];exact b5 a u ha e
  ·rw[List.map_append,hen,List.take_add_one,hwi];rfl
  ·rcases List.mem_append.mp he with h|h
   ·exact heg e h
   ·rw[List.mem_singleton.mp h]
    exact⟨hkl2,hkg,hnw wd (List.mem_of_getElem? hwi)⟩
 ·rintro Δ M' ⟨x11,x12,x13,x14,x15,ch,l9,af,rfl,m1,m2,m3,m4,hP9,hen,heg⟩
  rw[hzl,<-hnl,List.take_length]at hen
  walk_at "rd"
  refine⟨.tup (af.map cP),by rw[dN m3];rfl,sz3 3,sz3 3,aw (aw M p (.lst l9)) pa (.dT kvs),fun a u e=>?_,?_⟩
  ·by_cases h1:a=pa
   ·rw[h1,aj]at e;rw[h1,m2];exact e
   ·rw[au h1]at e
    by_cases h2:a=p
    ·rw[h2,aj]at e;rw[h2,m1];exact e
    ·rw[au h2]at e;exact m4 a u h2 e
  ·have hel:af.length=n:=by have:=congrArg List.length hen;rw[List.length_map]at this;omega
   have:=k ord ax ao af pa kvs l9 (by omega) hg hA (iQ.of (by rw[hen];exact hnn) (by omega) heg (by rw[List.length_map];omega) fun w hw=>hw) (by omega) hP9 hMpa
   rw[hen]at this
   exact this
end
section
variable{P:Program}{w:World}{K:PySem.W.Frag}{mg:Str->Option Value}{base:Heap}
def chL(af:List (Str×List Row)):List Str->List (List Nat)
 |[]=>[[]]
 |w::ws=>(List.range (kin af w).length).flatMap fun k=>(chL af ws).map fun s=>k::s
theorem oJ{α β γ:Type}{f:α->List β}{g:β->List γ}:∀{l:List α},(l.flatMap f).flatMap g=l.flatMap fun a=>(f a).flatMap g
 |[]=>rfl
 |a::l=>by rw[List.flatMap_cons,List.flatMap_append,oJ,List.flatMap_cons]
theorem xG{af:List (Str×List Row)}:∀(ws:List Str) (rows:List (List Nat)),ws.foldl (kF af) rows=rows.flatMap fun c=>(chL af ws).map fun s=>c++s
 |[],rows=>by
  simp only[List.foldl_nil,chL,List.map_cons,List.map_nil,List.append_nil]
  rw[mj,List.map_id']
 |w::ws,rows=>by
  rw[List.foldl_cons,xG ws]
  unfold kF
  rw[oJ]
  refine cG fun c _=>?_
  rw[List.flatMap_map,chL,List.map_flatMap]
  refine cG fun k _=>?_
  rw[List.map_map]
  exact List.map_congr_left fun s _=>by simp
theorem Aj{af:List (Str×List Row)}{ws:List Str}:chC af ws=chL af ws:=by
 unfold chC
 rw[xG]
 simp
theorem xZ{af:List (Str×List Row)}:∀{ws:List Str}{c:List Nat},c∈chL af ws->GV af ws c
 |[],c,h=>by
  have:c=[]:=by simpa[chL]using h
  subst this
  exact⟨rfl,fun i w k h=>by simp at h⟩
 |w::ws,c,h=>by
  simp only[chL,List.mem_flatMap,List.mem_map,List.mem_range]at h
  obtain⟨k,hk,s,hs,rfl⟩:=h
  obtain⟨h1,h2⟩:=xZ hs
  refine⟨by simp[h1],fun i w' k' hw hk'=>?_⟩
  cases i with
  |zero =>
   simp only[List.getElem?_cons_zero,Option.some.injEq]at hw hk'
   rw[<-hw,<-hk'];exact hk
  |succ i=>exact h2 i w' k' (by simpa using hw) (by simpa using hk')
theorem uy{af:List (Str×List Row)}:∀ws:List Str,chR af ws=(chL af ws).map (bP af ws)
 |[]=>rfl
 |w::ws=>by
  rw[chR,chL,List.map_flatMap,uy ws]
  have e:kin af w=(List.range (kin af w).length).map fun k=>(kin af w).getD k []:=by
   refine List.ext_getElem (by simp) fun a h1 h2=>?_
   simp[h1]
  rw[show((kin af w).flatMap fun k=>((chL af ws).map (bP af ws)).map fun s=>k++s)=(((List.range (kin af w).length).map fun k=>(kin af w).getD k []).flatMap fun k=>((chL af ws).map (bP af ws)).map fun s=>k++s)by rw[<-e],List.flatMap_map]
  refine cG fun k _=>?_
  rw[List.map_map,List.map_map]
  rfl
theorem vE{ao:List Str}{af:List (Str×List Row)}{vs:List Str}(h:iQ ao af vs):∀{ws:List Str}{c:List Nat},∀x∈bP af ws c,x.1∈ao
 |[],c,x,hx=>by simp[bP]at hx
 |w::ws,[],x,hx=>by simp[bP]at hx
 |w::ws,k::c,x,hx=>by
  rw[bP]at hx
  rcases List.mem_append.mp hx with hx|hx
  ·rw[List.getD_eq_getElem?_getD]at hx
   cases hr:(kin af w)[k]? with
   |none=>rw[hr]at hx;cases hx
   |some r =>
    rw[hr]at hx
    have hk:=ig (af:=af) (w:=w) (P:=fun rs=>∀r∈rs,∀x∈r,x.1∈ao) (fun _ h=>by cases h) h.mks
    exact hk r (List.mem_of_getElem? hr) x hx
  ·exact vE h x hx
def yk(ord:List (Str×Str)) (ax:Str) (af:List (Str×List Row)) (ws:List Str):Nat:=((chR af ws).map fun s=>W (rel ord) (s++[(ax,1)])).sum
theorem oC{ord:List (Str×Str)}{ax:Str}{ao:List Str}{af:List (Str×List Row)}{ws:List Str}(h:iQ ao af ws) (ho:ord.length<=8):xX ord ax af ws ((yk ord ax af ws:Nat):Int):=by
 have h1:=h.wsl
 have h2:=h.few
 refine Ea (K:=4) (B:=5) h.ok (by omega) (by omega) (by omega) (by omega) (by omega) (by omega) (by omega) fun w hw=>⟨h.sub w hw,h.wd w (h.sub w hw)⟩
theorem uM{ws:List Str}{n:Nat}:dLe (.tup (ws.map D.str)) (n+1)=true:=by
 show cx (ws.map D.str) n=true
 rw[jd]
 intro d hd
 obtain⟨x,_,rfl⟩:=List.mem_map.mp hd
 cases n<;>rfl
def oF:SpD:=fun ds M Q=>∃(p:Addr) (l:List D),ds=[.ref p]/\M p=some (.lst l)/\aS l/\Q (.bl true) noM
theorem tY{f:Addr}{fd:FuncData}(F:Fun K "_law_right" "_law_right" kA f fd) (T:Txt K mg) (g_l_lexicon:FnD P w K mg base "_law_lexicon" 4 3 kQ) (g_l_some_words:FnD P w K mg base "_law_some_words" 2 2 gJ) (g_l_choices:FnD P w K mg base "_law_choices" 1 2 kN) (g_p_many:FnD P w K mg base "many" 10 2 qC) (g_l_draw:FnD P w K mg base "_law_draw" 1 2 cq) (g_l_twice:FnD P w K mg base "_law_twice" 1 4 nR) (g_l_signs:FnD P w K mg base "_law_signs" 1 3 nT) (g_l_fits:FnD P w K mg base "_law_fits" 1 2 rD) (g_l_between:FnD P w K mg base "_law_between" 2 2 kO):ba P w K mg base CX0 11 f fd ["_law_well_here"] (spD K 1 oF):=by
 have nd:=mS.nd
 refine F.okQ rfl mS (fun cdv A outer s H E hr=>⟨_,(ai (ot (qd g_l_lexicon hr (aa (ab 0) (aa (aM aR ak (qd g_l_draw hr (aa (ab 0) (aa ak ag)))) (aa ak ag)))) (gq rfl (bc (aH (i:=1) nd rfl (Or.inl rfl)) (bc (aH (i:=2) nd rfl (Or.inl rfl)) (bc (aH (i:=3) nd rfl (Or.inl rfl)) gn)))))
   (cg (ai (aJ (i:=4) nd rfl (Or.inl rfl) (qd g_l_some_words hr (aa (ab 0) (aa (ab 3) ag))))
   (cg (ai (cf (xh (qh (bh (gx hr.units) (ab 4) (ab 3) nbh) (lA (bh (gx hr.units) (qd g_l_draw hr (aa (ab 0) (aa ak ag))) ak nbh)))) (ai (aJ (i:=5) nd rfl (Or.inl rfl) (qd g_l_draw hr (aa (ab 0) (aa (aB br rfl T.b_len (by kernel_rfl) (aa (ab 3) ag)) ag))))
   (av (ot (qd g_l_twice hr (aa (ab 1) (aa (ab 3) (aa (ab 5) (aa (qd g_l_draw hr (aa (ab 0) (aa (aB br rfl T.b_len (by kernel_rfl) (aa (ab 3) ag)) ag))) ag))))) (gq rfl (bc (aH (i:=1) nd rfl (Or.inl rfl)) (bc (aH (i:=4) nd rfl (Or.inl rfl)) gn)))))) bz)
   (cg (ai (cf (xh (Cs (ze (lX (qd g_l_fits hr (aa (ab 1) (aa (ab 4) ag))))) (Ad (bh EX (aB br rfl T.b_len (by kernel_rfl) (aa (qd g_l_choices hr (aa (ab 1) (aa (ab 4) ag))) ag)) ak nbh)))) (av (aJ (i:=4) nd rfl (Or.inl rfl) (eK (ab 4) fU (dI ak)))) bz)
   (cg (ai (aJ (i:=6) nd rfl (Or.inl rfl) ak)
   (cg (ai (cc PassesOwn.never rfl (cj (qd g_l_choices hr (aa (ab 1) (aa (ab 4) ag)))) (aH (i:=7) nd rfl (Or.inl rfl)) (ai (aJ (i:=8) nd rfl (Or.inl rfl) (qd g_l_signs hr (aa (ab 1) (aa (ab 4) (aa (ab 7) ag)))))
   (av (aJ (i:=6) nd rfl (Or.inl rfl) (aM aR (ab 6) (AQ hr.units1 (qd g_l_between hr (aa (ab 2) (aa (ab 8) ag))) (aa ak (aa (aB br rfl T.b_len (by kernel_rfl) (aa (ab 8) ag)) ag)) ak ⟨rfl,rfl,rfl,rfl⟩))))))
   (cg (ai (aJ (i:=9) nd rfl (Or.inl rfl) (qd g_p_many hr (aa (ab 1) (aa (ab 4) ag))))
   (cg (av (i8 (jL (yh (Tn:="int") (by decide) rfl T.b_isinstance rfl T.b_int (by kernel_rfl) (ab 9)) (jL (FR (yh (Tn:="bool") (by decide) rfl T.b_isinstance rfl T.b_bool (by kernel_rfl) (ab 9))) (jL (iH (gx hr.units) (ab 9) (ab 6) nbh) (nX (iH (gx hr.units) (qd g_p_many hr (aa (ab 1) (aa (bU ag) ag))) ak nbh))))))))))))))))))))),fun ds M R hl hS=>?_⟩)
 obtain⟨p,l,rfl,hM,hP,k⟩:=hS
 walk_at "rd"
 refine⟨p,l,6,rfl,hM,hP,by omega,by omega,fun v l1 a0 a1 hP1=>?_⟩
 obtain⟨n,rfl⟩:=Int.eq_ofNat_of_zero_le a0
 refine⟨.int ((n+1:Nat):Int),by show some (D.int (1+(n:Int)))=_;rw[Int.natCast_add,Int.add_comm];rfl,p,l1,n+1,24,rfl,aj,hP1,by omega,by omega,fun ord ax ao af pa kvs l2 ho hg hA hL hel hP2 hpa=>⟨_,rfl,aY ?_⟩⟩
 have hap:pa≠p:=by rintro rfl;rw[aj]at hpa;cases hpa
 rw[aF]
 have hcm:∀l3 l4,aw (aw (aw M p (.lst l3)) pa (.dT kvs)) p (.lst l4)=aw (aw M p (.lst l4)) pa (.dT kvs):=fun l3 l4=>by
  rw[<-bJ (Ne.symm hap),aF]
 have hpp:∀l3,aw (aw M p (.lst l3)) pa (.dT kvs) p=some (.lst l3):=fun l3=>by rw[au (Ne.symm hap),aj]
 have hf:=hL.few
 walk_at "rd"
 refine⟨p,l2,af.map (·.1),rfl,hpp _,hP2,by intro z;have:=congrArg List.length z;simp at this;rw[this]at hel;simp at hel,by rw[List.length_map];omega,fun us l3 hul hus hP3=>aY ?_⟩
 rw[hcm]
 refine lY (fun Δ' M'=>∃(ents':List (Str×List Row)) (ws:List Str) (l':List D) (x5:Option D),Δ'=[some (D.ref p),some (dE ord ax ents'),some (D.ref pa),some (D.tup ((af.map (·.1)).map D.str)),some (D.tup (ws.map D.str)),x5,none,none,none,none]/\M'=aw (aw M p (.lst l')) pa (.dT kvs)/\iQ ao ents' ws/\aS l') (fun nx knx=>?_) ?_
 ·have hsame:=knx _ _ ⟨af,us,l3,none,rfl,rfl,⟨hL.nd,hL.few,hL.ok,hL.mks,hL.wd,hul,hus⟩,hP3⟩
  walk_at "rd"
  refine⟨_,if_pos ⟨uM,uM⟩,_,rfl,cE (fun _=>?_) (fun _=>hsame)⟩
  refine⟨p,l3,3,rfl,hpp _,hP3,by omega,by omega,fun v2 l4 b0 b1 hP4=>?_⟩
  rw[hcm]
  refine⟨_,rfl,_,rfl,cE (fun _=>?_) (fun _=>knx _ _ ⟨af,us,l4,none,rfl,rfl,⟨hL.nd,hL.few,hL.ok,hL.mks,hL.wd,hul,hus⟩,hP4⟩)⟩
  rw[List.length_map,List.length_map]
  refine⟨p,l4,_,rfl,hpp _,hP4,by omega,by omega,fun v3 l5 c0 c1 hP5=>?_⟩
  rw[hcm]
  refine⟨p,l5,_,rfl,hpp _,hP5,by omega,by omega,fun v4 l6 d0 d1 hP6=>?_⟩
  rw[hcm]
  obtain⟨one,rfl⟩:=Int.eq_ofNat_of_zero_le c0
  obtain⟨other,rfl⟩:=Int.eq_ofNat_of_zero_le d0
  refine⟨ord,ax,ao,af,one,other,rfl,hL,by omega,by omega,fun ents' ws' hL'=>⟨_,rfl,knx _ _ ⟨ents',ws',l6,_,rfl,rfl,hL',hP6⟩⟩⟩
 rintro Δ' M' ⟨ents',ws,l4,x5,rfl,rfl,hL',hP4⟩
 refine aY ?_
 refine lY (fun Δ' M'=>∃(ws:List Str),Δ'=[some (D.ref p),some (dE ord ax ents'),some (D.ref pa),some (D.tup ((af.map (·.1)).map D.str)),some (D.tup (ws.map D.str)),x5,none,none,none,none]/\M'=aw (aw M p (.lst l4)) pa (.dT kvs)/\iQ ao ents' ws) (fun nx knx=>?_) ?_
 ·walk_at "rd"
  have hw6:=hL'.wsl
  have cut2:L2.cC (ws.map D.str) none (some 2)=(ws.take 2).map D.str:=by
   rw[show(some (2:Int))=some ((2:Nat):Int)from rfl,pS,List.map_take]
  have h2:iQ ao ents' (ws.take 2):=⟨hL'.nd,hL'.few,hL'.ok,hL'.mks,hL'.wd,by rw[List.length_take];omega,fun w hw=>hL'.sub w (List.mem_of_mem_take hw)⟩
  rw[cut2]
  refine⟨ord,ax,ents',ws,rfl,hL'.nd,hL'.ok,by omega,hL'.sub,fun b=>⟨_,rfl,cE (fun _=>knx _ _ ⟨_,rfl,rfl,h2⟩) (fun _=>?_)⟩⟩
  refine⟨ord,ax,ents',ws,rfl,hL'.nd,hL'.ok,by omega,hL'.sub,.int ((chC ents' ws).length:Int),by simp[rdM,fW],_,rfl,_,rfl,cE (fun _=>knx _ _ ⟨_,rfl,rfl,h2⟩) (fun _=>knx _ _ ⟨_,rfl,rfl,hL'⟩)⟩
 rintro Δ' M' ⟨ws,rfl,rfl,hL'⟩
 refine aY ?_
 walk_at "rd"
 refine aY ?_
 have hw6:=hL'.wsl
 generalize hM0:aw (aw M p (.lst l4)) pa (.dT kvs)=M0
 have hM0a:M0 pa=some (.dT kvs):=by rw[<-hM0];exact aj
 walk_at "rd"
 refine⟨ord,ax,ents',ws,rfl,hL'.nd,hL'.ok,by omega,hL'.sub,_,rfl,fun _=>?_⟩
 rw[Aj]
 refine aK (fun i Δ M'=>∃(x7 x8:Option D),Δ=[some (D.ref p),some (dE ord ax ents'),some (D.ref pa),some (D.tup ((af.map (·.1)).map D.str)),some (D.tup (ws.map D.str)),x5,some (D.int ((((chL ents' ws).take i).map fun c=>W (rel ord) (bP ents' ws c++[(ax,1)])).sum:Nat)),x7,x8,none]/\∀a u,M0 a=some u->M' a=some u) ⟨_,_,rfl,fun _ _ h=>h⟩ ?_ ?_
 ·rintro i d Δ M' X hd ⟨x7,x8,rfl,hold⟩ k'
  obtain⟨c,hci,rfl⟩:=cF hd
  have hc:=xZ (List.mem_of_getElem? hci)
  have bj:=lw hL'.ok (ws:=ws) (c:=c)
  simp only[bf]
  walk_at "rd"
  refine⟨ord,ax,ents',ws,c,rfl,hL'.nd,hL'.ok,by omega,hL'.sub,hc,?_⟩
  have hrl:(bP ents' ws c++[(ax,1)]).length<=60:=by rw[List.length_append,List.length_singleton];omega
  refine⟨ord,ao,pa,kvs,_,rfl,hold pa _ hM0a,hA,hrl,fun x hx=>?_,fun q tb hq htb=>?_⟩
  ·rcases List.mem_append.mp hx with h|h
   ·exact vE hL' x h
   ·rw[List.mem_singleton.mp h];exact hg
  refine⟨q,rfl,_,aj,.int ((bP ents' ws c++[(ax,1)]).length:Int),by simp[rdM,fW],sz3 2,tb,aj,[.inl 0,.inl ((bP ents' ws c++[(ax,1)]).length:Int)],rfl,?_⟩
  rw[htb]
  have es:(((chL ents' ws).take (i+1)).map fun c=>W (rel ord) (bP ents' ws c++[(ax,1)])).sum=(((chL ents' ws).take i).map fun c=>W (rel ord) (bP ents' ws c++[(ax,1)])).sum+W (rel ord) (bP ents' ws c++[(ax,1)]):=by
   rw[List.take_add_one,hci,List.map_append,List.sum_append];simp
  refine⟨_,rfl,k' _ _ ⟨some (chD c),some (D.lst ((bP ents' ws c++[(ax,1)]).map aE)),by rw[es,Int.natCast_add],fun a u e=>?_⟩⟩
  ·have h2:=hold a u e
   have hne:a≠q:=fun z=>by rw[z,hq]at h2;cases h2
   rw[au hne];exact h2
 ·rintro Δ M' ⟨x7,x8,rfl,hold⟩
  rw[List.length_map,List.take_length]
  refine aY ?_
  walk_at "rd"
  have hall:(((chL ents' ws).map fun c=>W (rel ord) (bP ents' ws c++[(ax,1)])).sum)=yk ord ax ents' ws:=by
   unfold yk
   rw[uy,List.map_map];rfl
  have h0:iQ ao ents' []:=⟨hL'.nd,hL'.few,hL'.ok,hL'.mks,hL'.wd,by simp,fun _ h=>(by cases h)⟩
  have hzero:yk ord ax ents' []=0:=by
   unfold yk
   simp only[chR,List.map_cons,List.map_nil,List.nil_append,List.sum_cons,List.sum_nil,Nat.add_zero]
   exact rN 1 _ (by simp) (by simp)
  rw[hall]
  refine⟨ord,ax,ents',ws,_,rfl,oC hL' ho,aY ?_⟩
  walk_at "rd"
  refine⟨true,rfl,?_⟩
  rw[if_pos rfl]
  refine⟨false,rfl,?_⟩
  rw[if_pos (by decide),if_pos (by simp)]
  refine⟨Nat.zero_le _,ord,ax,ents',[],_,rfl,oC h0 ho,?_⟩
  rw[hzero]
  exact⟨_,rfl,noM,LeM.no,k⟩
def S_law:SpD:=fun ds M R=>∃ns:List Int,ds=[.scr (ns.map .int)]/\M=noM/\ns.length<=63/\∀M',R (.bl true) M'
theorem DI{f:Addr}{fd:FuncData}(F:Fun K "law" "law" vm f fd) (T:Txt K mg) (g_l_right:FnD P w K mg base "_law_right" 11 1 oF) (g_l_well:FnD P w K mg base "_law_well" 1 2 qB):ba P w K mg base CX0 12 f fd ["_law_script"] (spD K 1 S_law):=by
 have nd:=zY.nd
 refine F.okQ rfl zY (fun cdv A outer s H E hr=>⟨_,(av (aT (aB (CC rfl) rfl T.b_all (by kernel_rfl) (aa (iz (ms:=[true]) (ah:=["_law_k"]) (aQ rfl (show aZ (am vm) zP _ _=true from by decide +kernel)) rfl (bx rfl T.b_range (aa (aB (FJ rfl) rfl T.b_max (by kernel_rfl) (aa ak (aa (aB (Cz rfl) rfl T.b_min (by kernel_rfl) (aa (aB br rfl T.b_len (by kernel_rfl) (aa (ab 0) ag)) (aa ak ag))) ag))) ag)) (aU (i:=1) (show(zP++_).Nodup from by decide +kernel) rfl rfl) (fun _ _ _ _=>bY) (fun _ _ _ _=>(qd g_l_right hr (aa (qd g_l_well hr (aa (ab 0) (aa (ab 1) ag))) ag)))) ag)))),fun ds M R hl hS=>?_⟩)
 obtain⟨ns,rfl,rfl,hn,k⟩:=hS
 walk_at "rd"
 rw[List.length_map]
 obtain⟨c,hc,ec⟩:∃c:Nat,c<=3/\(if(if 3<(ns.length:Int)then 3 else(ns.length:Int)) > 1 then if 3<(ns.length:Int)then 3 else(ns.length:Int)else 1)=(c:Int):=by
  by_cases h1:3<(ns.length:Int)
  ·exact⟨3,by omega,by simp[h1]⟩
  ·by_cases h2:(ns.length:Int) > 1
   ·exact⟨ns.length,by omega,by rw[if_neg h1,if_pos h2]⟩
   ·exact⟨1,by omega,by rw[if_neg h1,if_neg h2];rfl⟩
 rw[ec]
 refine⟨by omega,by omega,by rw[bv];exact sz3 _ (by omega),?_⟩
 refine jq (fun i acc Δ M'=>∃x:Option D,Δ=[some (D.scr (ns.map .int)),x]/\M'=noM/\acc=List.replicate i (D.bl true)) ⟨_,rfl,rfl,rfl⟩ ?_ ?_
 ·rintro i d acc Δ M' X hd ⟨x,rfl,rfl,rfl⟩ k'
  obtain⟨hi,rfl⟩:=cS hd
  refine⟨_,rfl,?_⟩
  walk_at "rd"
  simp only[qz,if_true]
  refine⟨ns,_,rfl,hn,by omega,by omega,fun p l hp hP=>?_⟩
  exact⟨p,l,rfl,aj,hP,k' _ _ _ ⟨_,rfl,rfl,by rw[List.replicate_succ']⟩⟩
 ·rintro acc Δ M' ⟨x,rfl,rfl,rfl⟩
  refine⟨_,?_,k _⟩
  have h1:∀n,(List.replicate n (D.bl true)).all Aa=true:=fun n=>by rw[List.all_eq_true];intro d hd;rw[List.eq_of_mem_replicate hd];rfl
  have h2:∀n,(List.replicate n (D.bl true)).all vV=true:=fun n=>by rw[List.all_eq_true];intro d hd;rw[List.eq_of_mem_replicate hd];rfl
  simp only[yI,h1,h2,if_true]
end
theorem FG:GL S_law:=fun ns R hn hR=>⟨ns,rfl,rfl,hn,hR⟩
theorem C4{l:PySem.W.OpenLaw}{w:World}{K:PySem.W.Frag}{h:Heap}{mg:Str->Option Value}{fa:Addr}(X:K.In h) (G:h.Ns mainGlobals mg) (hfa:mg "law"=some (.ref fa))
  {C:Addr}
  {f0:Addr} {d0:FuncData}
  {f1:Addr} {d1:FuncData}
  {f2:Addr} {d2:FuncData}
  {f3:Addr} {d3:FuncData}
  {f4:Addr} {d4:FuncData}
  {f5:Addr} {d5:FuncData}
  {f6:Addr} {d6:FuncData}
  {f7:Addr} {d7:FuncData}
  {f8:Addr} {d8:FuncData}
  {f9:Addr} {d9:FuncData}
  {f10:Addr} {d10:FuncData}
  {f11:Addr} {d11:FuncData}
  {f12:Addr} {d12:FuncData}
  {f13:Addr} {d13:FuncData}
  {f14:Addr} {d14:FuncData}
  {f15:Addr} {d15:FuncData}
  {f16:Addr} {d16:FuncData}
  {f17:Addr} {d17:FuncData}
  {f18:Addr} {d18:FuncData}
  {f19:Addr} {d19:FuncData}
  {f20:Addr} {d20:FuncData}
  {f21:Addr} {d21:FuncData}
  {f22:Addr} {d22:FuncData}
  {f23:Addr} {d23:FuncData}
  {f24:Addr} {d24:FuncData}
  {f25:Addr} {d25:FuncData}
  {f26:Addr} {d26:FuncData}
  {f27:Addr} {d27:FuncData}
  {f28:Addr} {d28:FuncData}
  {f29:Addr} {d29:FuncData}
  {f30:Addr} {d30:FuncData}
  {f31:Addr} {d31:FuncData}
  {f32:Addr} {d32:FuncData}
  {f33:Addr} {d33:FuncData}
  {f34:Addr} {d34:FuncData}
  {f35:Addr} {d35:FuncData}
  {f36:Addr} {d36:FuncData}
  {f37:Addr} {d37:FuncData}
  {f38:Addr} {d38:FuncData}
  {f39:Addr} {d39:FuncData}
  {f40:Addr} {d40:FuncData}
  {f41:Addr} {d41:FuncData}
  {ad_START:Addr} {nn_START:Nat} {ss_START:Array (Option Value)} {tk_START0 tk_START1 tk_START2:Tok}
  {tk_SMALL_LETTERS:Tok}
  {tk_MOST_LETTERS:Tok}
  (x0:bK K "is_short_word" cp f0 d0)
  (x1:bK K "reached_from" c8 f1 d1)
  (x2:bK K "words_of" dJ f2 d2)
  (x3:bK K "goals_wish" et f3 d3)
  (x4:bK K "places_of" dg f4 d4)
  (x5:bK K "last_place" eB f5 d5)
  (x6:bK K "sign_behind" dA f6 d6)
  (x7:bK K "next_place" eG f7 d7)
  (x8:bK K "begins_behind" ck f8 d8)
  (x9:bK K "counts_from" dB f9 d9)
  (x10:bK K "count_of_all" cX f10 d10)
  (x11:bK K "_law_well" mf f11 d11)
  (x12:bK K "_law_draw" me f12 d12)
  (x13:bK K "_law_above" ki f13 d13)
  (x14:bK K "_law_cancels" gL f14 d14)
  (x15:bK K "_law_choices" eV f15 d15)
  (x16:bK K "_law_signs" jQ f16 d16)
  (x17:bK K "_law_twice" fw f17 d17)
  (x18:bK K "_law_fits" ib f18 d18)
  (x19:bK K "at_most" hJ f19 d19)
  (x20:bK K "has_word" fP f20 d20)
  (x21:bK K "_law_marks" dW f21 d21)
  (x22:bK K "_law_order" jT f22 d22)
  (x23:bK K "_law_between" gQ f23 d23)
  (x24:bK K "_law_sign" mh f24 d24)
  (x25:bK K "_law_partner" fc f25 d25)
  (x26:bK K "_law_words" fo f26 d26)
  (x27:bK K "_law_pieces" iN f27 d27)
  (x28:bK K "_law_some_words" cR f28 d28)
  (x29:bK K "mark_leads" er f29 d29)
  (x30:bK K "kinds_of" fZ f30 d30)
  (x31:bK K "_law_whole_row" dj f31 d31)
  (x32:bK K "cancel" iP f32 d32)
  (x33:bK K "kinds_by_number" cB f33 d33)
  (x34:bK K "_law_lexicon" eZ f34 d34)
  (x35:bK K "are_joined" eJ f35 d35)
  (x36:bK K "first_steps" cb f36 d36)
  (m0:PySem.W.nsIn K mainGlobals "Chart"=some (some (.ref C))) (m1:PySem.W.makesIn K C=true) (m2:PySem.W.findIn K (.ref C) "__init__"=some (some (.ref f37))) (m3:PySem.W.isFn K (.ref f37)=true) (m4:PySem.W.keepIn K (.ref C)=true)
  (y1:PySem.W.plainGet K C Str.empty=true) (y2:PySem.W.hasDictIn K C=true) (y3:PySem.W.plainOver K C=true) (y4:PySem.W.findIn K (.ref C) "__setattr__"=some (some (.builtin "object.__setattr__")))
  (y_kinds:PySem.W.findIn K (.ref C) "kinds"=some none)
  (y_end:PySem.W.findIn K (.ref C) "end"=some none)
  (y_steps:PySem.W.findIn K (.ref C) "steps"=some none)
  (y_counts:PySem.W.findIn K (.ref C) "counts"=some none)
  (x37:Fun K "__init__" "Chart.__init__" kf f37 d37)
  (x38:bK K "chart_of" fS f38 d38)
  (x39:bK K "many" m5 f39 d39)
  (x40:bK K "_law_right" kA f40 d40)
  (x41:bK K "law" vm f41 d41)
  (z_isinstance:PySem.W.nsIn K mainGlobals "isinstance"=some none)
  (z_str:PySem.W.nsIn K mainGlobals "str"=some none)
  (z_all:PySem.W.nsIn K mainGlobals "all"=some none)
  (z_len:PySem.W.nsIn K mainGlobals "len"=some none)
  (z_enumerate:PySem.W.nsIn K mainGlobals "enumerate"=some none)
  (z_range:PySem.W.nsIn K mainGlobals "range"=some none)
  (z_max:PySem.W.nsIn K mainGlobals "max"=some none)
  (z_list:PySem.W.nsIn K mainGlobals "list"=some none)
  (z_abs:PySem.W.nsIn K mainGlobals "abs"=some none)
  (z_divmod:PySem.W.nsIn K mainGlobals "divmod"=some none)
  (z_tuple:PySem.W.nsIn K mainGlobals "tuple"=some none)
  (z_zip:PySem.W.nsIn K mainGlobals "zip"=some none)
  (z_min:PySem.W.nsIn K mainGlobals "min"=some none)
  (z_dict:PySem.W.nsIn K mainGlobals "dict"=some none)
  (z_int:PySem.W.nsIn K mainGlobals "int"=some none)
  (z_sum:PySem.W.nsIn K mainGlobals "sum"=some none)
  (z_bool:PySem.W.nsIn K mainGlobals "bool"=some none)
  (z_reversed:PySem.W.nsIn K mainGlobals "reversed"=some none)
  (z_START:PySem.W.nsIn K mainGlobals "START"=some (some (.ref ad_START))) (w_START:K.lookup ad_START=some ⟨.type "tuple",none,.seq #[.int (-1) tk_START0,.int (0) tk_START1,.int (0) tk_START2] nn_START,ss_START⟩)
  (z_SMALL_LETTERS:PySem.W.nsIn K mainGlobals "SMALL_LETTERS"=some (some (.str "abcdefghijklmnopqrstuvwxyz" tk_SMALL_LETTERS)))
  (z_MOST_LETTERS:PySem.W.nsIn K mainGlobals "MOST_LETTERS"=some (some (.int 8 tk_MOST_LETTERS)))
 :∃fd:FuncData,(∀(s:Shared) (v:Value),BindsTo s fd ⟨[v],[]⟩ [("_law_script",v)])/\∀base:Heap,K.In base->base.Ns mainGlobals mg->ba l.prog w K mg base CX0 12 fa fd ["_law_script"] (spD K 1 S_law):=by
 have T:Txt K mg:=⟨⟨_,PySem.W.mg_of X G z_START,.inr ⟨_,_,_,w_START,⟨rfl,rfl⟩,rfl,szB 3,(.cons ⟨_,rfl⟩ (.cons ⟨_,rfl⟩ (.cons ⟨_,rfl⟩ .nil)))⟩⟩,PySem.W.mg_none_of X G z_isinstance,PySem.W.mg_none_of X G z_str,PySem.W.mg_none_of X G z_all,PySem.W.mg_none_of X G z_len,PySem.W.mg_none_of X G z_enumerate,PySem.W.mg_none_of X G z_range,PySem.W.mg_none_of X G z_max,PySem.W.mg_none_of X G z_list,PySem.W.mg_none_of X G z_abs,PySem.W.mg_none_of X G z_divmod,PySem.W.mg_none_of X G z_tuple,PySem.W.mg_none_of X G z_zip,PySem.W.mg_none_of X G z_min,PySem.W.mg_none_of X G z_dict,PySem.W.mg_none_of X G z_int,PySem.W.mg_none_of X G z_sum,PySem.W.mg_none_of X G z_bool,PySem.W.mg_none_of X G z_reversed,⟨_,PySem.W.mg_of X G z_SMALL_LETTERS⟩,⟨_,PySem.W.mg_of X G z_MOST_LETTERS⟩⟩
 have Z:jz K C:=⟨⟨y1,y2,y3,y4⟩,y_kinds,y_end,y_steps,y_counts⟩
 refine Ee X G hfa x41 (fun _ _ _ _ _ _ _=>rfl) fun base=>?_
 have g_p_is_short_word:=fg X G x0 (iS (P:=l.prog) (w:=w) (base:=base) x0.F T ) (bd1 x0.F fun _ _ _ _ _ _ _=>rfl)
 have g_p_reached_from:=fg X G x1 (jI (P:=l.prog) (w:=w) (base:=base) x1.F T ) (bd2 x1.F fun _ _ _ _ _ _ _ _=>rfl)
 have g_p_words_of:=fg X G x2 (ny (P:=l.prog) (w:=w) (base:=base) x2.F T ) (bd1 x2.F fun _ _ _ _ _ _ _=>rfl)
 have g_p_goals_wish:=fg X G x3 (k9 (P:=l.prog) (w:=w) (base:=base) x3.F T ) (bd1 x3.F fun _ _ _ _ _ _ _=>rfl)
 have g_p_places_of:=fg X G x4 (mw (P:=l.prog) (w:=w) (base:=base) x4.F T ) (bd1 x4.F fun _ _ _ _ _ _ _=>rfl)
 have g_p_last_place:=fg X G x5 (kY (P:=l.prog) (w:=w) (base:=base) x5.F T ) (bd1 x5.F fun _ _ _ _ _ _ _=>rfl)
 have g_p_sign_behind:=fg X G x6 (kq (P:=l.prog) (w:=w) (base:=base) x6.F T ) (bd2 x6.F fun _ _ _ _ _ _ _ _=>rfl)
 have g_p_next_place:=fg X G x7 (k8 (P:=l.prog) (w:=w) (base:=base) x7.F T ) (bd1 x7.F fun _ _ _ _ _ _ _=>rfl)
 have g_p_begins_behind:=fg X G x8 (iZ (P:=l.prog) (w:=w) (base:=base) x8.F T ) (bd2 x8.F fun _ _ _ _ _ _ _ _=>rfl)
 have g_p_counts_from:=fg X G x9 (j0 (P:=l.prog) (w:=w) (base:=base) x9.F T Z ) (bd2 x9.F fun _ _ _ _ _ _ _ _=>rfl)
 have g_p_count_of_all:=fg X G x10 (jO (P:=l.prog) (w:=w) (base:=base) x10.F T Z ) (bd1 x10.F fun _ _ _ _ _ _ _=>rfl)
 have g_l_well:=fg X G x11 (we (P:=l.prog) (w:=w) (base:=base) x11.F T ) (bd2 x11.F fun _ _ _ _ _ _ _ _=>rfl)
 have g_l_draw:=fg X G x12 (xl (P:=l.prog) (w:=w) (base:=base) x12.F T ) (bd2 x12.F fun _ _ _ _ _ _ _ _=>rfl)
 have g_l_above:=fg X G x13 (tP (P:=l.prog) (w:=w) (base:=base) x13.F T ) (bd2 x13.F fun _ _ _ _ _ _ _ _=>rfl)
 have g_l_cancels:=fg X G x14 (o8 (P:=l.prog) (w:=w) (base:=base) x14.F T ) (bd3 x14.F fun _ _ _ _ _ _ _ _ _=>rfl)
 have g_l_choices:=fg X G x15 (pV (P:=l.prog) (w:=w) (base:=base) x15.F T ) (bd2 x15.F fun _ _ _ _ _ _ _ _=>rfl)
 have g_l_signs:=fg X G x16 (tw (P:=l.prog) (w:=w) (base:=base) x16.F T ) (bd3 x16.F fun _ _ _ _ _ _ _ _ _=>rfl)
 have g_l_twice:=fg X G x17 (tH (P:=l.prog) (w:=w) (base:=base) x17.F T ) (bd4 x17.F fun _ _ _ _ _ _ _ _ _ _=>rfl)
 have g_l_fits:=fg X G x18 (vU (P:=l.prog) (w:=w) (base:=base) x18.F T ) (bd2 x18.F fun _ _ _ _ _ _ _ _=>rfl)
 have g_p_at_most:=fg X G x19 (qw (P:=l.prog) (w:=w) (base:=base) x19.F T g_p_reached_from) (bd3 x19.F fun _ _ _ _ _ _ _ _ _=>rfl)
 have g_p_has_word:=fg X G x20 (nI (P:=l.prog) (w:=w) (base:=base) x20.F T g_p_is_short_word g_p_words_of) (bd2 x20.F fun _ _ _ _ _ _ _ _=>rfl)
 have g_l_marks:=fg X G x21 (tG (P:=l.prog) (w:=w) (base:=base) x21.F T g_l_draw) (bd1 x21.F fun _ _ _ _ _ _ _=>rfl)
 have g_l_order:=fg X G x22 (ub (P:=l.prog) (w:=w) (base:=base) x22.F T g_l_draw) (bd2 x22.F fun _ _ _ _ _ _ _ _=>rfl)
 have g_l_between:=fg X G x23 (p8 (P:=l.prog) (w:=w) (base:=base) x23.F T g_l_cancels) (bd2 x23.F fun _ _ _ _ _ _ _ _=>rfl)
 have g_l_sign:=fg X G x24 (wU (P:=l.prog) (w:=w) (base:=base) x24.F T g_l_draw) (bd3 x24.F fun _ _ _ _ _ _ _ _ _=>rfl)
 have g_l_partner:=fg X G x25 (qg (P:=l.prog) (w:=w) (base:=base) x25.F T g_l_cancels g_l_draw) (bd4 x25.F fun _ _ _ _ _ _ _ _ _ _=>rfl)
 have g_l_words:=fg X G x26 (uc (P:=l.prog) (w:=w) (base:=base) x26.F T g_l_draw) (bd2 x26.F fun _ _ _ _ _ _ _ _=>rfl)
 have g_l_pieces:=fg X G x27 (rF (P:=l.prog) (w:=w) (base:=base) x27.F T g_l_draw) (bd3 x27.F fun _ _ _ _ _ _ _ _ _=>rfl)
 have g_l_some_words:=fg X G x28 (lh (P:=l.prog) (w:=w) (base:=base) x28.F T g_l_draw) (bd2 x28.F fun _ _ _ _ _ _ _ _=>rfl)
 have g_p_mark_leads:=fg X G x29 (kT (P:=l.prog) (w:=w) (base:=base) x29.F T g_p_at_most) (bd4 x29.F fun _ _ _ _ _ _ _ _ _ _=>rfl)
 have g_p_kinds_of:=fg X G x30 (nE (P:=l.prog) (w:=w) (base:=base) x30.F T g_p_has_word g_p_words_of) (bd2 x30.F fun _ _ _ _ _ _ _ _=>rfl)
 have g_l_whole_row:=fg X G x31 (mV (P:=l.prog) (w:=w) (base:=base) x31.F T g_l_draw g_l_sign g_l_partner) (bd5 x31.F fun _ _ _ _ _ _ _ _ _ _ _=>rfl)
 have g_p_cancel:=fg X G x32 (rh (P:=l.prog) (w:=w) (base:=base) x32.F T g_p_mark_leads) (bd3 x32.F fun _ _ _ _ _ _ _ _ _=>rfl)
 have g_p_kinds_by_number:=fg X G x33 (gT (P:=l.prog) (w:=w) (base:=base) x33.F T g_p_kinds_of g_p_goals_wish) (bd2 x33.F fun _ _ _ _ _ _ _ _=>rfl)
 have g_l_lexicon:=fg X G x34 (oW (P:=l.prog) (w:=w) (base:=base) x34.F T g_l_marks g_l_order g_l_above g_l_whole_row g_l_words g_l_draw g_l_sign g_l_pieces) (bd3 x34.F fun _ _ _ _ _ _ _ _ _=>rfl)
 have g_p_are_joined:=fg X G x35 (kX (P:=l.prog) (w:=w) (base:=base) x35.F T g_p_cancel) (bd3 x35.F fun _ _ _ _ _ _ _ _ _=>rfl)
 have g_p_first_steps:=fg X G x36 (kc (P:=l.prog) (w:=w) (base:=base) x36.F T Z g_p_sign_behind g_p_next_place g_p_are_joined g_p_begins_behind) (bd3 x36.F fun _ _ _ _ _ _ _ _ _=>rfl)
 have g_p_Chart:MkD l.prog w K mg base "Chart" C 7 3 (j6 C):=⟨_,_,_,⟨m1,m2,m3,m4⟩,sE x37 T Z g_p_last_place g_p_places_of g_p_first_steps g_p_counts_from,PySem.W.mg_of X G m0,bd3 x37 fun _ _ _ _ _ _ _ _ _=>rfl⟩
 have g_p_chart_of:=fg X G x38 (nz (P:=l.prog) (w:=w) (base:=base) x38.F T g_p_Chart g_p_kinds_by_number) (bd2 x38.F fun _ _ _ _ _ _ _ _=>rfl)
 have g_p_many:=fg X G x39 (xo (P:=l.prog) (w:=w) (base:=base) x39.F T g_p_count_of_all g_p_chart_of) (bd2 x39.F fun _ _ _ _ _ _ _ _=>rfl)
 have g_l_right:=fg X G x40 (tY (P:=l.prog) (w:=w) (base:=base) x40.F T g_l_lexicon g_l_some_words g_l_choices g_p_many g_l_draw g_l_twice g_l_signs g_l_fits g_l_between) (bd1 x40.F fun _ _ _ _ _ _ _=>rfl)
 exact DI x41.F T g_l_right g_l_well
end My
namespace PySem.W.Fast
theorem tw10052633353243613386:True:=⟨⟩
theorem tw101344703409832471:True:=⟨⟩
theorem tw10216662606595228800:True:=⟨⟩
theorem tw10224442216735006257:True:=⟨⟩
theorem tw10439470169649493467:True:=⟨⟩
theorem tw10555516765213308889:True:=⟨⟩
theorem tw1069828707915971659:True:=⟨⟩
theorem tw10753163044173122535:True:=⟨⟩
theorem tw10768716618306009087:True:=⟨⟩
theorem tw10799820906772505821:True:=⟨⟩
theorem tw10855950521281403110:True:=⟨⟩
theorem tw10904084221394264072:True:=⟨⟩
theorem tw10934978408881582054:True:=⟨⟩
theorem tw11029693300083762881:True:=⟨⟩
theorem tw11174047552047840906:True:=⟨⟩
theorem tw11185878681112325135:True:=⟨⟩
theorem tw11319101489197984254:True:=⟨⟩
theorem tw11414141339550997087:True:=⟨⟩
theorem tw11439429232282728929:True:=⟨⟩
theorem tw11525278380541648471:True:=⟨⟩
theorem tw11546627621025137302:True:=⟨⟩
theorem tw11616308260749208211:True:=⟨⟩
theorem tw11712137038730644460:True:=⟨⟩
theorem tw11750867149847803411:True:=⟨⟩
theorem tw11802241337387058887:True:=⟨⟩
theorem tw11855067299325697357:True:=⟨⟩
theorem tw11902801746116422232:True:=⟨⟩
theorem tw11903791565924146294:True:=⟨⟩
theorem tw11935425427280495989:True:=⟨⟩
theorem tw11954441745588914881:True:=⟨⟩
theorem tw11981773294220569857:True:=⟨⟩
theorem tw12094590588873228339:True:=⟨⟩
theorem tw12098652843659877056:True:=⟨⟩
theorem tw12100608865883777515:True:=⟨⟩
theorem tw12163481660253987041:True:=⟨⟩
theorem tw12170091478251554848:True:=⟨⟩
theorem tw12179834653421607197:True:=⟨⟩
theorem tw12238983915842668300:True:=⟨⟩
theorem tw12288466491229060878:True:=⟨⟩
theorem tw12325477548960626343:True:=⟨⟩
theorem tw12329484816838090866:True:=⟨⟩
theorem tw12372198771976645336:True:=⟨⟩
theorem tw12375766242520276975:True:=⟨⟩
theorem tw12412244139564268996:True:=⟨⟩
theorem tw12488713240644232668:True:=⟨⟩
theorem tw12491421855130991825:True:=⟨⟩
theorem tw12777918839781571603:True:=⟨⟩
theorem tw12794553067171803249:True:=⟨⟩
theorem tw12844254012182123756:True:=⟨⟩
theorem tw12867464682423610353:True:=⟨⟩
theorem tw12875493652391705519:True:=⟨⟩
theorem tw13006443784686042201:True:=⟨⟩
theorem tw1308792105804364681:True:=⟨⟩
theorem tw13198023673607618615:True:=⟨⟩
theorem tw13310009053220141109:True:=⟨⟩
theorem tw13364593181171198613:True:=⟨⟩
theorem tw13396056684358148161:True:=⟨⟩
theorem tw13403896643575184515:True:=⟨⟩
theorem tw1351483869797210498:True:=⟨⟩
theorem tw13535002438438248380:True:=⟨⟩
theorem tw13557397332362450017:True:=⟨⟩
theorem tw13624683321212356595:True:=⟨⟩
theorem tw13699096363830618830:True:=⟨⟩
theorem tw13768728465676106248:True:=⟨⟩
theorem tw13812719788887554850:True:=⟨⟩
theorem tw13824930337205382368:True:=⟨⟩
theorem tw13854597615028423724:True:=⟨⟩
theorem tw13909312437435199634:True:=⟨⟩
theorem tw13943179437505064244:True:=⟨⟩
theorem tw13987012512923618197:True:=⟨⟩
theorem tw14036421488923361118:True:=⟨⟩
theorem tw14068479047207779393:True:=⟨⟩
theorem tw14288023100857913694:True:=⟨⟩
theorem tw14290035399458368567:True:=⟨⟩
theorem tw14340316298041995580:True:=⟨⟩
theorem tw14351807425884344052:True:=⟨⟩
theorem tw14459170328193229800:True:=⟨⟩
theorem tw14491121780601142871:True:=⟨⟩
theorem tw14526375403747009087:True:=⟨⟩
theorem tw14738590705739081782:True:=⟨⟩
theorem tw14768013234563847629:True:=⟨⟩
theorem tw14787219380616624639:True:=⟨⟩
theorem tw14793740180346501827:True:=⟨⟩
theorem tw14814800542128063447:True:=⟨⟩
theorem tw14828428440431639702:True:=⟨⟩
theorem tw14843760702018598047:True:=⟨⟩
theorem tw14844751979612664447:True:=⟨⟩
theorem tw14916072647455440446:True:=⟨⟩
theorem tw14942235835789476112:True:=⟨⟩
theorem tw15117199963708431150:True:=⟨⟩
theorem tw15199378059087514692:True:=⟨⟩
theorem tw15227359200930041497:True:=⟨⟩
theorem tw15229899068271413266:True:=⟨⟩
theorem tw15249794453310080656:True:=⟨⟩
theorem tw15270470438132231675:True:=⟨⟩
theorem tw15378644426729501835:True:=⟨⟩
theorem tw15468369845562157675:True:=⟨⟩
theorem tw15592422480601890331:True:=⟨⟩
theorem tw15728941501511173227:True:=⟨⟩
theorem tw15837886575595896017:True:=⟨⟩
theorem tw15840463655634752424:True:=⟨⟩
theorem tw15899669916854847435:True:=⟨⟩
theorem tw15913012496894713035:True:=⟨⟩
theorem tw15933417453253212577:True:=⟨⟩
theorem tw15941264346716641498:True:=⟨⟩
theorem tw15945542061395945640:True:=⟨⟩
theorem tw16095062362651709665:True:=⟨⟩
theorem tw16184959567392643220:True:=⟨⟩
theorem tw16242483780554648594:True:=⟨⟩
theorem tw16256682062630764041:True:=⟨⟩
theorem tw16309327893569416117:True:=⟨⟩
theorem tw16350179793743545048:True:=⟨⟩
theorem tw16357231739317003572:True:=⟨⟩
theorem tw16378710762632508592:True:=⟨⟩
theorem tw16484730485420494886:True:=⟨⟩
theorem tw16583159493907645512:True:=⟨⟩
theorem tw16603319377826560535:True:=⟨⟩
theorem tw16609898868534352597:True:=⟨⟩
theorem tw1671891471783523191:True:=⟨⟩
theorem tw16770049887019275605:True:=⟨⟩
theorem tw16827272308384509804:True:=⟨⟩
theorem tw16985808322364333660:True:=⟨⟩
theorem tw16990868763780230769:True:=⟨⟩
theorem tw1703131659446805512:True:=⟨⟩
theorem tw1703981280953821195:True:=⟨⟩
theorem tw17223460480869240601:True:=⟨⟩
theorem tw17228350851248193939:True:=⟨⟩
theorem tw17344949576681130488:True:=⟨⟩
theorem tw17413108603369045327:True:=⟨⟩
theorem tw17471528598837419052:True:=⟨⟩
theorem tw17472952741991533438:True:=⟨⟩
theorem tw17490087069108661335:True:=⟨⟩
theorem tw17587216079626847311:True:=⟨⟩
theorem tw1765978328432535222:True:=⟨⟩
theorem tw17680992259437409635:True:=⟨⟩
theorem tw17686383276563588982:True:=⟨⟩
theorem tw17697695739913411080:True:=⟨⟩
theorem tw17735289788350834840:True:=⟨⟩
theorem tw17800096211416303465:True:=⟨⟩
theorem tw17964639847256953387:True:=⟨⟩
theorem tw18039729811790104414:True:=⟨⟩
theorem tw1813649360303943912:True:=⟨⟩
theorem tw18167087137751376075:True:=⟨⟩
theorem tw18237532109324564954:True:=⟨⟩
theorem tw18238462498202494581:True:=⟨⟩
theorem tw18238777929681155715:True:=⟨⟩
theorem tw1834818720674144097:True:=⟨⟩
theorem tw18404442467588790930:True:=⟨⟩
theorem tw18430025127982958277:True:=⟨⟩
theorem tw1860601483448055366:True:=⟨⟩
theorem tw1895077474711775950:True:=⟨⟩
theorem tw1962704291199218860:True:=⟨⟩
theorem tw2091325292952115573:True:=⟨⟩
theorem tw2125725516931937397:True:=⟨⟩
theorem tw2134222358619954271:True:=⟨⟩
theorem tw2144330874175851503:True:=⟨⟩
theorem tw2195156933820412030:True:=⟨⟩
theorem tw224752070658907950:True:=⟨⟩
theorem tw2269739753590975472:True:=⟨⟩
theorem tw2280130209843617507:True:=⟨⟩
theorem tw2311290913980799518:True:=⟨⟩
theorem tw2325113485741095355:True:=⟨⟩
theorem tw2415462396135348462:True:=⟨⟩
theorem tw245070658188780848:True:=⟨⟩
theorem tw2540879537331084866:True:=⟨⟩
theorem tw2541890251692129298:True:=⟨⟩
theorem tw2628716560838055524:True:=⟨⟩
theorem tw2638618729508131054:True:=⟨⟩
theorem tw2726408424484949748:True:=⟨⟩
theorem tw2825992380670449942:True:=⟨⟩
theorem tw2842247649540138667:True:=⟨⟩
theorem tw284768517384415893:True:=⟨⟩
theorem tw3210466568008092433:True:=⟨⟩
theorem tw3308690896967003212:True:=⟨⟩
theorem tw3436763014415232563:True:=⟨⟩
theorem tw3439351036463534643:True:=⟨⟩
theorem tw3462789256917116932:True:=⟨⟩
theorem tw3543908380885071430:True:=⟨⟩
theorem tw3559471916121317467:True:=⟨⟩
theorem tw356205974112932549:True:=⟨⟩
theorem tw3589448657383505778:True:=⟨⟩
theorem tw3746415906139455962:True:=⟨⟩
theorem tw3775474085022171247:True:=⟨⟩
theorem tw3841974726954053209:True:=⟨⟩
theorem tw3880595276713858684:True:=⟨⟩
theorem tw3950283109036649578:True:=⟨⟩
theorem tw3954478040286098246:True:=⟨⟩
theorem tw3976294718500301397:True:=⟨⟩
theorem tw4018321630804478469:True:=⟨⟩
theorem tw4174895570615541055:True:=⟨⟩
theorem tw4175190398457665053:True:=⟨⟩
theorem tw424136048577132511:True:=⟨⟩
theorem tw4357883552772230463:True:=⟨⟩
theorem tw4444843389878780824:True:=⟨⟩
theorem tw4448358124682355772:True:=⟨⟩
theorem tw4489461393342143877:True:=⟨⟩
theorem tw4512240041554382741:True:=⟨⟩
theorem tw4626476706273571943:True:=⟨⟩
theorem tw4658897036633316778:True:=⟨⟩
theorem tw4928041041808553054:True:=⟨⟩
theorem tw4988292332039188695:True:=⟨⟩
theorem tw4999278966425857857:True:=⟨⟩
theorem tw5008439609562863242:True:=⟨⟩
theorem tw515660971861033485:True:=⟨⟩
theorem tw5168450118388694493:True:=⟨⟩
theorem tw5248776627261248814:True:=⟨⟩
theorem tw5273886723272803405:True:=⟨⟩
theorem tw5310345723683500446:True:=⟨⟩
theorem tw5349981183975582428:True:=⟨⟩
theorem tw5451540687232250503:True:=⟨⟩
theorem tw5513574831659284849:True:=⟨⟩
theorem tw5567833069445381961:True:=⟨⟩
theorem tw570158981993841678:True:=⟨⟩
theorem tw5732954424775572614:True:=⟨⟩
theorem tw5779730362111662431:True:=⟨⟩
theorem tw5845991338840729638:True:=⟨⟩
theorem tw5872976756766562043:True:=⟨⟩
theorem tw5958043024532415889:True:=⟨⟩
theorem tw5991168746471936952:True:=⟨⟩
theorem tw6027084252426541360:True:=⟨⟩
theorem tw6044580852054975518:True:=⟨⟩
theorem tw6161084527670140060:True:=⟨⟩
theorem tw6240755660800286958:True:=⟨⟩
theorem tw6269329518511200478:True:=⟨⟩
theorem tw627806340187332632:True:=⟨⟩
theorem tw6435488554625771894:True:=⟨⟩
theorem tw6448162782436302446:True:=⟨⟩
theorem tw6456592936164977966:True:=⟨⟩
theorem tw6472318244585629110:True:=⟨⟩
theorem tw6505324151024367668:True:=⟨⟩
theorem tw6570948629824879682:True:=⟨⟩
theorem tw6572870646990423437:True:=⟨⟩
theorem tw6600321803180398791:True:=⟨⟩
theorem tw668660268227788057:True:=⟨⟩
theorem tw6837510566375832879:True:=⟨⟩
theorem tw6968495176405774238:True:=⟨⟩
theorem tw6981429411907752458:True:=⟨⟩
theorem tw7086304256095300225:True:=⟨⟩
theorem tw7131483562447676207:True:=⟨⟩
theorem tw7145774097345811944:True:=⟨⟩
theorem tw7164646241214176629:True:=⟨⟩
theorem tw7171649882887496031:True:=⟨⟩
theorem tw7185824116909861050:True:=⟨⟩
theorem tw7403690529693413901:True:=⟨⟩
theorem tw7414852845020933555:True:=⟨⟩
theorem tw7445059531174408635:True:=⟨⟩
theorem tw7461532555357560049:True:=⟨⟩
theorem tw7488712831598474564:True:=⟨⟩
theorem tw7492901846786300899:True:=⟨⟩
theorem tw7496990967205093770:True:=⟨⟩
theorem tw7542869882334714433:True:=⟨⟩
theorem tw755083207894124691:True:=⟨⟩
theorem tw7594150731210011559:True:=⟨⟩
theorem tw7599711508509368044:True:=⟨⟩
theorem tw7600264958768441359:True:=⟨⟩
theorem tw7635085700059113389:True:=⟨⟩
theorem tw763778944038231897:True:=⟨⟩
theorem tw770309602932717452:True:=⟨⟩
theorem tw7741884641402567691:True:=⟨⟩
theorem tw7772496127970184739:True:=⟨⟩
theorem tw7813326020252086738:True:=⟨⟩
theorem tw7851387242709282064:True:=⟨⟩
theorem tw7877698501235811554:True:=⟨⟩
theorem tw7996619569842652860:True:=⟨⟩
theorem tw8043480697941158511:True:=⟨⟩
theorem tw8059168539945318044:True:=⟨⟩
theorem tw8101310461266403058:True:=⟨⟩
theorem tw8226984058727329055:True:=⟨⟩
theorem tw8276411602342958187:True:=⟨⟩
theorem tw8310989291099021816:True:=⟨⟩
theorem tw8350114237959691176:True:=⟨⟩
theorem tw8402777753453413866:True:=⟨⟩
theorem tw8429265364255089113:True:=⟨⟩
theorem tw8464717654106317586:True:=⟨⟩
theorem tw8486542171365514953:True:=⟨⟩
theorem tw8609327265780313666:True:=⟨⟩
theorem tw874067490719410560:True:=⟨⟩
theorem tw8855720655257732907:True:=⟨⟩
theorem tw8882649053516276647:True:=⟨⟩
theorem tw8893623715237187105:True:=⟨⟩
theorem tw8978596222182166737:True:=⟨⟩
theorem tw9046149712089520203:True:=⟨⟩
theorem tw9055820956220176433:True:=⟨⟩
theorem tw9077590879025515090:True:=⟨⟩
theorem tw9107992631293354980:True:=⟨⟩
theorem tw916888241046370546:True:=⟨⟩
theorem tw9179892692636397611:True:=⟨⟩
theorem tw9210412091339317044:True:=⟨⟩
theorem tw9359259641316106178:True:=⟨⟩
theorem tw9478074043731920791:True:=⟨⟩
theorem tw9688608453855821223:True:=⟨⟩
theorem tw9731586459818671360:True:=⟨⟩
theorem tw9754077538647459921:True:=⟨⟩
theorem tw976704931952491787:True:=⟨⟩
end PySem.W.Fast
open PySem PySem.W PyProof.Rows
set_option maxRecDepth 100000 in
set_option maxHeartbeats 0 in
theorem PySem.Challenge.cw_wordwishes_k26_drawings_counted_holds : PySem.Challenge.rw_wordwishes_k26_drawings_counted.Holds := by
 w_on;o_law;z_head;(case hw=>w_witness2)
 k_fill
 refine L2.zR (fun _=>rfl) ?_
 refine L2.GS (S:=My.S_law) My.FG (k:=12) (x:="_law_script") (l:=PySem.Challenge.rw_wordwishes_k26_drawings_counted) ⟨rfl,by decide,by decide⟩ rfl rfl (fun w h Y=>Y) ?F
 case F =>
  intro w mg fa h KX G hmg
  refine' My.C4 KX G hmg ?_ ?_ ?_ ?_ ?_ ?_ ?_ ?_ ?_ ?_ ?_ ?_ ?_ ?_ ?_ ?_ ?_ ?_ ?_ ?_ ?_ ?_ ?_ ?_ ?_ ?_ ?_ ?_ ?_ ?_ ?_ ?_ ?_ ?_ ?_ ?_ ?_ ?_ ?_ ?_ ?_ ?_ ?_ ?_ ?_ ?_ ?_ ?_ ?_ ?_ ?_ ?_ ?_ ?_ ?_ ?_ ?_ ?_ ?_ ?_ ?_ ?_ ?_ ?_ ?_ ?_ ?_ ?_ ?_ ?_ ?_ ?_ ?_ ?_ ?_ ?_ ?_
  all_goals try first|exact L2.G4 (by k_is) (by k_is) (by k_is) (by k_is)|exact L2.yJ (by k_is) (by k_is) (by k_is)|k_is
